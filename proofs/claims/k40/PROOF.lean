import PyProof.Rows.All
import Wide.All
import OpenK.AllK
import Wide.FinOn
import Lean
import PyProof.EqAt
import PyProof.EqKinds
import PyProof.TupleCall
import KE.KDictOf
import PyProof.AttrMissSeq
import PyProof.DictCopy
import PyProof.NeKinds
import PyProof.DictWalks
import PyProof.MinMaxWalk
import PyProof.MeetsDictList
import PyProof.DictFindH
import PyProof.DictTruth
import KE.KRevSl
import PyProof.DictItems
import KE.KDictSum
import PyProof.Rows.SortStr
import PyProof.Rows.SortWalk
import PyProof.ExcArgsOwn
import PyProof.NsDelKeeps
import PyProof.EnumMake
import PyProof.EnumFor
import PyProof.EnumStmt
import PyProof.Rows.EnumRows
import PyProof.Rows.SortRev
import KE.KSortTup
import KE.KTab
import PyProof.Rows.SortShell
import PySem.Challenge.RW_momentloom_k40_keepers_run
open Option renaming some->Z8,none->Z7
theorem Z9.{u}{α:Sort u}{a:α}:a=a:=rfl
local macro_rules
| `({$x:term,*})=>`(⟨$x,*⟩)
open PySem renaming Addr->aa,Value->ae,Shared->ao,wpAny_bind->au,sizeLine->aC,Paired->aH,Program->aL,wpAny->aW,model->aX,wpAny_pure->bf,mainGlobals->bj,World->bA,FuncData->bS,Around->bY,wpAny_loadPart'->b8,Heap->cu,starEach->cw,boot_len->cy,Expr->cL,Stmt->cU,compareOp->dI,cLine->d8,bootBuiltins->eK,wpAny_mono->eQ,wpAny_holding->eU,sysModules->eY,eval->fy,mem_of_lookup->gm,wpAny_Call_Name_kw->gR,Builtin->gW,binaryOp->iB,wpAny_passesOwn->iN,wpAny_richCompare_same_room->i0,backTo->jf,keywordEach->jg,behindInMarks->jE,codeAny_builtin->jJ,wpAny_truthy_bool->kC,NameKind->kD,assignEach->kQ,wpAny_forIn_list->kW,attributeBase->lF,Scope->lG,sizeLine_eq->lH,sliceBounds->lJ,codeAny_mono->mO,call_meetsIn->mQ,getMethod->nI,backToKw->nY,call_meets->oa,tupleKind_room_in1->og,foldedSetIterable->o4,codeAny->o5,richCompare->o6,valueAt->o7,wpAny_dictEntries->o8,rawInt->pj,wpAny_newList->pU,wpAny_call_entry->qF,holding->qS,richCompare_meets_room->qW,wpAny_execs_nil->rj,letOwnedTupleGo->rp,unbindBehindTheSuite->tE,swapsWith->tV,BindsTo->tY,ExceptHandler->uP,plainId_quiet->uS,call->vw,stored->vF,standAt->wR,callerA->wZ,wpAny_pyIter_slot->w8,tupleKind->yb,assign->ye,subscripted->zg,wpAny_field->zi,Within->zt,leaving->Ar,getItem->As,MeetsIn->Av,callWith->AI,bindArgs->AM,wpAny_call->AO,wpAny_newFunctionEnv_cells->AR,atKey->AX,wpAny_setField->AZ,wpAny_rule->A2,evalArgs_none->BP,wpAny_standAt->Dv,call->Ec,bindL->EO,bindC->ER,cellsFrom->ES,wpAny_Call_method0_late->EV,noteFrame->EX,isTrue->E4,wpAny_pyNext_list_item->Fb,seqIndex_neg->Ft,wpAny_isTrue_Compare1->Ir,wpAny_pyNext_list_end->Iu,codeAny_call_function->Iv,Model->IG,Operator->IJ,rule->IK,seqIndex_of->IW,KeyKind->KB,builtinsNs->LW,wpAny_Name->LY,Result->Md,typeLookup->Mf,checkCount->MI,CmpOp->Oa,wpAny_assign_Name->Ob,wpAny_pyIter_list->Oc,Keyword->Od,slot_list_getitem->Of,wpAny_newObj_type->Oh
open PySem.W renaming Frag->af,findIn->aS,nsIn->b9,mg_none_of->cJ,excIn->cX,exmOne->dh,mg_of->dY,kia_one->eO,emptyDict->eZ,fnOf->e7,keepIn->gz,kitOne->gA,instObj->gJ,codeIn->jr,methodCall_KW->jI,looks_findIn->j0,callWith_K->kT,katRev->kY,plainGet->mK,isFn->nX,cellsFrom_some->nZ,hideAll->oM,lookIn->pA,plainGet_of->qE,methodObj->rq,hasDictIn->rD,takerIn->uq,makesIn->uu,OpenLaw->uy,InstAt->vB,mroIn->wU,hideAll_get->Ao,callWith_K0->Aq,of_hideAll->Az,codeRec_of->AQ,plainOver->BL,specialIn->BM,kitx_list->BN,kitx_dict->BO,handedIn->DI,takesIn->EM,exm_one->E1,typeIn->Fn,notCls->FS,WalkO->Iy,kas_rev->Om
open List renaming mem_cons_of_mem->ah,length_map->aq,mem_cons->ar,mem_cons_self->ax,length_append->ay,mem_singleton->aE,getElem?_eq_some_iff->aF,size_toArray->aG,not_mem_nil->aI,getElem?_eq_getElem->aO,length_cons->aU,mem_append_right->bC,mem_of_getElem?->bD,lookup_cons_self->bQ,map_append->bT,map_cons->bU,getElem?_map->cm,mem_map->cq,mem_append->cv,replicate->cz,lookup_cons->cA,append_nil->cB,nodup_cons->cC,length_nil->cH,length_take->cK,pairwise_iff_getElem->c9,getElem?_of_mem->dB,map_map->dC,getElem?_append_right->dP,getD_eq_getElem?_getD->dR,take_length->dS,take_add_one->d9,getElem?_append_left->eI,range->eT,getElem?_set_self->fq,map_congr_left->gv,zip_cons_cons->gG,pairwise_cons->gH,getElem?_eq_none->gI,mem_append_left->gU,nodup_append->gY,pairwise_append->gZ,nodup_nil->ic,filter_cons_of_pos->ie,filter_cons_of_neg->ig,pairwise_map->iL,getElem?_set_ne->iU,dropLast_subset->iV,getElem_map->i5,length_reverse->jc,mem_map_of_mem->je,find?_cons->jm,length->jq,append_assoc->jK,take_zero->jL,length_replicate->j6,contains_iff_mem->kj,length_filter_le->km,lookup->kE,length_dropLast->kF,nil_append->kP,filter_append->me,getElem?_zip_eq_some->mI,take_sublist->mP,getElem?_replicate->oO,length_drop->oP,pairwise_singleton->oR,of_mem_zip->pB,length_zip->p7,take_append_drop->qA,mem_of_mem_take->qP,filterMap_cons->rh,mem_filterMap->sC,map_nil->tZ,toArray->uf,reverse_perm->ug,eraseIdxIfInBounds_toArray->uw,map_reverse->uY,getElem_mem->uZ,eq_nil_of_length_eq_zero->wC,foldl_cons->wN,mem_range->xh,drop_zero->xy,drop_eq_getElem_cons->yK,getLast?_eq_none_iff->yS,getElem?_take_of_lt->ze,any_cons->zh,map_take->zo,take_of_length_le->Aw,length_singleton->AW,dropLast_concat->Cs,getLast?_concat->Cu,mem_of_mem_drop->CW,length_pos_iff->ED,filter_sublist->EF,zip_nil_right->ET,getElem?_drop->EY,zip_nil_left->Fs,reverse_cons->Fx,ext_getElem?->FQ,foldl_append->Gv,any_eq_true->Iw,drop_length->Iz,cons_append->IA,perm_middle->IB,isEmpty_iff->ID,mem_filter->IE,length_set->IY,filter_nil->Kr,range_succ->Ku
open Nat renaming le_refl->aB,ne_of_lt->aR,lt_of_lt_of_le->aZ,zero_le->bO,le_trans->cY,le_succ->gc,not_lt_zero->gX,lt_irrefl->hU,lt_succ_of_lt->iM,lt_of_le_of_lt->jt,le_of_lt->jM,mul_le_mul_right->kM,ne_of_gt->pf,lt_trans->pJ,lt_of_succ_lt_succ->pQ,succ_pos->p8,sub_self->qg,lt_or_ge->uz,mul_comm->uD,lt_succ_self->vE,le_add_right->vU,le_of_eq->AH,succ_mul->Bz,add_le_add_left->EW,add_sub_cancel->FN,lt_or_gt_of_ne->FX
open PySem.Heap renaming get?_push_of_some->aK,lt_size->aQ,get?_push_size->cj,get?_update_other->fv,get?_push_ne->gi,size_update->gF,get?_update_self->qx,size_push->qJ,SameBut->tU,get?_update_ne->Ej,MadeExcOf->KL
open PySem.Paired renaming length->aV,snoc->eJ
open PySem.F renaming plainAttrs_list->bE,slot_list_append->dD,type_list_append->dE,slot_list_clear->hZ,type_list_clear->ia,slot_dict_clear->mR,plainAttrs_dict->mT,args_tuple_add_2->wW,entry_tuple_add->xr,args_tuple_gt_2->xC,slot_dict_items->xH,type_dict_clear->ya,slot_tuple_add->yl,entry_tuple_gt->yz,slot_tuple_gt->zj,slot_list_pop->zl,type_list_pop->zm
open Bool renaming false_ne_true->bR,eq_iff_iff->pz,and_eq_true_iff->qM,false_eq_true->sJ,and_eq_true->uN,noConfusion->uO,true_and->Mu
open PySem.PassesOwn renaming never->cF
open Option.some renaming inj->cI
open False renaming elim->cP
open PySem.Builtin.Range renaming rangeSize->cR,small->oI
open PySem.Obj renaming mapSeq->cV,mapFields->sE,data_mapFields->tf,isFreed_of_fields->BV
open PyProof.Rows renaming seqObj->dJ,IntsAre->eM,callWith_type1->fY,AllBare->oZ,envOfC->sY,IsTup->uE,listUpdate_at->uW,size_push'->vP,seqEpoch_at->zk,entry_list_sort->zO,tuples'->Ax,slot_list_sort->A9,Constant_none->Du,subscriptTail->DV,sortedAll->E2,floordiv_int->Fg,subscriptTail_builtinR->Fu,call_function_entry_kw->FT,plain_sorted->FU,entry_sorted->FV,kind_sorted->Jt,wpAny_call_entry_kw->KU,Subscript_->Mg,args_list_sort_rev->MJ
open PySem.Builtin.Int renaming intBits->eX
open Option renaming map_eq_some_iff->fh,isSome_map->mj,getD_none->EU,map_some->F3
open Array renaming length_toList->fu,perm_iff_toList_perm->iQ,getElem?_toList->jV,getElem?_eq_some_iff->lK,getD->oX,toList->LZ
open Ne renaming symm->fX
open PySem.AutoSeq1 renaming sub_tuple_tuple->iZ,sub_list_list->xB,list_insert_list_int_val_1->Oj
open PySem.Builtin.Tuple renaming tupleCompareSizes->jh
open List.Perm renaming refl->jn
open Int renaming emod_lt_of_pos->jz,emod_nonneg->lC,toNat_natCast->uv,le_refl->wO,fdiv_eq_ediv_of_nonneg->yh
open PySem.Around renaming under_plainId->kA,under->zd
open PySem.Builtin.List renaming listTooLong->kO,listFitsIndex->sI
open PySem.W.WData renaming weight->kX,weightAll->vL
open PySem.Str renaming ofString->lL
open Sum.inr renaming inj->lN
open PySem.Calls renaming callWith_builtin->oV,Name_function_global->wQ,evalArgs_plain->AU,spliced_cons->DQ,spliced_nil->EN
open Function renaming comp->qG
open PySem.Builtin.Dict renaming dictSlotArgs->tu,updateFrom->ux,pairItems->uQ,samePairs->uT
open Classical renaming byContradiction->uU
open List.cons renaming inj->wj,injEq->Ct
open PyProof renaming noPylong_of_log2->w6,noPylong_small->yi
open And renaming imp->xW
open PySem.EntryCells renaming newEntry->yq
open PySem.SeqAt.EqAt renaming int_int->zf
open PySem.Code renaming isFrame->Ap,quiet_builtin->EZ
open PySem.Heap.DictOf renaming new->Au
open PySem.Value renaming isInt->Ay,isInt_shape->EL,isStrOf->KA
open Nat.succ renaming inj->IC
open PySem.IsRange renaming new->KD
open Std.Legacy.Range renaming forIn_eq_forIn_range'->KN,size->KO
open PySem.Challenge renaming rw_momentloom_k40_keepers_run->N9
open PySem.Heap.IsSliceOf renaming new->Oe
open PySem.W.WShape renaming has->Og
open PySem.Heap.UpToSlots renaming of_keeps->Oi
open PyProof.Rows.SortSt renaming mk'->Ol
-- CHANGE: your row's module here, as the last of these rows
set_option Elab.async false
set_option linter.all false
set_option maxRecDepth 100000
namespace L2
open PySem PySem.Spec PyProof.Rows
abbrev Key:=Sum Int Str
def xg:Key->ae->Bool
 |.inl k,v=>Ay k v
 |.inr x,v=>KA x v
def keyH(w:bA):Key->Int
 |.inl k=>hashInt k
 |.inr x=>hashStr w x
theorem gu:∀{k:Key} {v:ae},xg k v=true->(∃i t,k=Sum.inl i/\v=Value.int i t)\/(∃x t,k=Sum.inr x/\v=Value.str x t)
 |.inl i,v,h=>by
  obtain⟨t,e⟩:=EL (k:=i) (v:=v) h;exact .inl ⟨i,t,Z9,e⟩
 |.inr x,v,h=>by
  obtain⟨t,e⟩:=Value.isStrOf_shape (x:=x) (v:=v) h;exact .inr ⟨x,t,Z9,e⟩
theorem Dp(i:Int)(t:Tok):xg (.inl i) (.int i t)=true:=by simp[xg,Ay]
theorem Dq(x:Str)(t:Tok):xg (.inr x) (.str x t)=true:=by simp[xg,KA]
theorem LR(a b:Int):decide ((Sum.inl a:Key)=Sum.inl b)=(a==b):=by
 by_cases e:a=b
 ·subst e;simp
 ·have h:¬(Sum.inl a:Key)=Sum.inl b:=fun q=>e (Sum.inl.inj q);rw[decide_eq_false h];exact (beq_eq_false_iff_ne.mpr e).symm
theorem LS(a b:Str):decide ((Sum.inr a:Key)=Sum.inr b)=decide (a=b):=by
 by_cases e:a=b
 ·subst e;simp
 ·have h:¬(Sum.inr a:Key)=Sum.inr b:=fun q=>e (lN q);rw[decide_eq_false h,decide_eq_false e]
theorem LU(a:Int)(b:Str):decide ((Sum.inl a:Key)=Sum.inr b)=false:=decide_eq_false (fun q=>nomatch q)
theorem LV(a:Str)(b:Int):decide ((Sum.inr a:Key)=Sum.inl b)=false:=decide_eq_false (fun q=>nomatch q)
def eN(prog:aL)(w:bA):KB prog w Key where
 is:=xg
 hash:=keyH w
 inj:=fun v a b ha hb=>by
  rcases gu ha with⟨i,t,rfl,rfl⟩|⟨x,t,rfl,rfl⟩
  ·rcases gu hb with⟨j,u,rfl,e⟩|⟨y,u,rfl,e⟩
   ·injection e with e1 _;rw[e1]
   ·exact nomatch e
  ·rcases gu hb with⟨j,u,rfl,e⟩|⟨y,u,rfl,e⟩
   ·exact nomatch e
   ·injection e with e1 _;rw[e1]
 byValue:=fun k v h=>by
  rcases gu h with⟨i,t,rfl,rfl⟩|⟨x,t,rfl,rfl⟩<;>rfl
 pyHash:=fun Z h=>by
  rcases gu Z with⟨i,t,rfl,rfl⟩|⟨x,t,rfl,rfl⟩
  ·exact wpAny_pyHash_int h
  ·exact wpAny_pyHash_str h
 eqBool:=fun Y Z h=>by
  rcases gu Y with⟨i,t,rfl,rfl⟩|⟨x,t,rfl,rfl⟩
  ·rcases gu Z with⟨j,u,rfl,rfl⟩|⟨y,u,rfl,rfl⟩
   ·rw[LR]at h;exact wpAny_eqBool_int h
   ·rw[LU]at h;exact SeqAt.EqAt.int_str i t y u _ _ _ _ h
  ·rcases gu Z with⟨j,u,rfl,rfl⟩|⟨y,u,rfl,rfl⟩
   ·rw[LV]at h;exact SeqAt.EqAt.str_int x t j u _ _ _ _ h
   ·rw[LS]at h;exact wpAny_eqBool_str h
 «strs»:=fun k x t v h=>by
  rcases gu h with⟨i,u,rfl,e⟩|⟨y,u,rfl,e⟩
  ·exact nomatch e
  ·injection e with e1 _;subst e1
   cases v<;>rfl
theorem zp(prog:aL)(w:bA)(i:Int)(t:Tok):(eN prog w).is (.inl i) (.int i t)=true:=Dp i t
theorem zq(prog:aL)(w:bA)(x:Str)(t:Tok):(eN prog w).is (.inr x) (.str x t)=true:=Dq x t
inductive V where
 |non|bl (b:Bool)|int (i:Int)|str (x:Str)|byt (b:Array UInt8)|flt (b:UInt64)|ref (a:aa)|ty (n:String)
 deriving DecidableEq
def RelV:V->ae->Prop
 |.non,u=>u=Value.none
 |.bl b,u=>u=Value.bool b
 |.int i,u=>∃t,u=Value.int i t
 |.str x,u=>∃t,u=Value.str x t
 |.byt b,u=>∃t,u=Value.bytes b t
 |.flt b,u=>∃t,u=Value.float b t
 |.ref a,u=>u=Value.ref a
 |.ty n,u=>u=Value.type n
abbrev cS:List V->List ae->Prop:=aH RelV
theorem cS.length{xs:List V}{us:List ae}(r:cS xs us):xs.length=us.length:=aV r
theorem cS.get:∀{xs:List V} {us:List ae} {i:Nat} {x:V},cS xs us->xs[i]?=Z8 x->∃u,us[i]?=Z8 u/\RelV x u
 |_,_,_,_,.nil,e=>by simp at e
 |_,_,0,_,.cons r _,e=>by simp at e;subst e;exact{_,Z9,r}
 |_,_,i+1,x,.cons _ t,e=>by
  obtain⟨u,h1,h2⟩:=cS.get (i:=i) (x:=x) t (by simpa using e);exact{u,by simpa using h1,h2}
theorem cS.set{x:V}{u:ae}(r:RelV x u):∀{xs:List V} {us:List ae} (i:Nat),cS xs us->cS (xs.set i x) (us.set i u)
 |_,_,_,.nil=>.nil
 |_,_,0,.cons _ t=>.cons r t
 |_,_,i+1,.cons q t=>.cons q (cS.set r i t)
theorem cS.append:∀{xs ys:List V} {us Z:List ae},cS xs us->cS ys Z->cS (xs++ys) (us++Z)
 |_,_,_,_,.nil,s=>s
 |_,_,_,_,.cons r t,s=>.cons r (cS.append t s)
theorem cS.take:∀{xs:List V} {us:List ae} (n:Nat),cS xs us->cS (xs.take n) (us.take n)
 |_,_,0,_=>.nil
 |_,_,_+1,.nil=>.nil
 |_,_,n+1,.cons r t=>.cons r (cS.take n t)
theorem cS.drop:∀{xs:List V} {us:List ae} (n:Nat),cS xs us->cS (xs.drop n) (us.drop n)
 |_,_,0,r=>r
 |_,_,_+1,.nil=>.nil
 |_,_,n+1,.cons _ t=>cS.drop n t
def qD:Option V->Option ae->Prop
 |some v,Z8 u=>RelV v u
 |none,Z7=>True
 |_,_=>False
def KV{κ:Type}:List (κ×V)->List (κ×ae)->Prop:=aH fun (p:κ×V) (q:κ×ae)=>p.1=q.1/\RelV p.2 q.2
def kV:Key->V
 |.inl i=>.int i
 |.inr x=>.str x
inductive HO where
 /-- a list -/
 |lst(xs:List V)
 /-- a tuple (never changes) -/
 |tup(xs:List V)
 /-- a dict whose keys are ints and texts; one whose keys are tuples of ints and texts (the empty one is both) -/
 |dK(kvs:List (Key×V))|dT (kvs:List (List Key×V))
 /-- a set of ints: its members, its size -/
 |set(S:Int->Bool)(n:Nat)
 /-- an instance of the class at C, its dict at dx, its attributes -/
 |ins(C dx:aa)(fs:List (Str×V))
 /-- the dict of the instance at x -/
 |own(x:aa)
 /-- the dict of an exception -/
 |xd(fs:List (Str×V))
 /-- a bound method, f of x -/
 |met(f x:aa)
 /-- a range object lo, lo + 1, .. below hi -/
 |rng(lo hi:Int)
 /-- a thing that is known to the object (the script; a dict while a loop walks it): read, never written while it is so -/
 |frz(o:Obj)(u:HO)
 /-- a code object's table -/
 |tbl(ps:Array ae)
 /-- any other thing, by what is true of its one object (a def of one's own: SetO a S n := HO.ext fun h => ..) -/
 |ext(φ:cu->Prop)
abbrev Hp:=aa->Option HO
def upd(H:Hp)(a:aa)(o:HO):Hp:=fun b=>if b=a then Z8 o else H b
theorem ag{H:Hp}{a:aa}{o:HO}:upd H a o a=Z8 o:=by unfold upd;rw[if_pos rfl]
theorem aJ{H:Hp}{a b:aa}{o:HO}(h:b≠a):upd H a o b=H b:=by unfold upd;rw[if_neg h]
theorem BF{H:Hp}{a:aa}{o u:HO}:upd (upd H a o) a u=upd H a u:=by
 funext b;unfold upd;split<;>rfl
theorem oK{H:Hp}{a b:aa}{o u:HO}(h:H a=Z8 o)(h':H b=Z8 u)(d:o≠u):a≠b:=by
 intro e;subst e;rw[h]at h';exact d (cI h')
theorem av{H:Hp}{a b:aa}{o:HO}(h:H a=Z8 o)(h':H b=Z7):a≠b:=by
 intro e;subst e;rw[h]at h';cases h'
section
variable(P:aL)(w:bA)
def eB(H:Hp)(h:cu)(a:aa):HO->Prop
 |.lst xs=>xs.length<=aC/\∃(Z:List ae) (n:Nat),cS xs Z/\h.get? a=Z8 {cls:=.type "list",data:=.seq Z.toArray n}
 |.tup xs=>xs.length<=aC/\∃Z:List ae,cS xs Z/\uE h a Z.toArray
 |.dK kvs=>kvs.length<=aC/\(a==eY)=false/\∃vs,KV kvs vs/\h.DictOf (eN P w) a vs
 |.dT kvs=>kvs.length<=aC/\(a==eY)=false/\∃xs:List (List Key×aa×ae),
   aH (fun (p:List Key×V) (q:List Key×aa×ae)=>p.1=q.1/\H q.2.1=Z8 (.tup (p.1.map kV))/\RelV p.2 q.2.2) kvs xs /\
   ∃o es ep,h.get? a=Z8 o/\o.ExactDict/\o.data=.dict es ep/\es.toList=xs.map (entryOfKey (yb (eN P w)))/\(xs.map (·.1)).Nodup
 |.set S n=>h.SetOf (intKind P w) a S n
 |.ins C dx fs=>H dx=Z8 (.own a)/\fs.length<=1000/\dx≠a/\h.get? a=Z8 (gJ C dx) /\
   ∃mA,h.Ns1 dx mA/\(∀f,qD (fs.lookup f) (mA f))/\zt mA (fs.map (·.1))
 |.own _=>∃o,h.get? a=Z8 o
 |.xd fs=>∃mA,h.Ns1 a mA/\∀f,qD (fs.lookup f) (mA f)
 |.rng lo hi=>∃t u v,h.get? a=Z8 {cls:=.type "range",data:=.fields #[.int lo t,.int hi u,.int 1 v]}
 |.frz o u=>h.get? a=Z8 o/\eB H h a u
 |.tbl ps=>h.get? a=Z8 {cls:=.none,data:=.fields ps}
 |.met f x=>h.get? a=Z8 (rq (.ref f) (.ref x))
 |.ext φ=>φ h/\(∃o,h.get? a=Z8 o)/\∀h1 h2:cu,φ h1->(∀o,h1.get? a=Z8 o->h2.get? a=Z8 o)->φ h2
def HOk(H:Hp)(h:cu):Prop:=∀a o,H a=Z8 o->eB P w H h a o
end
section
variable{P:aL}{w:bA}{H H':Hp}{h h':cu}{a:aa}{o:HO}
theorem eB.lt(x:eB P w H h a o):a<h.objs.size:=by
 cases o with
 |lst xs=>obtain⟨_,_,_,_,e⟩:=x;exact aQ e
 |tup xs=>obtain⟨_,_,_,p⟩:=x;exact p.lt
 |dK kvs=>obtain⟨_,_,_,_,o,_,_,e,_⟩:=x;exact aQ e
 |dT kvs=>obtain⟨_,_,_,_,o,_,_,e,_⟩:=x;exact aQ e
 |set S n=>obtain⟨o,_,_,_,e,_⟩:=x;exact aQ e
 |ins C dx fs=>obtain⟨_,_,_,e,_⟩:=x;exact aQ e
 |own y=>obtain⟨_,e⟩:=x;exact aQ e
 |xd fs=>obtain⟨_,⟨_,_,_,e,_⟩,_⟩:=x;exact aQ e
 |rng lo hi=>obtain⟨_,_,_,e⟩:=x;exact aQ e
 |frz Z u=>obtain⟨e,_⟩:=x;exact aQ e
 |tbl ps=>exact aQ (show h.get? a=Z8 _ from x)
 |met f y=>exact aQ (show h.get? a=Z8 _ from x)
 |ext φ=>obtain⟨_,⟨_,e⟩,_⟩:=x;exact aQ e
theorem Paired.mapP{W V:Type}{F G:W->V->Prop}:∀{Y:List W} {Z:List V},aH F Y Z->(∀a b,F a b->G a b)->aH G Y Z
 |_,_,.nil,_=>.nil
 |_,_,.cons r t,f=>.cons (f _ _ r) (Paired.mapP t f)
theorem Paired.imp'{W V:Type}{F G:W->V->Prop}(f:∀a b,F a b->G a b){Y:List W}{Z:List V}(r:aH F Y Z):aH G Y Z:=Paired.mapP r f
theorem eB.stay(x:eB P w H h a o)(k:∀b u,(b=a\/H b=Z8 (.own a))->h.get? b=Z8 u->h'.get? b=Z8 u)
  (W:∀b,H b=Z8 (.own a)->H' b=Z8 (.own a)) (ht:∀b xs,H b=Z8 (.tup xs)->H' b=Z8 (.tup xs)):eB P w H' h' a o:=by
 induction o with
 |lst xs=>obtain⟨z,Y,n,r,e⟩:=x;exact{z,Y,n,r,k _ _ (.inl rfl) e}
 |tup xs=>obtain⟨z,Y,r,Z,e,c⟩:=x;exact{z,Y,r,Z,k _ _ (.inl rfl) e,c}
 |dK kvs=>obtain⟨z,y,vs,r,Z,es,ep,e,c⟩:=x;exact{z,y,vs,r,Z,es,ep,k _ _ (.inl rfl) e,c}
 |dT kvs=>
  obtain⟨z,y,xs,r,Z,es,ep,e,c⟩:=x;exact{z,y,xs,Paired.mapP r fun p q z=>{z.1,ht _ _ z.2.1,z.2.2},Z,es,ep,k _ _ (.inl rfl) e,c}
 |set S n=>obtain⟨Z,es,ep,t,e,c⟩:=x;exact{Z,es,ep,t,k _ _ (.inl rfl) e,c}
 |ins C dx fs=>
  obtain⟨d,z,ne,e,mA,⟨od,es,ep,V,c⟩,r⟩:=x;exact{W _ d,z,ne,k _ _ (.inl rfl) e,mA,{od,es,ep,k _ _ (.inr d) V,c},r}
 |own y=>obtain⟨Z,e⟩:=x;exact{Z,k _ _ (.inl rfl) e}
 |xd fs=>obtain⟨mA,⟨od,es,ep,e,c⟩,r⟩:=x;exact{mA,{od,es,ep,k _ _ (.inl rfl) e,c},r}
 |rng lo hi=>obtain⟨t,u,v,e⟩:=x;exact{t,u,v,k _ _ (.inl rfl) e}
 |frz Z u U=>obtain⟨e,q⟩:=x;exact{k _ _ (.inl rfl) e,U q}
 |tbl ps=>
  have e:h.get? a=Z8 {cls:=.none,data:=.fields ps}:=x;show h'.get? a=Z8 {cls:=.none,data:=.fields ps};exact k a _ (.inl rfl) e
 |met f y=>
  have e:h.get? a=Z8 (rq (.ref f) (.ref y)):=x;show h'.get? a=Z8 (rq (.ref f) (.ref y));exact k a _ (.inl rfl) e
 |ext φ=>obtain⟨p,⟨o,e⟩,st⟩:=x;exact{st _ _ p fun o q=>k _ _ (.inl rfl) q,{o,k _ _ (.inl rfl) e},st}
theorem HOk.lt(x:HOk P w H h)(e:H a=Z8 o):a<h.objs.size:=(x a o e).lt
theorem HOk.fresh(x:HOk P w H h)(e:h.objs.size<=a):H a=Z7:=by
 cases q:H a with
 |none=>rfl
 |some u=>exact absurd (aZ (x.lt q) e) (hU _)
theorem HOk.kept(x:HOk P w H h)(k:∀b u,h.get? b=Z8 u->h'.get? b=Z8 u):HOk P w H h':=fun a o e=>
 (x a o e).stay (fun b u _ q=>k b u q) (fun _ q=>q) fun _ _ q=>q
theorem HOk.laid(x:HOk P w H h)(k:∀b u,h.get? b=Z8 u->h'.get? b=Z8 u)(hp:h.objs.size<=a)(new:eB P w (upd H a o) h' a o):HOk P w (upd H a o) h':=fun b u e=>by
 have Z:=x.fresh hp
 by_cases hb:b=a
 ·subst hb;rw[ag]at e;cases e;exact new
 ·rw[aJ hb]at e;exact (x b u e).stay (fun c v _ q=>k c v q) (fun c q=>by rw[aJ (av q Z)];exact q) fun c xs q=>by rw[aJ (av q Z)];exact q
end
def Rd(H:Hp)(a:aa)(u:HO):Prop:=H a=Z8 u\/∃o,H a=Z8 (.frz o u)
theorem Rd.ok{P:aL}{w:bA}{H:Hp}{h:cu}{a:aa}{u:HO}(r:Rd H a u)(x:HOk P w H h):eB P w H h a u:=by
 rcases r with r|⟨o,r⟩
 ·exact x a u r
 ·obtain⟨_,q⟩:=x a _ r;exact q
def Mut:Option HO->Prop
 |some (.lst _)=>True
 |some (.dK _)=>True
 |some (.dT _)=>True
 |some (.set _ _)=>True
 |some (.ins _ _ _)=>True
 |some (.ext _)=>True
 |_=>False
section
variable{P:aL}{w:bA}{H:Hp}{h h':cu}{x e:aa}{o':HO}
theorem HOk.write(ok:HOk P w H h)(V:Mut (H x))(O:e=x\/H e=Z8 (.own x))(k:∀b u,b≠e->h.get? b=Z8 u->h'.get? b=Z8 u)(U:∃u,h'.get? e=Z8 u)
  (new:eB P w (upd H x o') h' x o'):HOk P w (upd H x o') h':=fun b u q=>by
 have Y:∀c y,H c=Z8 (.own y)->c≠x:=fun c y r z=>by subst z;rw[r]at V;exact V
 have W:∀c xs,H c=Z8 (.tup xs)->c≠x:=fun c xs r z=>by subst z;rw[r]at V;exact V
 by_cases hb:b=x
 ·subst hb;rw[ag]at q;cases q;exact new
 ·rw[aJ hb]at q
  by_cases Z:b=e
  ·have M:H b=Z8 (.own x):=by
    rcases O with z|z
    ·exact absurd (Z.trans z) hb
    ·rw[Z];exact z
   rw[q]at M;cases M;obtain⟨v,J⟩:=U;exact{v,by rw[Z];exact J}
  ·refine (ok b u q).stay (fun c v hc r=>k c v ?_ r) (fun c r=>by rw[aJ (Y c b r)];exact r) fun c xs r=>by rw[aJ (W c xs r)];exact r
   rcases hc with rfl|hc
   ·exact Z
   ·rintro rfl
    rcases O with z|z
    ·exact Y c b hc z
    ·rw[hc]at z;cases z;exact hb rfl
end
structure Un(fs ex:List aa)(H H':Hp)(h h':cu):Prop where
 keep:∀b o,h.get? b=Z8 o->H b=Z7->b∉fs->b∉ex->h'.get? b=Z8 o
 slot:∀b o,h.get? b=Z8 o->H b=Z7->b∈fs->b∉ex->∃sl,h'.get? b=Z8 {o with slots:=sl}
 free:∀b o,h.get? b=Z8 o->H b=Z7->b∉ex->H' b=Z7
 there:∀b o,h.get? b=Z8 o->b∉ex->∃o',h'.get? b=Z8 o'
 tups:∀b xs,H b=Z8 (.tup xs)->H' b=Z8 (.tup xs)
 frzs:∀b o u,H b=Z8 (.frz o u)->H' b=Z8 (.frz o u)
 tbls:∀b ps,H b=Z8 (.tbl ps)->∃more,H' b=Z8 (.tbl (ps++more))
section
variable{fs fs' ex ex':List aa}{H H1 H2:Hp}{h h1 h2 h':cu}{a x e:aa}{o:HO}
theorem Un.any(u:Un fs ex H H1 h h1){b:aa}{Z:Obj}(q:h.get? b=Z8 Z)(n:H b=Z7)(hx:b∉ex):∃sl,h1.get? b=Z8 {Z with slots:=sl}:=by
 by_cases hb:b∈fs
 ·exact u.slot b Z q n hb hx
 ·exact{Z.slots,u.keep b Z q n hb hx}
theorem Un.kept(k:∀b u,h.get? b=Z8 u->h'.get? b=Z8 u):Un fs ex H H h h':=
 {fun b Z q _ _ _=>k b Z q,fun b Z q _ _ _=>{Z.slots,k b Z q},fun _ _ _ n _=>n,fun b Z q _=>{Z,k b Z q},fun _ _ q=>q,fun _ _ _ q=>q,fun _ ps q=>{#[],by rw[q];simp}}
theorem Un.refl:Un fs ex H H h h:=Un.kept fun _ _ q=>q
theorem Un.laid(k:∀b u,h.get? b=Z8 u->h'.get? b=Z8 u)(hp:h.objs.size<=a)(Z:H a=Z7):Un fs ex H (upd H a o) h h' where
 keep:=fun b u q _ _ _=>k b u q
 slot:=fun b u q _ _ _=>{u.slots,k b u q}
 free:=fun b u q n _=>by rw[aJ (aR (aZ (aQ q) hp))];exact n
 there:=fun b u q _=>{u,k b u q}
 tups:=fun b xs q=>by rw[aJ (av q Z)];exact q
 frzs:=fun b u xs q=>by rw[aJ (av q Z)];exact q
 tbls:=fun b ps q=>{#[],by rw[aJ (av q Z),q];simp}
theorem Un.write(Y:Mut (H x))(U:e=x\/H e=Z8 (.own x))(k:∀b u,b≠e->h.get? b=Z8 u->h'.get? b=Z8 u)(V:∃u,h'.get? e=Z8 u):Un fs ex H (upd H x o) h h':=by
 have hx:∀b,H b=Z7->b≠x:=fun b n z=>by subst z;rw[n]at Y;exact Y
 have hb:∀b,H b=Z7->b≠e:=fun b n z=>by
  subst z
  rcases U with r|r
  ·exact hx b n r
  ·rw[n]at r;cases r
 have W:∀b u,H b=Z8 u->¬Mut (Z8 u)->b≠x:=fun b u q nm z=>by subst z;rw[q]at Y;exact nm Y
 refine⟨fun b u q n _ _=>k b u (hb b n) q,fun b u q n _ _=>{u.slots,k b u (hb b n) q},fun b u q n _=>by rw[aJ (hx b n)];exact n,fun b u q _=>?_,
  fun b xs q=>by rw[aJ (W b _ q fun z=>z)];exact q,fun b u xs q=>by rw[aJ (W b _ q fun z=>z)];exact q,fun b ps q=>{#[],by rw[aJ (W b _ q fun z=>z),q];simp}⟩
 by_cases Z:b=e
 ·subst Z;exact V
 ·exact{u,k b u Z q}
end
def trk(h:cu)(H:Hp):List aa:=(eT h.objs.size).filter fun a=>(H a).isSome
def yc(h:cu)(H:Hp):cu:=oM h (trk h H)
theorem Dt(h:cu)(H:Hp):(yc h H).objs.size=h.objs.size:=PySem.W.hideAll_size _ _
theorem E3{h:cu}{H:Hp}{b:aa}{o:Obj}(e:h.get? b=Z8 o)(n:H b=Z7):(yc h H).get? b=Z8 o:=
 Ao _ e fun Z=>by
  have q:(H b).isSome=true:=(IE.mp Z).2;rw[n]at q;simp at q
theorem IF{h:cu}{H:Hp}{b:aa}{o:Obj}(e:(yc h H).get? b=Z8 o):h.get? b=Z8 o/\H b=Z7:=by
 have Z:h.get? b=Z8 o:=Az (trk h H) e;refine{Z,?_}
 cases q:H b with
 |none=>rfl
 |some x=>
  have Y:b∈trk h H:=IE.mpr {xh.mpr (aQ Z),by simp[q]};have z:(yc h H).get? b=Z7:=PySem.W.hideAll_none (trk h H) Y;rw[z]at e;cases e
structure Mod(K:af)(mg:Str->Option ae)(base:cu):Prop where
 kin:K.In base
 glob:base.Ns bj mg
 blt:∃mb,base.Ns LW mb/\∀x:Str,x≠"__name__"->mb x=eK x
 nolimit:base.NoLimit
structure Cx where
 prog:aL
 w:bA
 K:af
 mg:Str->Option ae
 base:cu
 A:bY
 N:List Str
 s₀:ao
 H₀:Hp
 env:Env
 outer:List Env
 stack:List Env
 ex:List aa
 fn:Str->Bool
 calm:Bool
 pn:List (aa×Obj)
 xe:ae->ao->Prop
def frs(l:List Env):List aa:=l.filterMap (·.frame)
abbrev Cx.fs(X:Cx):List aa:=frs X.outer
def Vis(sc:lG)(x:Str):Prop:=sc.names.lookup x=Z8 .local\/sc.names.lookup x=Z8 .cell\/sc.names.lookup x=Z8 .free
def Loc(sc:lG)(x:Str):Prop:=sc.names.lookup x=Z8 .local\/sc.names.lookup x=Z8 .cell
def Look(env:Env)(h:cu)(m:Str->Option ae)(x:Str)(u:ae):Prop:=
 (env.kindOf x=Z8 .local/\m x=Z8 u)\/((env.kindOf x=Z8 .cell\/env.kindOf x=Z8 .free)/\∃c,env.cells.lookup x=Z8 c/\h.IsCell c (Z8 u))
structure Cx.Ok(X:Cx):Prop where
 mod:Mod X.K X.mg X.base
 kind:X.env.scope.kind=.function
 glob:X.env.globals=bj
 blt:X.env.builtins=LW
 above:X.s₀.heap.objs.size<=X.env.locals
 inj:∀x y c,X.env.cells.lookup x=Z8 c->X.env.cells.lookup y=Z8 c->x=y
 has:∀x,(X.env.kindOf x=Z8 .cell\/X.env.kindOf x=Z8 .free)->∃c,X.env.cells.lookup x=Z8 c
 cab:∀x c,X.fn x=true->X.env.cells.lookup x=Z8 c->X.s₀.heap.objs.size<=c
 hd:X.calm=true->X.A.handled=Z7
 frames:X.A.frames=Z8 X.stack
 stk:X.stack=X.outer\/(X.stack=X.env::X.outer/\X.env.frame=Z8 X.env.locals)
 exf:∀b∈X.ex,b≠X.env.locals/\∀x c,X.env.cells.lookup x=Z8 c->c≠b
 bs:∀b o,X.base.get? b=Z8 o->X.s₀.heap.get? b=Z8 o/\X.H₀ b=Z7
 bsz:X.base.objs.size<=X.s₀.heap.objs.size
 noex:∀b o,X.base.get? b=Z8 o->b∉X.ex
 exfs:∀b∈X.ex,b∉X.fs
 funs:X.s₀.heap.FunFrames X.base X.outer
 frf:∀b∈X.fs,X.H₀ b=Z7
structure Inv(X:Cx)(pins:List (aa×Obj))(σ:List (Option V))(H:Hp)(s:ao):Prop where
 ok:X.Ok
 os:s.os=X.s₀.os
 bare:oZ s.gens
 base:Un X.fs X.ex X.H₀ H X.s₀.heap s.heap
 loc:∃m,s.heap.Ns X.env.locals m/\∀(i:Nat) (x:Str) (v:V),X.N[i]?=Z8 x->σ[i]?=Z8 (Z8 v)->Vis X.env.scope x->∃u,RelV v u/\Look X.env s.heap m x u
 cell:∀x c,X.env.cells.lookup x=Z8 c->∃v,s.heap.IsCell c v
 free:H X.env.locals=Z7
 freeC:∀x c,X.env.cells.lookup x=Z8 c->H c=Z7
 pin:∀p∈X.pn++pins,s.heap.get? p.1=Z8 p.2/\H p.1=Z7/\p.1≠X.env.locals/\p.1∉X.fs/\∀v,p.2.data≠.cell v
 hok:HOk X.prog X.w H s.heap
 len:σ.length=X.N.length
section
variable{X:Cx}{pins:List (aa×Obj)}{σ:List (Option V)}{H H':Hp}{s:ao}{h':cu}
theorem Cx.Ok.nofr(ok:X.Ok){b:aa}{o:Obj}(e:X.base.get? b=Z8 o):b∉X.fs:=fun hb=>by
 have:=(ok.funs.mem hb).1;rw[e]at this;cases this
theorem Inv.bs(I:Inv X pins σ H s):∀b o,X.base.get? b=Z8 o->s.heap.get? b=Z8 o/\H b=Z7:=fun b o e=>
 {I.base.keep b o (I.ok.bs b o e).1 (I.ok.bs b o e).2 (I.ok.nofr e) (I.ok.noex b o e),I.base.free b o (I.ok.bs b o e).1 (I.ok.bs b o e).2 (I.ok.noex b o e)}
theorem Inv.bk(I:Inv X pins σ H s):∀b o,X.base.get? b=Z8 o->s.heap.get? b=Z8 o:=fun b o e=>(I.bs b o e).1
theorem Inv.mod(I:Inv X pins σ H s):Mod X.K X.mg X.base:=I.ok.mod
theorem Inv.kIn(I:Inv X pins σ H s):X.K.In s.heap:=I.ok.mod.kin.keeps I.bk
theorem Inv.fr(I:Inv X pins σ H s):∃m,Fr X.base X.env.locals s.heap m:=
 let ⟨m,Z,_⟩:=I.loc
 {m,Z,I.bk,cY I.ok.bsz I.ok.above}
theorem Inv.lt(I:Inv X pins σ H s):X.env.locals<s.heap.objs.size:=let ⟨_,Z,_⟩:=I.loc;Z.lt
theorem Inv.sz(I:Inv X pins σ H s):X.s₀.heap.objs.size<=s.heap.objs.size:=cY I.ok.above (jM I.lt)
theorem Inv.nofs(I:Inv X pins σ H s){a:aa}(h:s.heap.objs.size<=a):a∉X.fs:=fun hb=>by
 obtain⟨_,o,Z,_⟩:=I.ok.funs.mem hb;exact absurd (aZ (aQ Z) (cY I.sz h)) (hU _)
theorem Inv.cne(I:Inv X pins σ H s):∀x c,X.env.cells.lookup x=Z8 c->c≠X.env.locals:=fun x c e z=>by
 obtain⟨v,o,V,W⟩:=I.cell x c e;obtain⟨m,⟨o',es,ep,Y,Z,_⟩,_⟩:=I.loc;rw[z,Y]at V;cases V;rw[Z]at W;cases W
theorem Inv.funs(I:Inv X pins σ H s):s.heap.FunFrames X.base X.outer:=by
 have all:∀(l:List Env),(∀b∈frs l,b∈X.fs)->X.s₀.heap.FunFrames X.base l->s.heap.FunFrames X.base l:=by
  intro l
  induction l with
  |nil=>intro _ _;trivial
  |cons env r J=>
   intro hs U;obtain⟨hk,⟨L,o,Y,O,W,V⟩,M⟩:=U;have Z:L∈X.fs:=hs L (by unfold frs;rw[rh,Y];exact ax);obtain⟨sl,e⟩:=I.base.slot L o W (I.ok.frf L Z) Z fun z=>I.ok.exfs L z Z;exact{hk,{L,_,Y,O,e,V},J (fun b hb=>hs b (by unfold frs;rw[rh,Y];exact ah _ hb)) M}
 exact all X.outer (fun _ hb=>hb) I.ok.funs
theorem Inv.stack(I:Inv X pins σ H s):s.heap.FunFrames X.base X.stack:=by
 rcases I.ok.stk with e|⟨e,Y⟩
 ·rw[e];exact I.funs
 ·rw[e];obtain⟨m,Z,_⟩:=I.loc;refine .cons (by rw[I.ok.kind];decide) Y Z ?_ I.funs;exact Heap.get?_none_of_le (cY I.ok.bsz I.ok.above)
theorem Inv.stkSub(I:Inv X pins σ H s):∀b∈frs X.stack,b∈X.env.locals::X.fs:=fun b hb=>by
 rcases I.ok.stk with e|⟨e,Z⟩
 ·rw[e]at hb;exact ah _ hb
 ·rw[e]at hb;unfold frs at hb;rw[rh,Z]at hb;exact hb
theorem Inv.stkFree(I:Inv X pins σ H s):∀b∈frs X.stack,H b=Z7:=fun b hb=>by
 rcases ar.mp (I.stkSub b hb) with e|hb
 ·rw[e];exact I.free
 ·obtain⟨_,o,Z,_⟩:=I.ok.funs.mem hb;exact I.base.free b o Z (I.ok.frf b hb) fun z=>I.ok.exfs b z hb
theorem Inv.step{g':Array GenState}{t':Nat}{d':Drawn}{ch:List aa}(I:Inv X pins σ H s)
  (W:∀b∈ch,(b∈X.ex\/X.s₀.heap.objs.size<=b)/\b≠X.env.locals/\(∀x c,X.env.cells.lookup x=Z8 c->c≠b)/\∀p∈X.pn++pins,p.1≠b)
  (keep:∀b o,b≠X.env.locals->b∉X.fs->b∉ch->s.heap.get? b=Z8 o->H b=Z7->h'.get? b=Z8 o)
  (slot:∀b o,b≠X.env.locals->b∈X.fs->b∉ch->s.heap.get? b=Z8 o->H b=Z7->∃sl,h'.get? b=Z8 {o with slots:=sl}) (free:∀b o,b∉ch->s.heap.get? b=Z8 o->H b=Z7->H' b=Z7)
  (there:∀b o,b∉ch->s.heap.get? b=Z8 o->∃o',h'.get? b=Z8 o')
  (tups:∀b xs,H b=Z8 (.tup xs)->H' b=Z8 (.tup xs)) (frzs:∀b o u,H b=Z8 (.frz o u)->H' b=Z8 (.frz o u)) (tbls:∀b ps,H b=Z8 (.tbl ps)->∃more,H' b=Z8 (.tbl (ps++more)))
  (ns:∀m,s.heap.Ns X.env.locals m->h'.Ns X.env.locals m) (D:HOk X.prog X.w H' h') (hg:oZ g') :
  Inv X pins σ H' {s with heap:=h',gens:=g',drawn:=d',toks:=t'}:=by
 have O:∀b o,X.s₀.heap.get? b=Z8 o->b≠X.env.locals:=fun b o e=>aR (aZ (aQ e) I.ok.above);have V:∀b o,X.s₀.heap.get? b=Z8 o->b∉X.ex->b∉ch:=fun b o e hx hb=>by
  rcases (W b hb).1 with z|z
  ·exact hx z
  ·exact absurd (aZ (aQ e) z) (hU _)
 have Y:∀x c,X.env.cells.lookup x=Z8 c->∀v,s.heap.IsCell c v->h'.IsCell c v:=fun x c e v ⟨o,U,J⟩=>by
  have Z:c∉ch:=fun z=>(W c z).2.2.1 x c e rfl
  by_cases hc:c∈X.fs
  ·obtain⟨sl,q⟩:=slot c o (I.cne x c e) hc Z U (I.freeC x c e);exact{_,q,J}
  ·exact{o,keep c o (I.cne x c e) hc Z U (I.freeC x c e),J}
 refine{I.ok,I.os,hg,{fun b o e n hb hx=>?_,fun b o e n hb hx=>?_,fun b o e n hx=>?_,fun b o e hx=>?_,fun b xs e=>tups b xs (I.base.tups b xs e),fun b o xs e=>frzs b o xs (I.base.frzs b o xs e),fun b ps e=>?_},?_,fun x c e=>?_,?_,fun x c e=>?_,fun p hp=>?_,D,I.len}
 ·exact keep b o (O b o e) hb (V b o e hx) (I.base.keep b o e n hb hx) (I.base.free b o e n hx)
 ·obtain⟨sl,e1⟩:=I.base.slot b o e n hb hx;obtain⟨t,M⟩:=slot b _ (O b o e) hb (V b o e hx) e1 (I.base.free b o e n hx);exact⟨t,M⟩
 ·obtain⟨o',e1⟩:=I.base.there b o e hx;exact free b o' (V b o e hx) e1 (I.base.free b o e n hx)
 ·obtain⟨o',e1⟩:=I.base.there b o e hx;exact there b o' (V b o e hx) e1
 ·obtain⟨m1,e1⟩:=I.base.tbls b ps e;obtain⟨m2,M⟩:=tbls b _ e1;exact{m1++m2,by rw[M,Array.append_assoc]}
 ·obtain⟨m,hn,hl⟩:=I.loc;refine{m,ns m hn,fun i x v e1 M e3=>?_};obtain⟨u,r,l⟩:=hl i x v e1 M e3;refine{u,r,?_}
  rcases l with l|⟨k,c,e,z⟩
  ·exact .inl l
  ·exact .inr {k,c,e,Y x c e _ z}
 ·obtain⟨v,z⟩:=I.cell x c e;exact{v,Y x c e v z}
 ·obtain⟨m,⟨o,_,_,U,_⟩,_⟩:=I.loc;exact free _ o (fun z=>(W _ z).2.1 rfl) U I.free
 ·obtain⟨v,o,U,J⟩:=I.cell x c e;exact free c o (fun z=>(W c z).2.2.1 x c e rfl) U (I.freeC x c e)
 ·obtain⟨e,n,ne,g,d⟩:=I.pin p hp;have Z:p.1∉ch:=fun z=>(W p.1 z).2.2.2 p hp rfl;exact{keep p.1 p.2 ne g Z e n,free p.1 p.2 Z e n,ne,g,d}
theorem Inv.un{t':Nat}(I:Inv X pins σ H s)(u:Un X.fs [] H H' s.heap h')(W:HOk X.prog X.w H' h'):Inv X pins σ H' {s with heap:=h',toks:=t'}:=by
 obtain⟨m,⟨o,es,ep,U,r⟩,_⟩:=id I.loc;obtain⟨sl,M⟩:=u.any U I.free (by simp);exact I.step (g':=s.gens) (d':=s.drawn) (ch:=[]) (fun _ z=>nomatch z) (fun b o _ hb _ e n=>u.keep b o e n hb (by simp)) (fun b o _ hb _ e n=>u.slot b o e n hb (by simp)) (fun b o _ e n=>u.free b o e n (by simp)) (fun b o _ e=>u.there b o e (by simp)) u.tups u.frzs u.tbls (fun D J=>by
  obtain⟨o',V,Y,Z,O⟩:=J;rw[U]at Z;cases Z;exact{_,V,Y,M,O}) W I.bare
theorem Inv.call{g':Array GenState}{t':Nat}{d':Drawn}{ch:List aa}(I:Inv X pins σ H s)(u:Un (frs X.stack) ch H H' s.heap h')(U:HOk X.prog X.w H' h')(D:oZ g')
  (Y:∀b∈ch,(b∈X.ex\/X.s₀.heap.objs.size<=b)/\b≠X.env.locals/\(∀x c,X.env.cells.lookup x=Z8 c->c≠b)/\∀p∈X.pn++pins,p.1≠b) :
  Inv X pins σ H' {s with heap:=h',gens:=g',drawn:=d',toks:=t'}:=by
 obtain⟨m,⟨o,es,ep,M,r⟩,_⟩:=id I.loc;obtain⟨sl,W⟩:=u.any M I.free fun z=>(Y _ z).2.1 rfl;exact I.step (ch:=ch) Y (fun b o W hb hc e n=>u.keep b o e n (fun z=>(ar.mp (I.stkSub b z)).elim W hb) hc) (fun b o _ _ hc e n=>u.any e n hc) (fun b o hc e n=>u.free b o e n hc) (fun b o hc e=>u.there b o e hc) u.tups u.frzs u.tbls (fun g t=>by
  obtain⟨o',O,V,Z,J⟩:=t;rw[M]at Z;cases Z;exact{_,O,V,W,J}) U D
theorem Inv.turned{t':Nat}{it:aa}(I:Inv X pins σ H s)(k:∀b o,b≠it->s.heap.get? b=Z8 o->h'.get? b=Z8 o)(O:H it=Z7)(Y:it≠X.env.locals)
  (h1:it∈X.ex\/X.s₀.heap.objs.size<=it) (h2:∀x c,X.env.cells.lookup x=Z8 c->c≠it) (W:∀p∈X.pn++pins,p.1≠it):Inv X pins σ H {s with heap:=h',toks:=t'}:=by
 have Z:∀b u,H b=Z8 u->b≠it:=fun b u e z=>by rw[z,O]at e;cases e
 refine I.step (g':=s.gens) (d':=s.drawn) (ch:=[it]) (fun b hb=>?_) (fun b o _ _ hc e _=>k b o (fun z=>hc (by simp[z])) e) (fun b o _ _ hc e _=>{o.slots,k b o (fun z=>hc (by simp[z])) e}) (fun _ _ _ _ n=>n)
  (fun b o hc e=>{o,k b o (fun z=>hc (by simp[z])) e}) (fun _ _ e=>e) (fun _ _ _ e=>e) (fun b ps e=>{#[],by rw[e];simp}) (fun m U=>?_) (fun b u e=>?_) I.bare
 ·have e:b=it:=by simpa using hb
  subst e;exact⟨h1,Y,h2,W⟩
 ·obtain⟨o,es,ep,V,r⟩:=U;exact{o,es,ep,k _ o (fX Y) V,r}
 ·refine (I.hok b u e).stay (fun c v hc q=>k c v ?_ q) (fun _ q=>q) fun _ _ q=>q
  rcases hc with z|z
  ·rw[z];exact Z b u e
  ·exact Z c _ z
theorem Inv.tok(I:Inv X pins σ H s)(t:Nat):Inv X pins σ H {s with toks:=t}:=I.un (h':=s.heap) (t':=t) Un.refl I.hok
theorem Inv.kept{t':Nat}(I:Inv X pins σ H s)(k:∀b u,s.heap.get? b=Z8 u->h'.get? b=Z8 u):Inv X pins σ H {s with heap:=h',toks:=t'}:=I.un (Un.kept k) (I.hok.kept k)
theorem Inv.laid{a:aa}{o:HO}{t':Nat}(I:Inv X pins σ H s)(k:∀b u,s.heap.get? b=Z8 u->h'.get? b=Z8 u)(hp:s.heap.objs.size<=a)(new:eB X.prog X.w (upd H a o) h' a o) :
  Inv X pins σ (upd H a o) {s with heap:=h',toks:=t'}:=I.un (Un.laid k hp (I.hok.fresh hp)) (I.hok.laid k hp new)
theorem Inv.write{x e:aa}{o:HO}{t':Nat}(I:Inv X pins σ H s)(Y:Mut (H x))(W:e=x\/H e=Z8 (.own x))(k:∀b u,b≠e->s.heap.get? b=Z8 u->h'.get? b=Z8 u)(Z:∃u,h'.get? e=Z8 u)
  (new:eB X.prog X.w (upd H x o) h' x o):Inv X pins σ (upd H x o) {s with heap:=h',toks:=t'}:=I.un (Un.write Y W k Z) (I.hok.write Y W k Z new)
theorem Inv.weak{Z:List (Option V)}(I:Inv X pins σ H s)(U:Z.length=σ.length)(w:∀(i:Nat) v,Z[i]?=Z8 (Z8 v)->σ[i]?=Z8 (Z8 v)):Inv X pins Z H s:=
 {I.ok,I.os,I.bare,I.base,let ⟨m,O,Y⟩:=I.loc;{m,O,fun i x v e1 W e3=>Y i x v e1 (w i v W) e3},I.cell,I.free,I.freeC,I.pin,I.hok,U.trans I.len}
theorem Inv.pins_of{Z:List (aa×Obj)}(I:Inv X pins σ H s)(h:∀p∈Z,s.heap.get? p.1=Z8 p.2/\H p.1=Z7/\p.1≠X.env.locals/\p.1∉X.fs/\∀v,p.2.data≠.cell v):Inv X Z σ H s:=
 {I.ok,I.os,I.bare,I.base,I.loc,I.cell,I.free,I.freeC,fun p hp=>(cv.mp hp).elim (fun z=>I.pin p (gU _ z)) (h p),I.hok,I.len}
theorem vn{N:List Str}(Y:N.Nodup){i j:Nat}{x:Str}(a:N[i]?=Z8 x)(b:N[j]?=Z8 x):i=j:=by
 obtain⟨h1,e1⟩:=aF.mp a;obtain⟨h2,Z⟩:=aF.mp b;exact (List.getElem_inj Y).mp (e1.trans Z.symm)
theorem xi{M:IG}{A:bY}{E:ae->ao->Prop}{i:Nat}{x:Str}{v:V}{u:ae}{Q:Unit->ao->Prop}(I:Inv X pins σ H s)(hN:X.N.Nodup)(hi:X.N[i]?=Z8 x)(hx:Loc X.env.scope x)(r:RelV v u)
  (h:∀s',Inv X pins (σ.set i (Z8 v)) H s'->(∃a,tU a s.heap s'.heap/\(a=X.env.locals\/X.env.cells.lookup x=Z8 a))->Q () s') (hf:X.fn x=true\/X.env.scope.names.lookup x=Z8 .local:=by first|exact .inl rfl|exact .inr rfl|assumption):aW M A (storeName X.env x u) Q E s:=by
 obtain⟨m,hn,hl⟩:=id I.loc;have g:(X.env.scope.kind==.class||(X.env.scope.kind==.module&&X.env.locals != X.env.globals))=false:=by rw[I.ok.kind];rfl
 have U:i<σ.length:=by rw[I.len];exact (aF.mp hi).1
 have cne:=I.cne;have Z:∀{a:aa} {h':cu},(∃o,s.heap.get? a=Z8 o/\H a=Z7)->tU a s.heap h'->HOk X.prog X.w H h':=fun {a h'} ha hs b ob e=>by
  obtain⟨_,_,Y⟩:=ha;refine (I.hok b ob e).stay (fun c w' hc q=>(hs.2 c ?_).trans q) (fun _ q=>q) fun _ _ q=>q;rintro rfl
  rcases hc with rfl|hc
  ·rw[Y]at e;cases e
  ·rw[Y]at hc;cases hc
 rcases hx with hk|hk
 ·refine wpAny_storeName_local hk hn (fun h' bH hs=>?_) g;obtain⟨oL,_,_,bI,_⟩:=id hn;refine h _ {I.ok,I.os,I.bare,{fun b o e n hb hx=>?_,fun b o e n hb hx=>?_,I.base.free,fun b o e hx=>?_,I.base.tups,I.base.frzs,I.base.tbls},{_,bH,fun j y v' e1 W e3=>?_},fun y c e=>?_,I.free,I.freeC,fun p hp=>?_,Z ⟨oL,bI,I.free⟩ hs,by simpa using I.len} {_,hs,.inl rfl}
  ·exact (hs.2 b (aR (aZ (aQ e) I.ok.above))).trans (I.base.keep b o e n hb hx)
  ·obtain⟨sl,e1⟩:=I.base.slot b o e n hb hx;exact{sl,(hs.2 b (aR (aZ (aQ e) I.ok.above))).trans e1}
  ·obtain⟨o',e1⟩:=I.base.there b o e hx;exact{o',(hs.2 b (aR (aZ (aQ e) I.ok.above))).trans e1}
  ·by_cases J:j=i
   ·subst J;rw[hi]at e1;cases e1;rw[fq U]at W
    cases W;exact{u,r,.inl {hk,by simp}}
   ·rw[iU (fX J)]at W;obtain⟨u',r',q⟩:=hl j y v' e1 W e3;refine{u',r',?_}
    rcases q with⟨k,e⟩|⟨k,c,e,z⟩
    ·refine .inl {k,?_};have:y≠x:=fun e=>J (vn hN e1 (e ▸ hi));simp[this,e]
    ·exact .inr {k,c,e,z.sameBut hs (cne y c e)}
  ·obtain⟨w',z⟩:=I.cell y c e;exact{w',z.sameBut hs (cne y c e)}
  ·obtain⟨e,n,ne,nf,d⟩:=I.pin p hp;exact{(hs.2 p.1 ne).trans e,n,ne,nf,d}
 ·have O:X.fn x=true:=by
   rcases hf with z|z
   ·exact z
   ·rw[z]at hk;cases hk
  obtain⟨c,hc⟩:=I.ok.has x (.inl hk);obtain⟨w',z⟩:=I.cell x c hc;refine wpAny_storeName_cell I.ok.kind hk hc z (fun h' ca hs=>?_);obtain⟨oc,D,t⟩:=id z;refine h {s with heap:=h'} {I.ok,I.os,I.bare,{fun b o e n hb hx=>?_,fun b o e n hb hx=>?_,I.base.free,fun b o e hx=>?_,I.base.tups,I.base.frzs,I.base.tbls},{m,hn.sameBut hs (fX (cne x c hc)),fun j y v' e1 W e3=>?_},fun y c' e=>?_,I.free,I.freeC,fun p hp=>?_,Z {oc,D,I.freeC x c hc} hs,by simpa using I.len} {c,hs,.inr hc}
  ·exact (hs.2 b (aR (aZ (aQ e) (I.ok.cab x c O hc)))).trans (I.base.keep b o e n hb hx)
  ·obtain⟨sl,e1⟩:=I.base.slot b o e n hb hx;exact{sl,(hs.2 b (aR (aZ (aQ e) (I.ok.cab x c O hc)))).trans e1}
  ·obtain⟨o',e1⟩:=I.base.there b o e hx;exact{o',(hs.2 b (aR (aZ (aQ e) (I.ok.cab x c O hc)))).trans e1}
  ·by_cases J:j=i
   ·subst J;rw[hi]at e1;cases e1;rw[fq U]at W
    cases W;exact{u,r,.inr {.inl hk,c,hc,ca}}
   ·rw[iU (fX J)]at W;obtain⟨u',r',q⟩:=hl j y v' e1 W e3;refine{u',r',?_}
    rcases q with q|⟨k,c',e,z'⟩
    ·exact .inl q
    ·refine .inr {k,c',e,z'.sameBut hs ?_};rintro rfl;exact J (vn hN e1 (I.ok.inj _ _ _ e hc ▸ hi))
  ·by_cases bW:c'=c
   ·subst bW;exact{_,ca}
   ·obtain⟨w2,z2⟩:=I.cell y c' e;exact{w2,z2.sameBut hs bW}
  ·obtain⟨e,n,ne,nf,d⟩:=I.pin p hp;refine{(hs.2 p.1 ?_).trans e,n,ne,nf,d};intro q;rw[q,D]at e;have q':oc=p.2:=cI e;exact d w' (by rw[<- q'];exact t)
theorem rA{M:IG}{A:bY}{E:ae->ao->Prop}{i:Nat}{x:Str}{v:V}{u:ae}{Q:Unit->ao->Prop}(I:Inv X pins σ H s)(W:X.N.Nodup)(hi:X.N[i]?=Z8 x)(hx:Loc X.env.scope x)(r:RelV v u)
  (h:∀s',Inv X pins (σ.set i (Z8 v)) H s'->Q () s') (Z:X.fn x=true\/X.env.scope.names.lookup x=Z8 .local:=by first|exact .inl rfl|exact .inr rfl|assumption):aW M A (storeName X.env x u) Q E s:=
 xi I W hi hx r (fun s' Y _=>h s' Y) Z
theorem Inv.call'{s':ao}{ch:List aa}(I:Inv X pins σ H s)(W:s'.os=s.os)(u:Un (frs X.stack) ch H H' s.heap s'.heap)(Z:HOk X.prog X.w H' s'.heap)(V:oZ s'.gens)
  (Y:∀b∈ch,(b∈X.ex\/X.s₀.heap.objs.size<=b)/\b≠X.env.locals/\(∀x c,X.env.cells.lookup x=Z8 c->c≠b)/\∀p∈X.pn++pins,p.1≠b):Inv X pins σ H' s':=by
 obtain⟨h',g',d',t',o'⟩:=s';have e:o'=s.os:=W;subst e;exact I.call (g':=g') (t':=t') (d':=d') u Z V Y
end
abbrev XK:=ae->Option aa->Hp->Prop
abbrev St:=List (Option V)
abbrev VK:=V->Hp->Prop
abbrev TE:=St->Hp->VK->Prop
abbrev TT:=St->Hp->(Bool->Hp->Prop)->Prop
abbrev TA:=St->Hp->(List V->Hp->Prop)->Prop
structure mJ where
 nx:St->Hp->Prop
 rt:VK
 bk:St->Hp->Prop:=fun _ _=>False
 ct:St->Hp->Prop:=fun _ _=>False
abbrev TS:=mJ->St->Hp->Prop
def EP(X:Cx)(pins:List (aa×Obj))(σ:St)(Q:VK)(u:ae)(s':ao):Prop:=∃v H',Inv X pins σ H' s'/\RelV v u/\Q v H'
def TP(X:Cx)(pins:List (aa×Obj))(σ:St)(Q:Bool->Hp->Prop)(b:Bool)(s':ao):Prop:=∃H',Inv X pins σ H' s'/\Q b H'
def AP(X:Cx)(pins:List (aa×Obj))(σ:St)(Q:List V->Hp->Prop)(us:List ae)(s':ao):Prop:=∃vs H',Inv X pins σ H' s'/\cS vs us/\Q vs H'
def SP(X:Cx)(pins:List (aa×Obj))(D:mJ)(f:Flow)(s':ao):Prop:=
 match f with
 |.next=>∃Z H',Inv X pins Z H' s'/\D.nx Z H'
 |.brk=>∃Z H',Inv X pins Z H' s'/\D.bk Z H'
 |.cont=>∃Z H',Inv X pins Z H' s'/\D.ct Z H'
 |.ret u=>∃v Z H',Inv X pins Z H' s'/\RelV v u/\D.rt v H'
def PE(X:Cx)(e:cL)(t:TE):Prop:=
 ∀(pins:List (aa×Obj)) (s:ao) (σ:St) (H:Hp) (Q:VK),Inv X pins σ H s->t σ H Q->aW (aX X.prog X.w) X.A (fy e X.env) (EP X pins σ Q) X.xe s
def PT(X:Cx)(e:cL)(t:TT):Prop:=
 ∀(pins:List (aa×Obj)) (s:ao) (σ:St) (H:Hp) (Q:Bool->Hp->Prop),Inv X pins σ H s->t σ H Q->aW (aX X.prog X.w) X.A (E4 e X.env (fy e X.env)) (TP X pins σ Q) X.xe s
def PW(X:Cx)(e:cL)(t:TT):Prop:=
 ∀(Z:Sem ae) (pins:List (aa×Obj)) (s:ao) (σ:St) (H:Hp) (Q:Bool->Hp->Prop),Inv X pins σ H s->t σ H Q->aW (aX X.prog X.w) X.A (E4 e X.env Z) (TP X pins σ Q) X.xe s
theorem PW.pt{X:Cx}{e:cL}{t:TT}(h:PW X e t):PT X e t:=h _
def PA(X:Cx)(es:List cL)(t:TA):Prop:=
 ∀(pos:Pos) (pins:List (aa×Obj)) (s:ao) (σ:St) (H:Hp) (Q:List V->Hp->Prop),Inv X pins σ H s->t σ H Q->aW (aX X.prog X.w) X.A (spliced (jf pos (cw es X.env))) (AP X pins σ Q) X.xe s
def PS(X:Cx)(st:cU)(t:TS):Prop:=
 ∀(pins:List (aa×Obj)) (s:ao) (σ:St) (H:Hp) (D:mJ),Inv X pins σ H s->t D σ H->aW (aX X.prog X.w) X.A (exec st X.env) (SP X pins D) X.xe s
def PSs(X:Cx)(st:List cU)(t:TS):Prop:=
 ∀(pins:List (aa×Obj)) (s:ao) (σ:St) (H:Hp) (D:mJ),Inv X pins σ H s->t D σ H->aW (aX X.prog X.w) X.A (execs st X.env) (SP X pins D) X.xe s
theorem thn{Z:Type}{t:Sem Z}{Q Y:Z->ao->Prop}{M:IG}{A:bY}{E:ae->ao->Prop}{s:ao}(h:aW M A t Q E s)(W:∀a s,Q a s->Y a s):aW M A t Y E s:=eQ h W fun _ _ x=>x
section
variable{X:Cx}
theorem bin{a b:cL}{ta tb:TE}(ha:PE X a ta)(hb:PE X b tb){pins:List (aa×Obj)}{s:ao}{σ:St}{H:Hp}{R:V->V->Hp->Prop}(I:Inv X pins σ H s)(h:ta σ H fun x H1=>tb σ H1 fun y H2=>R x y H2)
  {W:Type} {Q:W->ao->Prop} {f:ae->ae->Sem W}
  (M:∀v u s2 x y H2,Inv X pins σ H2 s2->RelV x v->RelV y u->R x y H2->aW (aX X.prog X.w) X.A (f v u) Q X.xe s2) :
  aW (aX X.prog X.w) X.A (fy a X.env) (fun v Y=>aW (aX X.prog X.w) X.A (fy b X.env) (fun u Z=>aW (aX X.prog X.w) X.A (f v u) Q X.xe Z) X.xe Y) X.xe s:=by
 refine thn (ha pins s σ H _ I h) fun v U ⟨x,H1,J,t,D⟩=>?_;refine thn (hb pins U σ H1 _ J D) fun u s2 ⟨y,H2,O,z,g⟩=>?_;exact M v u s2 x y H2 O t z g
set_option genSizeOf false
set_option genInjectivity false
inductive TVar(i:Nat)(σ:St)(H:Hp)(Q:VK):Prop where
 |mk(v:V)(h:σ[i]?=Z8 (Z8 v))(q:Q v H):TVar i σ H Q
def IH(i:Nat):TE:=fun σ H Q=>TVar i σ H Q
def tC(v:V):TE:=fun _ H Q=>Q v H
theorem LX{i:Nat}{x:Str}{pos:Pos}(J:X.N[i]?=Z8 x)(V:Vis X.env.scope x)(W:(x==("__debug__":Str))=false:=by decide)(Y:(x==("__classdict__":Str))=false:=by decide):PE X (.Name x pos) (IH i):=by
 intro pins s σ H Q I h;obtain⟨v,e,h⟩:=h;obtain⟨m,M,U⟩:=I.loc;obtain⟨u,r,l⟩:=U i x v J e V;have fin:EP X pins σ Q u s:=⟨v,H,I,r,h⟩
 rcases l with⟨hk,O⟩|⟨hk,c,hc,Z⟩
 ·exact LY (wpAny_loadName_local I.ok.kind hk M O fin) W
 ·rcases hk with hk|hk
  ·exact LY (wpAny_loadName_cell I.ok.kind hk hc Z fin) W
  ·exact LY (wpAny_loadName_free I.ok.kind hk hc Z fin Y) W
theorem aw {i j pos}:PE X (.Constant (.int i) j pos) (tC (.int i)):=fun _ _ _ H _ I h=>wpAny_Constant_int {.int i,H,I.tok _,{_,Z9},h}
theorem lO {b j pos}:PE X (.Constant (.bool b) j pos) (tC (.bl b)):=fun _ _ _ H _ I h=>Constant_bool {.bl b,H,I,Z9,h}
theorem yd {j pos}:PE X (.Constant .none j pos) (tC .non):=fun _ _ _ H _ I h=>Du {.non,H,I,Z9,h}
theorem cg {x j pos}:PE X (.Constant (.str x) j pos) (tC (.str x)):=fun _ _ _ H _ I h=>Calls.Constant_str {.str x,H,I.tok _,{_,Z9},h}
def Gl(X:Cx)(x:Str):Prop:=X.env.kindOf x=Z8 .globalImplicit
theorem rB{E:ae->ao->Prop}{pins:List (aa×Obj)}{s:ao}{σ:St}{H:Hp}{x:Str}{u:ae}{pos:Pos}{Q:ae->ao->Prop}(I:Inv X pins σ H s)(W:Gl X x)(Y:X.mg x=Z8 u)(h:Q u s)
  (Z:(x==("__debug__":Str))=false:=by decide):aW (aX X.prog X.w) X.A (fy (.Name x pos) X.env) Q E s:=
 wQ I.ok.kind W (Calls.loadGlobal_global (by rw[I.ok.glob];exact I.mod.glob.keeps I.bk) Y h) Z
theorem o9{E:ae->ao->Prop}{pins:List (aa×Obj)}{s:ao}{σ:St}{H:Hp}{x:Str}{u:ae}{pos:Pos}{Q:ae->ao->Prop}(I:Inv X pins σ H s)(W:Gl X x)(V:X.mg x=Z7)(Z:eK x=Z8 u)(h:Q u s)
  (U:x≠"__name__":=by decide) (Y:(x==("__debug__":Str))=false:=by decide):aW (aX X.prog X.w) X.A (fy (.Name x pos) X.env) Q E s:=by
 obtain⟨O,h1,h2⟩:=I.mod.blt;exact wQ I.ok.kind W (Calls.loadGlobal_builtin (by rw[I.ok.glob];exact I.mod.glob.keeps I.bk) V (by rw[I.ok.blt];exact h1.keeps I.bk) ((h2 x U).trans Z) h) Y
theorem uF{x:Str}{v:V}{u:ae}{pos:Pos}(W:Gl X x)(U:X.mg x=Z7)(Z:eK x=Z8 u)(r:RelV v u)(O:x≠"__name__":=by decide)(Y:(x==("__debug__":Str))=false:=by decide):PE X (.Name x pos) (tC v):=
 fun _ _ _ H _ I h=>o9 I W U Z ⟨v,H,I,r,h⟩ O Y
variable{a b:cL}{ta tb:TE}{pos:Pos}
def PC(X:Cx)(op:Oa)(a b:cL)(t:TE):Prop:=
 ∀(pins:List (aa×Obj)) (s:ao) (σ:St) (H:Hp) (Q:VK),Inv X pins σ H s->t σ H Q ->
  aW (aX X.prog X.w) X.A (fy a X.env) (fun v Y=>aW (aX X.prog X.w) X.A (fy b X.env) (fun u Z=>aW (aX X.prog X.w) X.A (dI op v u) (EP X pins σ Q) X.xe Z) X.xe Y) X.xe s
theorem E5(b:cL){op:Oa}(h:op≠.In)(h2:op≠.NotIn):jE op b=false:=by
 have e1:(op==CmpOp.In)=false:=by cases op<;>first|rfl|exact absurd rfl h
 have Z:(op==CmpOp.NotIn)=false:=by cases op<;>first|rfl|exact absurd rfl h2
 cases b<;>simp[jE,e1,Z]
def tIsN(ta:TE):TE:=fun σ H Q=>ta σ H fun x H1=>Q (.bl (decide (x=.non))) H1
def tNotN(ta:TE):TE:=fun σ H Q=>ta σ H fun x H1=>Q (.bl (!decide (x=.non))) H1
theorem RelV.none_iff{x:V}{v:ae}(r:RelV x v):(v==Value.none)=decide (x=.non):=by
 cases x with
 |non=>cases r;rfl
 |bl _=>cases r;rfl
 |int _=>obtain⟨t,rfl⟩:=r;rfl
 |str _=>obtain⟨t,rfl⟩:=r;rfl
 |byt _=>obtain⟨t,rfl⟩:=r;rfl
 |flt _=>obtain⟨t,rfl⟩:=r;rfl
 |ref _=>cases r;rfl
 |ty _=>cases r;rfl
theorem E6 {j pos'} (ha:PE X a ta):PC X .Is a (.Constant .none j pos') (tIsN ta):=by
 intro pins s σ H Q I h;refine thn (ha pins s σ H _ I h) fun v V ⟨x,H1,Z,W,Y⟩=>?_;exact Du (is_none_gen {.bl _,H1,Z,by rw[W.none_iff];rfl,Y})
theorem BG {j pos'} (ha:PE X a ta):PC X .IsNot a (.Constant .none j pos') (tNotN ta):=by
 intro pins s σ H Q I h;refine thn (ha pins s σ H _ I h) fun v V ⟨x,H1,Z,W,Y⟩=>?_;exact Du (isnot_none_gen {.bl _,H1,Z,by rw[W.none_iff];rfl,Y})
inductive BlI(x:V)(H:Hp)(Q:Bool->Hp->Prop):Prop where
 |mk(c:Bool)(h:x=.bl c)(q:Q c H):BlI x H Q
def tB(t:TE):TT:=fun σ H Q=>t σ H fun x H1=>BlI x H1 Q
theorem qR{op:Oa}{t:TE}(h:PC X op a b t)(h1:jE op b=false:=by first|exact E5 _ (by decide) (by decide)|rfl):PT X (.Compare a [op] [b] pos) (tB t):=by
 intro pins s σ H Q I hw;refine Ir (thn (h pins s σ H _ I hw) fun v V h1=>thn h1 fun u s2 h2=>thn h2 fun c U ⟨x,H1,Z,W,Y⟩=>?_) h1;obtain⟨d,rfl,q⟩:=Y
 cases W;exact kC ⟨H1,Z,q⟩
theorem sL{e:cL}{t:TE}(h:PE X e t)(Y:∀Z,E4 e X.env Z=(do let v <- Z;wR e.pos;qS [v] (truthy v)):=by intro _;rfl):PT X e (tB t):=by
 intro pins s σ H Q I hw;refine isTrue_plain (thn (h pins s σ H _ I hw) fun v O ⟨x,H1,W,U,V⟩=>?_) (Y _);obtain⟨d,rfl,q⟩:=V
 cases U;exact kC ⟨H1,W,q⟩
variable{tA tB':TT}{rest:List cL}
def tAnd(t u:TT):TT:=fun σ H Q=>t σ H fun c H1=>if c=true then u σ H1 Q else Q false H1
def tOr(t u:TT):TT:=fun σ H Q=>t σ H fun c H1=>if c=true then Q true H1 else u σ H1 Q
def tNot(t:TT):TT:=fun σ H Q=>t σ H fun c H1=>Q (!c) H1
theorem nJ(ha:PT X a tA):PW X (.BoolOp .And [a] pos) tA:=by
 intro Y pins s σ H Q I h;refine isTrue_and (thn (ha pins s σ H Q I h) fun c Z e=>?_)
 cases c with
 |true=>exact isTrue_and_nil e
 |false=>exact e
theorem AA(ha:PT X a tA):PW X (.BoolOp .Or [a] pos) tA:=by
 intro Y pins s σ H Q I h;refine isTrue_or (thn (ha pins s σ H Q I h) fun c Z e=>?_)
 cases c with
 |false=>exact isTrue_or_nil e
 |true=>exact e
theorem pe(ha:PT X a tA)(hb:PW X (.BoolOp .And (b::rest) pos) tB'):PW X (.BoolOp .And (a::b::rest) pos) (tAnd tA tB'):=by
 intro V pins s σ H Q I h;refine isTrue_and (thn (ha pins s σ H _ I h) fun c W ⟨H1,Z,Y⟩=>?_)
 cases c with
 |true=>exact hb V pins W σ H1 Q Z Y
 |false=>exact⟨H1,Z,Y⟩
theorem E7(ha:PT X a tA)(hb:PW X (.BoolOp .Or (b::rest) pos) tB'):PW X (.BoolOp .Or (a::b::rest) pos) (tOr tA tB'):=by
 intro V pins s σ H Q I h;refine isTrue_or (thn (ha pins s σ H _ I h) fun c W ⟨H1,Z,Y⟩=>?_)
 cases c with
 |true=>exact⟨H1,Z,Y⟩
 |false=>exact hb V pins W σ H1 Q Z Y
theorem AB(ha:PT X a tA):PT X (.UnaryOp .Not a pos) (tNot tA):=by
 intro pins s σ H Q I h;exact isTrue_not (ha pins s σ H (fun c H1=>Q (!c) H1) I h)
def tIf(t:TT)(ta tb:TE):TE:=fun σ H Q=>t σ H fun c H1=>if c=true then ta σ H1 Q else tb σ H1 Q
theorem vp{c:cL}(hc:PT X c tA)(ha:PE X a ta)(hb:PE X b tb):PE X (.IfExp c a b pos) (tIf tA ta tb):=by
 intro pins s σ H Q I h;refine wpAny_IfExp (thn (hc pins s σ H _ I h) fun d W ⟨H1,Z,Y⟩=>?_)
 cases d with
 |true=>exact ha pins W σ H1 Q Z Y
 |false=>exact hb pins W σ H1 Q Z Y
end
def SqL(K:af)(H:Hp)(a:aa)(xs:List V):Prop:=
 Rd H a (.lst xs) \/
  ∃(o:Obj) (Z:Array ae) (n:Nat),K.lookup a=Z8 o/\o.cls=.type "list"/\o.dict=Z7/\o.data=.seq Z n/\Z.size<=aC/\cS xs Z.toList
def SqT(K:af)(H:Hp)(a:aa)(xs:List V):Prop:=
 Rd H a (.tup xs) \/
  ∃(o:Obj) (Z:Array ae) (n:Nat),K.lookup a=Z8 o/\o.cls=.type "tuple"/\o.data=.seq Z n/\Z.size<=aC/\cS xs Z.toList
def absV:ae->Option V
 |.none=>Z8 .non
 |.bool b=>Z8 (.bl b)
 |.int i _=>Z8 (.int i)
 |.str x _=>Z8 (.str x)
 |.bytes b _=>Z8 (.byt b)
 |.float b _=>Z8 (.flt b)
 |.ref a=>Z8 (.ref a)
 |.type n=>Z8 (.ty n)
 |_=>Z7
theorem RelV.abs{x:V}{u:ae}(r:RelV x u):absV u=Z8 x:=by
 cases x with
 |non=>cases r;rfl
 |bl _=>cases r;rfl
 |int _=>obtain⟨t,rfl⟩:=r;rfl
 |str _=>obtain⟨t,rfl⟩:=r;rfl
 |byt _=>obtain⟨t,rfl⟩:=r;rfl
 |flt _=>obtain⟨t,rfl⟩:=r;rfl
 |ref _=>cases r;rfl
 |ty _=>cases r;rfl
theorem RelV.inj{x y:V}{u:ae}(r:RelV x u)(q:RelV y u):x=y:=cI (r.abs.symm.trans q.abs)
theorem cS.inj:∀{xs ys:List V} {us:List ae},cS xs us->cS ys us->xs=ys
 |_,_,_,.nil,.nil=>rfl
 |_,_,_,.cons r t,.cons Z t'=>by rw[r.inj Z,cS.inj t t']
section
variable{X:Cx}{pins:List (aa×Obj)}{σ:St}{H:Hp}{s:ao}{a:aa}{xs ys:List V}
theorem SqL.of{K:af}(h:H a=Z8 (.lst xs)):SqL K H a xs:=.inl (.inl h)
theorem SqT.of{K:af}(h:H a=Z8 (.tup xs)):SqT K H a xs:=.inl (.inl h)
theorem Inv.list(I:Inv X pins σ H s)(h:SqL X.K H a xs):∃Z:List ae,cS xs Z/\PlainL s.heap a Z.toArray/\xs.length<=aC:=by
 rcases h with h|⟨o,Z,n,hk,hc,Y,hs,W,r⟩
 ·obtain⟨z,Z,n,r,e⟩:=h.ok I.hok;exact{Z,r,{_,n,e,Z9,Z9,Z9},z}
 ·refine{Z.toList,r,{o,n,I.kIn a o hk,hc,Y,by simpa using hs},?_};have e:=r.length;simp only[fu]at e;omega
theorem Inv.tuple(I:Inv X pins σ H s)(h:SqT X.K H a xs):∃Z:List ae,cS xs Z/\uE s.heap a Z.toArray/\xs.length<=aC:=by
 rcases h with h|⟨o,Z,n,hk,hc,hs,Y,r⟩
 ·obtain⟨z,Z,r,p⟩:=h.ok I.hok;exact⟨Z,r,p,z⟩
 ·refine{Z.toList,r,{o,I.kIn a o hk,hc,n,by simpa using hs},?_};have e:=r.length;simp only[fu]at e;omega
theorem Inv.list_inj(I:Inv X pins σ H s)(h:SqL X.K H a xs)(h':SqL X.K H a ys):xs=ys:=by
 obtain⟨Z,r,⟨o,n,e,_,_,d⟩,_⟩:=I.list h;obtain⟨its',W,⟨o',U,Y,_,_,d'⟩,_⟩:=I.list h';rw[e]at Y;cases Y;rw[d]at d';injection d' with V _;have:Z=its':=by simpa using congrArg LZ V
 subst this;exact r.inj W
theorem Inv.tuple_inj(I:Inv X pins σ H s)(h:SqT X.K H a xs)(h':SqT X.K H a ys):xs=ys:=by
 obtain⟨Z,r,⟨o,e,_,n,d⟩,_⟩:=I.tuple h;obtain⟨its',W,⟨o',Y,_,U,d'⟩,_⟩:=I.tuple h';rw[e]at Y;cases Y;rw[d]at d';injection d' with V _;have:Z=its':=by simpa using congrArg LZ V
 subst this;exact r.inj W
end
abbrev Cx.wish(X:Cx)(E:ae->ao->Prop):Cx:={X with xe:=E}
abbrev Cx.nox(X:Cx):Cx:=X.wish fun _ _=>False
theorem Cx.Ok.wish{X:Cx}(ok:X.Ok)(E:ae->ao->Prop):(X.wish E).Ok:=
 ⟨ok.mod,ok.kind,ok.glob,ok.blt,ok.above,ok.inj,ok.has,ok.cab,ok.hd,ok.frames,ok.stk,ok.exf,ok.bs,ok.bsz,ok.noex,ok.exfs,ok.funs,ok.frf⟩
theorem Cx.Ok.unwish{X:Cx}{E:ae->ao->Prop}(ok:(X.wish E).Ok):X.Ok:=
 ⟨ok.mod,ok.kind,ok.glob,ok.blt,ok.above,ok.inj,ok.has,ok.cab,ok.hd,ok.frames,ok.stk,ok.exf,ok.bs,ok.bsz,ok.noex,ok.exfs,ok.funs,ok.frf⟩
section
variable{X:Cx}{pins:List (aa×Obj)}{σ:St}{H:Hp}{s:ao}{E:ae->ao->Prop}
theorem Inv.wish(I:Inv X pins σ H s)(E:ae->ao->Prop):Inv (X.wish E) pins σ H s:={I.ok.wish E,I.os,I.bare,I.base,I.loc,I.cell,I.free,I.freeC,I.pin,I.hok,I.len}
theorem Inv.unwish(I:Inv (X.wish E) pins σ H s):Inv X pins σ H s:=⟨I.ok.unwish,I.os,I.bare,I.base,I.loc,I.cell,I.free,I.freeC,I.pin,I.hok,I.len⟩
theorem SP.unwish{D:mJ}{f:Flow}{s':ao}(h:SP (X.wish E) pins D f s'):SP X pins D f s':=by
 cases f with
 |next=>obtain⟨Z,H',I,q⟩:=h;exact⟨Z,H',I.unwish,q⟩
 |brk=>obtain⟨Z,H',I,q⟩:=h;exact⟨Z,H',I.unwish,q⟩
 |cont=>obtain⟨Z,H',I,q⟩:=h;exact⟨Z,H',I.unwish,q⟩
 |ret u=>obtain⟨v,Z,H',I,r,q⟩:=h;exact⟨v,Z,H',I.unwish,r,q⟩
theorem PSs.nox{st:List cU}{t:TS}(h:PSs X.nox st t):PSs X st t:=fun pins s σ H D I hw=>
 eQ (h pins s σ H D (I.wish _) hw) (fun _ _ q=>q.unwish) fun _ _ z=>cP z
end
section
variable{X:Cx}{st:cU}{rest:List cU}{t u:TS}{e:cL}{te:TE}{pos:Pos}
def lP:TS:=fun D σ H=>D.nx σ H
def L0(t u:TS):TS:=fun D σ H=>t {D with nx:=u D} σ H
theorem bZ:PSs X [] lP:=fun _ _ σ H _ I h=>rj ⟨σ,H,I,h⟩
theorem ai(h1:PS X st t)(h2:PSs X rest u):PSs X (st::rest) (L0 t u):=by
 intro pins s σ H D I h;refine wpAny_execs_cons (thn (h1 pins s σ H {D with nx:=u D} I h) fun f W q=>?_)
 cases f with
 |next=>
  obtain⟨Z,H',Y,q⟩:=q;exact h2 pins W Z H' D Y q
 |ret v=>exact q
 |brk=>exact q
 |cont=>exact q
theorem aA(h1:PS X st t):PSs X [st] t:=by
 intro pins s σ H D I h;refine wpAny_execs_cons (thn (h1 pins s σ H D I h) fun f Z q=>?_)
 cases f with
 |next=>exact rj q
 |ret v=>exact q
 |brk=>exact q
 |cont=>exact q
theorem Inv.quiet{pins:List (aa×Obj)}{σ:St}{H:Hp}{s:ao}(I:Inv X pins σ H s):interactive X.env=false:=by simp[interactive,I.ok.kind]
def tDrop(te:TE):TS:=fun D σ H=>te σ H fun _ H1=>D.nx σ H1
theorem dU(Z:PE X e te)(hs:tV e Z7 pos.line X.env=pure false:=by rfl):PS X (.Expr e pos) (tDrop te):=by
 intro pins s σ H D I h;exact wpAny_Expr_any (thn (Z pins s σ H _ I h) fun v V ⟨x,H1,Y,U,W⟩=>⟨σ,H1,Y,W⟩) I.quiet hs
def tRet(te:TE):TS:=fun D σ H=>te σ H D.rt
theorem bJ(Z:PE X e te):PS X (.Return (Z8 e) pos) (tRet te):=by
 intro pins s σ H D I h;exact wpAny_Return_some (thn (Z pins s σ H _ I h) fun v U ⟨x,H1,Y,V,W⟩=>⟨x,σ,H1,Y,V,W⟩)
def tIfS(c:TT)(t u:TS):TS:=fun D σ H=>c σ H fun b H1=>if b=true then t D σ H1 else u D σ H1
theorem cN{c:cL}{a b:List cU}{tc:TT}(hc:PT X c tc)(ha:PSs X a t)(hb:PSs X b u):PS X (.If c a b pos) (tIfS tc t u):=by
 intro pins s σ H D I h;refine wpAny_If (thn (hc pins s σ H _ I h) fun d W ⟨H1,Z,Y⟩=>?_)
 cases d with
 |true=>exact ha pins W σ H1 D Z Y
 |false=>exact hb pins W σ H1 D Z Y
def L7:TS:=fun _ _ _=>False
theorem xj{Z:List cU}:PSs X Z L7:=fun _ _ _ _ _ _ h=>h.elim
end
abbrev TG:=V->St->Hp->(St->Hp->Prop)->Prop
abbrev TGs:=List V->St->Hp->(St->Hp->Prop)->Prop
def PG(X:Cx)(Z:cL)(t:TG):Prop:=
 ∀(pins:List (aa×Obj)) (s:ao) (σ:St) (H:Hp) (v:V) (u:ae) (Q:St->Hp->Prop),Inv X pins σ H s->RelV v u->t v σ H Q ->
  aW (aX X.prog X.w) X.A (ye Z X.env u) (fun _ s'=>∃Y H',Inv X pins Y H' s'/\Q Y H') X.xe s
def PGs(X:Cx)(Y:List cL)(t:TGs):Prop:=
 ∀(pins:List (aa×Obj)) (s:ao) (σ:St) (H:Hp) (vs:List V) (us:List ae) (Q:St->Hp->Prop),Inv X pins σ H s->cS vs us->t vs σ H Q ->
  aW (aX X.prog X.w) X.A (assignInOrder ((kQ Y X.env).map (·.2)) us) (fun _ s'=>∃Z H',Inv X pins Z H' s'/\Q Z H') X.xe s
abbrev L8:=V->V->V->Hp->(Hp->Prop)->Prop
def PSet(X:Cx)(t:L8):Prop:=
 ∀(pins:List (aa×Obj)) (s:ao) (σ:St) (H:Hp) (o i v:V) (Z Y u:ae) (Q:Hp->Prop),Inv X pins σ H s->RelV o Z->RelV i Y->RelV v u->t o i v H Q ->
  aW (aX X.prog X.w) X.A (setItem Z Y u) (fun _ s'=>∃H',Inv X pins σ H' s'/\Q H') X.xe s
section
variable{X:Cx}{pos:Pos}
def BH(i:Nat):TG:=fun v σ H Q=>Q (σ.set i (Z8 v)) H
theorem df{i:Nat}{x:Str}(W:X.N.Nodup)(hi:X.N[i]?=Z8 x)(hx:Loc X.env.scope x)(Z:X.fn x=true\/X.env.scope.names.lookup x=Z8 .local:=by first|exact .inl rfl|exact .inr rfl|assumption):PG X (.Name x pos) (BH i):=by
 intro pins s σ H v u Q I r h;exact Ob (rA I W hi hx r (fun s' Y=>{_,H,Y,h}) Z)
def gNil:TGs:=fun vs σ H Q=>vs=[]/\Q σ H
inductive KC(t:TG)(u:TGs)(vs:List V)(σ:St)(H:Hp)(Q:St->Hp->Prop):Prop where
 |mk(v:V)(r:List V)(h:vs=v::r)(q:t v σ H fun σ' H'=>u r σ' H' Q):KC t u vs σ H Q
def gCons(t:TG)(u:TGs):TGs:=fun vs σ H Q=>KC t u vs σ H Q
theorem rC:PGs X [] gNil:=by
 intro pins s σ H vs us Q I r h;obtain⟨e,h⟩:=h;subst e
 cases r;exact assignInOrder_nil ⟨σ,H,I,h⟩
theorem i9{e:cL}{es:List cL}{t:TG}{u:TGs}(h1:PG X e t)(h2:PGs X es u)
  (hs:(kQ (e::es) X.env).map (·.2)=ye e X.env::(kQ es X.env).map (·.2):=by rfl):PGs X (e::es) (gCons t u):=by
 intro pins s σ H vs us Q I r h;obtain⟨v,O,e1,h⟩:=h;subst e1
 cases r with
 |cons r W=>
  rw[hs];refine assignInOrder_cons (thn (h1 pins s σ H _ _ _ I r h) fun _ Y ⟨Z,H1,V,U⟩=>?_);exact h2 pins Y Z H1 _ _ Q V W U
inductive GTup(K:af)(n:Nat)(t:TGs)(v:V)(σ:St)(H:Hp)(Q:St->Hp->Prop):Prop where
 |mk(a:aa)(xs:List V)(h:v=.ref a)(s:SqT K H a xs)(l:xs.length=n)(q:t xs σ H Q):GTup K n t v σ H Q
def gTup(K:af)(n:Nat)(t:TGs):TG:=fun v σ H Q=>GTup K n t v σ H Q
theorem vt{es:List cL}{k:Nat}{t:TGs}{n:Nat}(hc:X.calm=true)(h:PGs X es t)
  (U:(kQ es X.env).length=n:=by rfl) (Z:(kQ es X.env).findIdx? (·.1)=Z7:=by rfl):PG X (.Tuple es k pos) (gTup X.K n t):=by
 intro pins s σ H v u Q I r hw;obtain⟨a,xs,e1,hq,W,hw⟩:=hw;subst e1
 cases r;obtain⟨O,Y,ht,M⟩:=I.tuple hq;refine assign_Tuple_tuple (I.ok.hd hc) ht (by simp[U,<- W,Y.length]) Z fun h' hx=>?_;have V:Inv X pins σ H {s with heap:=h'}:=I.kept (t':=s.toks) fun b o e=>hx b o (aR (aQ e)) e;exact h pins _ σ H xs _ Q V (by simpa using Y) hw
def gSub(to Y:TE)(t:L8):TG:=fun v σ H Q=>to σ H fun o H1=>Y σ H1 fun i H2=>t o i v H2 fun Z=>Q σ Z
theorem yf{o i:cL}{to W:TE}{t:L8}(V:PE X o to)(hi:PE X i W)(hs:PSet X t)
  (ha:∀v,ye (.Subscript o i pos) X.env v=(do
   let Z <- qS [v] (fy o X.env)
   let Y <- qS [v,Z] (fy i X.env)
   wR pos
   qS [v,Z,Y] (setItem Z Y v)
   release [v,Z,Y] []):=by intro _;rfl):PG X (.Subscript o i pos) (gSub to W t):=by
 intro pins s σ H v u Q I r h;rw[ha];refine au (eU (thn (V pins s σ H _ I h) fun Z U ⟨x,H1,M,r1,z⟩=>?_));refine au (eU (thn (hi pins U σ H1 _ M z) fun Y s2 ⟨y,H2,O,g,q2⟩=>?_));refine au (Dv (au (eU (thn (hs pins s2 σ H2 x y v Z Y u _ O r1 g r q2) fun _ s3 ⟨J,D,q3⟩=>?_))));exact wpAny_release ⟨σ,J,D,q3⟩
def II(te:TE)(g:TG):TS:=fun D σ H=>te σ H fun x H1=>g x σ H1 D.nx
theorem sN{tg e:cL}{te:TE}{g:TG}(Y:PE X e te)(W:PG X tg g)(hs:swapsWithSole [tg] e pos.line X.env=pure false:=by rfl)(hw:swappedStores [tg] e X.env=pure Z7:=by rfl)
  (h1:(kQ [tg] X.env).map (·.2)=[ye tg X.env]:=by rfl):PS X (.Assign [tg] e pos) (II te g):=by
 intro pins s σ H D I h;refine wpAny_Assign_stores (thn (Y pins s σ H _ I h) fun v Z ⟨x,H1,V,O,U⟩=>?_) hs hw;rw[h1];exact thn (W pins Z σ H1 x v _ V O U) fun _ s2 q=>q
theorem bM{i:Nat}{x:Str}{e:cL}{te:TE}{pos':Pos}(M:X.N.Nodup)(hi:X.N[i]?=Z8 x)(hx:Loc X.env.scope x)(Y:PE X e te)(hs:tV e (Z8 (.Name x pos')) pos.line X.env=pure false:=by rfl)(W:X.fn x=true\/X.env.scope.names.lookup x=Z8 .local:=by first|exact .inl rfl|exact .inr rfl|assumption) :
  PS X (.Assign [.Name x pos'] e pos) (II te (BH i)):=by
 intro pins s σ H D I h;refine wpAny_Assign_Name (thn (Y pins s σ H _ I h) fun v J ⟨y,H1,V,O,U⟩=>?_) hs;exact rA V M hi hx O (fun s2 Z=>{_,H1,Z,U}) W
end
section
variable{X:Cx}{pos:Pos}
def E8(c:TT)(tb:TS):TS:=fun D σ H=>∃W:Nat->St->Hp->Prop,(∃m,W m σ H)/\∀m σ H,W m σ H ->
 c σ H fun b H1=>if b=true then ∃N:St->Hp->Prop,(∀Z H',N Z H'->∃Y,Y<m/\W Y Z H')/\tb {D with nx:=N,ct:=N,bk:=D.nx} σ H1 else D.nx σ H1
theorem vv{c:cL}{V:List cU}{tc:TT}{tb:TS}(hp:PassesOwn (aX X.prog X.w) X.A X.env X.xe)(hc:PT X c tc)(hb:PSs X V tb):PS X (.While c V [] pos) (E8 tc tb):=by
 intro pins s σ H D I h;obtain⟨W,⟨m0,w0⟩,turn⟩:=h;refine wpAny_While (codeAny_whileLoop (fun n s'=>∃O H',Inv X pins O H' s'/\W n O H') ?_ m0 ⟨σ,H,I,w0⟩);rintro n s1 ⟨Y,H1,I1,w1⟩;refine iN hp (thn (hc pins s1 Y H1 _ I1 (turn n Y H1 w1)) fun b s2 ⟨H2,I2,M⟩=>?_)
 cases b with
 |true=>
  obtain⟨N,hN,M⟩:=M;rw[if_pos rfl];refine iN hp (thn (hb pins s2 Y H2 _ I2 M) fun f s3 J=>?_)
  cases f with
  |next=>
   obtain⟨Z,U,I3,g⟩:=J;obtain⟨z,hm,t⟩:=hN Z U g;exact⟨z,hm,Z,U,I3,t⟩
  |cont=>
   obtain⟨Z,U,I3,g⟩:=J;obtain⟨z,hm,t⟩:=hN Z U g;exact⟨z,hm,Z,U,I3,t⟩
  |brk=>exact J
  |ret v=>exact J
 |false=>
  rw[if_neg bR];exact rj ⟨Y,H2,I2,M⟩
end
structure It where
 go:Nat->Hp->Prop
 yld:Nat->Hp->V->Hp->Prop
 stop:Nat->Hp->Prop
def yg(X:Cx)(pins:List (aa×Obj))(H:Hp)(b:aa):Prop:=
 H b=Z7/\b≠X.env.locals/\b∉X.fs/\(b∈X.ex\/X.s₀.heap.objs.size<=b)/\(∀x c,X.env.cells.lookup x=Z8 c->c≠b)/\∀p∈X.pn++pins,p.1≠b
theorem Inv.fpOk{X:Cx}{pins:List (aa×Obj)}{σ:St}{H H':Hp}{s:ao}{b:aa}(I:Inv X pins σ H s)(hb:s.heap.objs.size<=b)(Z:H' b=Z7):yg X pins H' b:=by
 refine{Z,pf (aZ I.lt hb),I.nofs hb,.inr (cY I.sz hb),fun x c e z=>?_,fun p hp z=>?_}
 ·obtain⟨v,q⟩:=I.cell x c e;exact absurd (aZ q.lt (by rw[z];exact hb)) (hU _)
 ·exact absurd (aZ (aQ (I.pin p hp).1) (by rw[z];exact hb)) (hU _)
structure Dw(P:aL)(w:bA)(K:af)(tg:cL)(J:It)(fp:List aa)(it:aa)(tn:Nat->cu->Prop):Prop where
 mem:it∈fp
 obj:∀i h,tn i h->∀b∈fp,∃o,h.get? b=Z8 o/\∀v,o.data≠.cell v
 keep:∀i h h',tn i h->(∀b∈fp,∀o,h.get? b=Z8 o->h'.get? b=Z8 o)->tn i h'
 item:∀(X:Cx),X.prog=P->X.w=w->X.K=K->X.calm=true->∀(i:Nat) (pins:List (aa×Obj)) (s:ao) (σ:St) (H:Hp) (E:ae->ao->Prop),Inv X pins σ H s->(∀b∈fp,yg X pins H b)->tn i s.heap->J.go i H ->
  aW (aX P w) X.A (pyNext (.ref it)) (fun r s1=>∃u,r=Z8 u /\
   aW (aX P w) X.A (rp tg (.ref it) u) (fun _ s2=>∃x H',Inv X pins σ H' s2/\RelV x u/\J.yld i H x H'/\tn (i+1) s2.heap/\∀b∈fp,H' b=Z7) E s1) E s
 done:∀(X:Cx),X.prog=P->X.w=w->X.K=K->X.calm=true->∀(i:Nat) (pins:List (aa×Obj)) (s:ao) (σ:St) (H:Hp) (E:ae->ao->Prop),Inv X pins σ H s->(∀b∈fp,yg X pins H b)->tn i s.heap->J.stop i H ->
  aW (aX P w) X.A (pyNext (.ref it)) (fun r s1=>r=Z7/\Inv X pins σ H s1) E s
 self:∀(A:bY) (i:Nat) (s:ao) (Q:ae->ao->Prop) (E:ae->ao->Prop),tn i s.heap->Q (.ref it) s->aW (aX P w) A (pyIter (.ref it)) Q E s
abbrev TI:=St->Hp->(It->Hp->Prop)->Prop
def PIE(X:Cx)(pins:List (aa×Obj))(σ:St)(tg:cL)(R:It->Hp->Prop)(Z:ae)(s2:ao):Prop:=
 ∃(it:aa) (fp:List aa) (Y:Nat->cu->Prop) (J:It) (H':Hp),Z=.ref it/\Inv X pins σ H' s2/\Dw X.prog X.w X.K tg J fp it Y/\Y 0 s2.heap/\(∀b∈fp,yg X pins H' b)/\R J H'
def PI(X:Cx)(tg Z:cL)(Y:TI):Prop:=
 ∀(pins:List (aa×Obj)) (s:ao) (σ:St) (H:Hp) (R:It->Hp->Prop),Inv X pins σ H s->Y σ H R ->
  aW (aX X.prog X.w) X.A (fy Z X.env) (fun v W=>aW (aX X.prog X.w) X.A (pyIter v) (PIE X pins σ tg R) X.xe W) X.xe s
theorem E9{M:IG}{A:bY}{E:ae->ao->Prop}{s:ao}{tg:cL}{it:aa}{u:ae}{o:Obj}{n:String}{vs:Array ae}{Q:Unit->ao->Prop}(V:s.heap.get? it=Z8 o)(hc:o.cls=.type n)(W:o.data=.fields vs)
  (Y:["enumerate","zip","dict_itemiterator","dict_reverseitemiterator","odict_iterator","itertools.zip_longest","itertools.pairwise"].contains n=false) (Z:Q () s):aW M A (rp tg (.ref it) u) Q E s:=by
 unfold rp
 cases tg<;>first
  |exact bf Z
  |(cases u<;>first
    |exact bf Z
    |(refine au (wpAny_load V ?_)
      rw[hc,W];show aW M A (if (["enumerate","zip","dict_itemiterator","dict_reverseitemiterator","odict_iterator","itertools.zip_longest","itertools.pairwise"].contains n&&vs[0]?==Z8 (pj _))=true then _ else _) Q E s;rw[if_neg (by intro h;rw[Y,Bool.false_and]at h;cases h)];exact bf Z))
def Itl(K:af)(a:aa):It:=
 ⟨fun i H=>∃xs x,SqL K H a xs/\xs[i]?=Z8 x,fun i H x H'=>H'=H/\∀xs,SqL K H a xs->xs[i]?=Z8 x,fun i H=>∃xs,SqL K H a xs/\xs.length<=i⟩
def Itt(K:af)(a:aa):It:=
 ⟨fun i H=>∃xs x,SqT K H a xs/\xs[i]?=Z8 x,fun i H x H'=>H'=H/\∀xs,SqT K H a xs->xs[i]?=Z8 x,fun i H=>∃xs,SqT K H a xs/\xs.length<=i⟩
def Itr(lo:Int)(n:Nat):It:=⟨fun i _=>i<n,fun i H x H'=>H'=H/\x=.int (lo+i),fun i _=>n<=i⟩
theorem Dx{P:aL}{w:bA}{K:af}{tg:cL}(a it:aa):Dw P w K tg (Itl K a) [it] it (fun i h=>h.IsListIter it a i) where
 mem:=by simp
 obj:=fun i h st b hb=>by
  have e:b=it:=by simpa using hb
  subst e;obtain⟨o,e,c,d⟩:=st;exact{o,e,fun v z=>by rw[d]at z;cases z}
 keep:=fun i h h' st k=>st.at fun o e=>k it (by simp) o e
 item:=by
  intro X O hw J hc i pins s σ H E I Y st U;subst O hw J;obtain⟨xs,x,hq,hx⟩:=U;obtain⟨V,g,p,hz⟩:=I.list hq;obtain⟨u,hu,ru⟩:=g.get hx;obtain⟨M,f1,f2,W,D,t⟩:=Y it (by simp);refine Fb st p.isList (x:=u) (by simpa using hu) fun h' Z sb=>?_;have I1:Inv X pins σ H {s with heap:=h'}:=I.turned (t':=s.toks) (fun b o hb e=>(sb.2 b hb).trans e) M f1 W D t;obtain⟨o,e,c,d⟩:=id Z;exact{u,Z9,E9 (s:={s with heap:=h'}) e c d (by decide) {x,H,I1,ru,{Z9,fun ys hy=>by rw[I.list_inj hy hq];exact hx},Z,fun b hb=>(Y b hb).1}}
 done:=by
  intro X O hw J hc i pins s σ H E I Y st U;subst O hw J;obtain⟨xs,hq,hx⟩:=U;obtain⟨V,g,p,hz⟩:=I.list hq;obtain⟨M,f1,f2,W,D,t⟩:=Y it (by simp);have hl:=g.length;exact Iu (I.ok.hd hc) st p.isList (by simp;omega) fun h' eb=>{Z9,I.turned (t':=s.toks) (fun b o hb e=>eb b o hb e) M f1 W D t}
 self:=fun _ _ _ _ _ st h=>wpAny_pyIter_listiter st h
theorem AC{P:aL}{w:bA}{K:af}{tg:cL}(a it:aa):Dw P w K tg (Itt K a) [it] it (fun i h=>h.IsTupleIter it a i) where
 mem:=by simp
 obj:=fun i h st b hb=>by
  have e:b=it:=by simpa using hb
  subst e;obtain⟨o,e,c,d⟩:=st;exact{o,e,fun v z=>by rw[d]at z;cases z}
 keep:=fun i h h' st k=>st.at fun o e=>k it (by simp) o e
 item:=by
  intro X O hw J hc i pins s σ H E I W st U;subst O hw J;obtain⟨xs,x,hq,hx⟩:=U;obtain⟨Z,g,p,hz⟩:=I.tuple hq;obtain⟨u,hu,ru⟩:=g.get hx;obtain⟨M,f1,f2,V,D,t⟩:=W it (by simp);refine wpAny_pyNext_tuple_item st (show s.heap.IsTuple a Z.toArray from p) (x:=u) (by simpa using hu) fun h' Y sb=>?_;have I1:Inv X pins σ H {s with heap:=h'}:=I.turned (t':=s.toks) (fun b o hb e=>(sb.2 b hb).trans e) M f1 V D t;obtain⟨o,e,c,d⟩:=id Y;exact{u,Z9,E9 (s:={s with heap:=h'}) e c d (by decide) {x,H,I1,ru,{Z9,fun ys hy=>by rw[I.tuple_inj hy hq];exact hx},Y,fun b hb=>(W b hb).1}}
 done:=by
  intro X O hw J hc i pins s σ H E I W st U;subst O hw J;obtain⟨xs,hq,hx⟩:=U;obtain⟨Z,g,p,hz⟩:=I.tuple hq;obtain⟨M,f1,f2,V,D,t⟩:=W it (by simp);have hl:=g.length;exact wpAny_pyNext_tuple_end (I.ok.hd hc) st (show s.heap.IsTuple a Z.toArray from p) (by simp;omega) fun h' eb=>{Z9,I.turned (t':=s.toks) (fun b o hb e=>eb b o hb e) M f1 V D t}
 self:=fun _ _ _ _ _ st h=>wpAny_pyIter_tupleiter st h
theorem AD{P:aL}{w:bA}{K:af}{tg:cL}(it:aa)(lo:Int)(n:Nat):Dw P w K tg (Itr lo n) [it] it (fun i h=>IsRangeIter h it (lo+(i:Nat)*1) ((n:Int)-(i:Nat)) 1) where
 mem:=by simp
 obj:=fun i h st b hb=>by
  have e:b=it:=by simpa using hb
  subst e;exact⟨_,st,fun v z=>by
   have z':Data.fields _=Data.cell v:=z
   cases z'⟩
 keep:=fun i h h' st k=>k it (by simp) _ st
 item:=by
  intro X M hw V hc i pins s σ H E I Y st U;subst M hw V;obtain⟨g,f1,f2,J,D,O⟩:=Y it (by simp);have W:=Walks.range (prog:=X.prog) (w:=X.w) (I.ok.hd hc) it lo 1 n;refine W.item i s _ _ U st fun v h' tk hv Z kk=>?_;obtain⟨t,rfl⟩:=hv;have I1:Inv X pins σ H {s with heap:=h',toks:=tk}:=I.turned (fun b o hb e=>kk b o (by simpa using hb) e) g f1 J D O;refine{_,Z9,E9 (s:={s with heap:=h',toks:=tk}) (n:="range_iterator") Z rfl rfl (by decide) {.int (lo+i),H,I1,{t,?_},⟨Z9,Z9⟩,Z,fun b hb=>(Y b hb).1}};rw[Int.mul_one]
 done:=by
  intro X M hw V hc i pins s σ H E I Y st U;subst M hw V;obtain⟨g,f1,f2,J,D,O⟩:=Y it (by simp);exact wpAny_pyNext_range_end (I.ok.hd hc) st (by have:n<=i:=U;omega) fun h' eb=>{Z9,I.turned (t':=s.toks) (fun b o hb e=>eb b o hb e) g f1 J D O}
 self:=fun _ _ _ _ _ st h=>wpAny_pyIter_rangeiter st h
section
variable{X:Cx}{tg:cL}
def Fc(K:af)(tl:TE):TI:=fun σ H R=>tl σ H fun x H1=>∃a,x=.ref a/\(∃xs,SqL K H1 a xs)/\R (Itl K a) H1
def iTup(K:af)(tl:TE):TI:=fun σ H R=>tl σ H fun x H1=>∃a,x=.ref a/\(∃xs,SqT K H1 a xs)/\R (Itt K a) H1
theorem g9{l:cL}{tl:TE}(W:PE X l tl):PI X tg l (Fc X.K tl):=by
 intro pins s σ H R I h;refine thn (W pins s σ H _ I h) fun v Z ⟨x,H1,Y,O,U⟩=>?_;obtain⟨a,e,⟨xs,hq⟩,q⟩:=U;subst e
 cases O;obtain⟨V,J,p,M⟩:=Y.list hq;refine Oc p.isList ?_;refine{Z.heap.objs.size,[Z.heap.objs.size],_,_,H1,Z9,Y.kept (t':=Z.toks) fun b o e=>aK _ e,Dx a _,{_,cj _ rfl,Z9,Z9},fun b hb=>?_,q};have e:b=Z.heap.objs.size:=by simpa using hb
 subst e;exact Y.fpOk (aB _) (Y.hok.fresh (aB _))
theorem L9{l:cL}{tl:TE}(V:PE X l tl):PI X tg l (iTup X.K tl):=by
 intro pins s σ H R I h;refine thn (V pins s σ H _ I h) fun v Z ⟨x,H1,Y,O,U⟩=>?_;obtain⟨a,e,⟨xs,hq⟩,q⟩:=U;subst e
 cases O;obtain⟨W,J,p,M⟩:=Y.tuple hq;refine wpAny_pyIter_tuple (show Z.heap.IsTuple a W.toArray from p) ?_;refine{Z.heap.objs.size,[Z.heap.objs.size],_,_,H1,Z9,Y.kept (t':=Z.toks) fun b o e=>aK _ e,AC a _,{_,cj _ rfl,Z9,Z9},fun b hb=>?_,q};have e:b=Z.heap.objs.size:=by simpa using hb
 subst e;exact Y.fpOk (aB _) (Y.hok.fresh (aB _))
theorem Fd{pins:List (aa×Obj)}{σ:St}{H:Hp}{s:ao}{R:It->Hp->Prop}{E:ae->ao->Prop}{lo hi:Int}{t u v:Tok}{tk:Nat}(I:Inv X pins σ H s)(h1:-(2^62)<=lo)(h2:lo<2^62)(Y:-(2^62)<=hi)(W:hi<2^62)
  (q:R (Itr lo (hi-lo).toNat) H):aW (aX X.prog X.w) X.A (pyIter (.ref s.heap.objs.size)) (PIE X pins σ tg R) E {s with heap:=s.heap.push {cls:=.type "range",data:=.fields #[.int lo t,.int hi u,.int 1 v]},toks:=tk}:=by
 refine wpAny_pyIter_range (KD ..) (small_one h1 h2 Y W) ?_;have Z:Inv X pins σ H {s with heap:=s.heap.push {cls:=.type "range",data:=.fields #[.int lo t,.int hi u,.int 1 v]},toks:=tk}:=I.kept fun b o e=>aK _ e;refine⟨(s.heap.push {cls:=.type "range",data:=.fields #[.int lo t,.int hi u,.int 1 v]}).objs.size,[(s.heap.push {cls:=.type "range",data:=.fields #[.int lo t,.int hi u,.int 1 v]}).objs.size],_,_,H,Z9,
  Z.kept (t':=tk) fun b o e=>aK _ e,AD _ lo (hi-lo).toNat,?_,fun b hb=>?_,q⟩
 ·have e1:lo+((0:Nat):Int)*1=lo:=by simp
  have V:(((hi-lo).toNat:Nat):Int)-((0:Nat):Int)=cR lo hi 1:=by rw[rangeSize_one];split<;>omega
  show IsRangeIter _ _ (lo+((0:Nat):Int)*1) ((((hi-lo).toNat:Nat):Int)-((0:Nat):Int)) 1;rw[e1,V];exact cj _ rfl
 ·have e:b=(s.heap.push {cls:=.type "range",data:=.fields #[.int lo t,.int hi u,.int 1 v]}).objs.size:=by simpa using hb
  subst e;exact Z.fpOk (aB _) (Z.hok.fresh (aB _))
def Fe(ta:TA):TI:=fun σ H R=>ta σ H fun vs H1=>∃j:Int,vs=[.int j]/\-(2^62)<=j/\j<2^62/\R (Itr 0 j.toNat) H1
theorem ji{a:cL}{ta:TA}{p pos:Pos}(Y:Gl X "range")(V:X.mg "range"=Z7)(ha:PA X [a] ta)(hs:cw [a] X.env=[(false,fy a X.env)]:=by rfl):PI X tg (.Call (.Name "range" p) [a] [] pos) (Fe ta):=by
 intro pins s σ H R I h;refine Call_ (o9 I Y V boot_range (fY (thn (ha pos pins s σ H _ I h) fun us J ⟨vs,H1,W,O,Z⟩=>?_) hs rfl));obtain⟨j,e,Z,M,q⟩:=Z;subst e
 cases O with
 |cons r U=>
  cases U;obtain⟨t,rfl⟩:=r;exact call_range_1 (Fd W (by omega) (by omega) Z M (by simpa using q))
def tFor(U:TI)(g:TG)(tb:TS):TS:=fun D σ H=>U σ H fun J H1=>∃W:Nat->Nat->St->Hp->Prop,(∃m,W 0 m σ H1)/\∀i m σ H,W i m σ H ->
 (J.stop i H/\D.nx σ H)\/(J.go i H/\∃N:St->Hp->Prop,(∀Z H',N Z H'->∃V,V<m/\W (i+1) V Z H')/\∀x H',J.yld i H x H'->g x σ H' fun Y H2=>tb {D with nx:=N,ct:=N,bk:=D.nx} Y H2)
def sP(fp:List aa)(h:cu):List (aa×Obj):=fp.filterMap fun b=>(h.get? b).map fun o=>(b,o)
theorem nU{fp:List aa}{h:cu}{b:aa}{o:Obj}(hb:b∈fp)(e:h.get? b=Z8 o):(b,o)∈sP fp h:=sC.mpr {b,hb,by rw[e];rfl}
theorem Dy{fp:List aa}{h:cu}{p:aa×Obj}(hp:p∈sP fp h):p.1∈fp/\h.get? p.1=Z8 p.2:=by
 obtain⟨b,hb,e⟩:=sC.mp hp
 cases q:h.get? b with
 |none=>rw[q]at e;cases e
 |some o=>
  rw[q]at e;have Z:(b,o)=p:=cI e;subst Z;exact⟨hb,q⟩
theorem Inv.pinned{pins:List (aa×Obj)}{σ:St}{H:Hp}{s:ao}{fp:List aa}(I:Inv X pins σ H s)(W:∀b∈fp,yg X pins H b)(Y:∀b∈fp,∃o,s.heap.get? b=Z8 o/\∀v,o.data≠.cell v):Inv X (pins++sP fp s.heap) σ H s:=
 I.pins_of fun p hp=>(cv.mp hp).elim (fun z=>I.pin p (bC _ z)) fun z=>by
  obtain⟨hb,e⟩:=Dy z;obtain⟨U,f1,V,_⟩:=W p.1 hb;obtain⟨o,Z,d⟩:=Y p.1 hb;rw[e]at Z;cases Z;exact⟨e,U,f1,V,d⟩
theorem Inv.unpinned{pins pl:List (aa×Obj)}{σ:St}{H:Hp}{s:ao}(I:Inv X (pins++pl) σ H s):Inv X pins σ H s:=I.pins_of fun p hp=>I.pin p (bC _ (gU _ hp))
theorem iH{U:cL}{t:List cU}{wi:TI}{g:TG}{tb:TS}{pos:Pos}(hp:PassesOwn (aX X.prog X.w) X.A X.env X.xe)(hc:X.calm=true)(hi:PI X tg U wi)(hg:PG X tg g)(hb:PSs X t tb)
  (hs:∀x,o4 U X.env x=pure x:=by intro _;rfl):PS X (.For tg U t [] pos) (tFor wi g tb):=by
 intro pins s σ H D I h;refine wpAny_For (thn (hi pins s σ H _ I h) fun v s1 h1=>thn h1 fun db s2 h2=>?_) hs;obtain⟨it,fp,tn,J,H2,e,I2,T,dc,f2,W,⟨m0,w0⟩,turn⟩:=h2;subst e
 -- what stays true of the iterator's objects through the loop
 have M:∀{H':Hp},(∀b∈fp,H' b=Z7)->∀b∈fp,yg X pins H' b:=fun hn b hb=>{hn b hb,(f2 b hb).2};refine codeAny_forLoop_any (fun n s'=>∃i z H',Inv X pins z H' s'/\tn i s'.heap/\(∀b∈fp,H' b=Z7)/\W i n z H') ?_ m0 {0,σ,H2,I2,dc,fun b hb=>(f2 b hb).1,w0};rintro n s3 ⟨i,Y,H3,I3,dl,dj,w3⟩
 rcases turn i n Y H3 w3 with⟨dk,qn⟩|⟨go,N,hN,step⟩
 ·refine iN hp (thn (T.done X rfl rfl rfl hc i pins s3 Y H3 X.xe I3 (M dj) dl dk) fun r s4 ⟨hr,I4⟩=>?_);subst hr;exact rj ⟨Y,H3,I4,qn⟩
 ·refine iN hp (thn (T.item X rfl rfl rfl hc i pins s3 Y H3 X.xe I3 (M dj) dl go) fun r s4 ⟨u,hr,h4⟩=>?_);subst hr;refine iN hp (thn h4 fun _ s5 ⟨x,H5,I5,r5,y5,dn,di⟩=>?_);have de:=I5.pinned (M di) (T.obj _ _ dn);refine iN hp (thn (hg _ s5 Y H5 x u _ de r5 (step x H5 y5)) fun _ s6 ⟨dg,H6,I6,q6⟩=>?_);refine iN hp (thn (hb _ s6 dg H6 _ I6 q6) fun f s7 q7=>?_);have again:∀{Z:St} {V:Hp},Inv X (pins++sP fp s5.heap) Z V s7->N Z V->∃m,m<n/\∃i z H',Inv X pins z H' s7/\tn i s7.heap/\(∀b∈fp,H' b=Z7)/\W i m z H':=fun {Z V} O n7=>by
   obtain⟨m',hm,w7⟩:=hN Z V n7;refine{m',hm,i+1,Z,V,O.unpinned,T.keep _ _ _ dn fun b hb o e=>(O.pin (b,o) (bC _ (bC _ (nU hb e)))).1,fun b hb=>?_,w7};obtain⟨o,e,d⟩:=T.obj _ _ dn b hb;exact (O.pin (b,o) (bC _ (bC _ (nU hb e)))).2.1
  cases f with
  |next=>obtain⟨Z,V,O,n7⟩:=q7;exact again O n7
  |cont=>obtain⟨Z,V,O,n7⟩:=q7;exact again O n7
  |brk=>obtain⟨Z,V,O,q7⟩:=q7;exact⟨Z,V,O.unpinned,q7⟩
  |ret v=>obtain⟨x7,Z,V,O,r7,q7⟩:=q7;exact⟨x7,Z,V,O.unpinned,r7,q7⟩
end
theorem iI{K:af}{a:aa}{xs:List V}{g:TG}{tb:TS}{D:mJ}{σ:St}{H:Hp}(Z:Nat->St->Hp->Prop)(h0:Z 0 σ H)(z:∀i σ H,i<=xs.length->Z i σ H->SqL K H a xs)
  (hs:∀i x σ H,xs[i]?=Z8 x->Z i σ H->g x σ H fun U H2=>tb {D with nx:=Z (i+1),ct:=Z (i+1),bk:=D.nx} U H2) (J:∀σ H,Z xs.length σ H->D.nx σ H) :
  ∃W:Nat->Nat->St->Hp->Prop,(∃m,W 0 m σ H)/\∀i m σ H,W i m σ H ->
   ((Itl K a).stop i H/\D.nx σ H)\/((Itl K a).go i H/\∃N:St->Hp->Prop,(∀Y H',N Y H'->∃M,M<m/\W (i+1) M Y H')/\∀x H',(Itl K a).yld i H x H'->g x σ H' fun U H2=>tb {D with nx:=N,ct:=N,bk:=D.nx} U H2):=by
 refine{fun i m σ H=>m=xs.length-i/\i<=xs.length/\Z i σ H,{xs.length,by simp,bO _,h0},?_};rintro i m σ H ⟨rfl,hi,p⟩;have q:=z i σ H hi p
 by_cases O:i<xs.length
 ·refine .inr {{xs,xs[i],q,by simp[O]},Z (i+1),fun Y H' I=>{xs.length-(i+1),by omega,Z9,O,I},fun x H' y=>?_};obtain⟨e,y⟩:=y;subst e;exact hs i x σ _ (y xs q) p
 ·have e:i=xs.length:=by omega
  subst e;exact .inl {{xs,q,aB _},J σ H p}
theorem qv{lo:Int}{n:Nat}{g:TG}{tb:TS}{D:mJ}{σ:St}{H:Hp}(Z:Nat->St->Hp->Prop)(h0:Z 0 σ H)
  (hs:∀i σ H,i<n->Z i σ H->g (.int (lo+i)) σ H fun U H2=>tb {D with nx:=Z (i+1),ct:=Z (i+1),bk:=D.nx} U H2) (J:∀σ H,Z n σ H->D.nx σ H) :
  ∃W:Nat->Nat->St->Hp->Prop,(∃m,W 0 m σ H)/\∀i m σ H,W i m σ H ->
   ((Itr lo n).stop i H/\D.nx σ H)\/((Itr lo n).go i H/\∃N:St->Hp->Prop,(∀V H',N V H'->∃O,O<m/\W (i+1) O V H')/\∀x H',(Itr lo n).yld i H x H'->g x σ H' fun U H2=>tb {D with nx:=N,ct:=N,bk:=D.nx} U H2):=by
 refine{fun i m σ H=>m=n-i/\i<=n/\Z i σ H,{n,by simp,bO _,h0},?_};rintro i m σ H ⟨rfl,hi,p⟩
 by_cases Y:i<n
 ·refine .inr {Y,Z (i+1),fun V H' M=>{n-(i+1),by omega,Z9,Y,M},fun x H' y=>?_};obtain⟨e,y⟩:=y;subst e y;exact hs i σ _ Y p
 ·have e:i=n:=by omega
  subst e;exact .inl {aB _,J σ H p}
theorem zu{c:TT}{tb:TS}{D:mJ}{σ:St}{H:Hp}(Y:St->Hp->Prop)(μ:St->Hp->Nat)(h0:Y σ H)
  (hs:∀σ H,Y σ H->c σ H fun b H1=>if b=true then tb {D with nx:=fun Z H'=>Y Z H'/\μ Z H'<μ σ H,ct:=fun Z H'=>Y Z H'/\μ Z H'<μ σ H,bk:=D.nx} σ H1 else D.nx σ H1)
  (mono:∀σ H Q W,(∀b H1,Q b H1->W b H1)->c σ H Q->c σ H W):E8 c tb D σ H:=by
 refine{fun m σ H=>m=μ σ H/\Y σ H,{_,Z9,h0},?_};rintro m σ H ⟨rfl,p⟩;refine mono σ H _ _ (fun b H1 q=>?_) (hs σ H p)
 cases b with
 |true=>exact{_,fun Z H' ⟨V,l⟩=>{_,l,Z9,V},q}
 |false=>exact q
abbrev R2:=V->V->Hp->VK->Prop
def OpR(X:Cx)(f:ae->ae->Sem ae)(r:R2):Prop:=
 ∀(pins:List (aa×Obj)) (s:ao) (σ:St) (H:Hp) (x y:V) (v u:ae) (Q:VK),Inv X pins σ H s->RelV x v->RelV y u->r x y H Q ->
  aW (aX X.prog X.w) X.A (f v u) (EP X pins σ Q) X.xe s
def UnR(X:Cx)(f:ae->Sem ae)(r:V->Hp->VK->Prop):Prop:=
 ∀(pins:List (aa×Obj)) (s:ao) (σ:St) (H:Hp) (x:V) (v:ae) (Q:VK),Inv X pins σ H s->RelV x v->r x H Q ->
  aW (aX X.prog X.w) X.A (f v) (EP X pins σ Q) X.xe s
def kR(X:Cx)(f:ae)(r:List V->Hp->VK->Prop):Prop:=
 ∀(pins:List (aa×Obj)) (s:ao) (σ:St) (H:Hp) (xs:List V) (us:List ae) (Q:VK),Inv X pins σ H s->cS xs us->r xs H Q ->
  aW (aX X.prog X.w) X.A (vw f us) (EP X pins σ Q) X.xe s
def TruR(X:Cx)(r:V->Hp->(Bool->Hp->Prop)->Prop):Prop:=
 ∀(pins:List (aa×Obj)) (s:ao) (σ:St) (H:Hp) (x:V) (v:ae) (Q:Bool->Hp->Prop),Inv X pins σ H s->RelV x v->r x H Q ->
  aW (aX X.prog X.w) X.A (truthy v) (TP X pins σ Q) X.xe s
def tOp(r:R2)(ta tb:TE):TE:=fun σ H Q=>ta σ H fun x H1=>tb σ H1 fun y H2=>r x y H2 Q
def tUn(r:V->Hp->VK->Prop)(ta:TE):TE:=fun σ H Q=>ta σ H fun x H1=>r x H1 Q
inductive RI(C:Int->Int->Prop)(g:Int->Int->V)(x y:V)(H:Hp)(Q:VK):Prop where
 |mk(i j:Int)(hx:x=.int i)(hy:y=.int j)(c:C i j)(q:Q (g i j) H):RI C g x y H Q
def rI(C:Int->Int->Prop)(g:Int->Int->V):R2:=fun x y H Q=>RI C g x y H Q
inductive RI0(g:Int->Int->V)(x y:V)(H:Hp)(Q:VK):Prop where
 |mk(i j:Int)(hx:x=.int i)(hy:y=.int j)(q:Q (g i j) H):RI0 g x y H Q
def rI0(g:Int->Int->V):R2:=fun x y H Q=>RI0 g x y H Q
inductive RU(g:Int->V)(x:V)(H:Hp)(Q:VK):Prop where
 |mk(i:Int)(hx:x=.int i)(q:Q (g i) H):RU g x H Q
def rU(g:Int->V):V->Hp->VK->Prop:=fun x H Q=>RU g x H Q
section
variable{X:Cx}{a b c:cL}{ta tb tc:TE}{pos:Pos}
theorem Ma(ha:PE X a ta)(hb:PE X b tb){pins:List (aa×Obj)}{s:ao}{σ:St}{H:Hp}{R:V->V->Hp->Prop}(I:Inv X pins σ H s)
  (h:ta σ H fun x H1=>tb σ H1 fun y H2=>R x y H2) {Q:ae->ao->Prop} {f:ae->ae->Sem ae}
  (O:∀v u s2 x y H2,Inv X pins σ H2 s2->RelV x v->RelV y u->R x y H2->aW (aX X.prog X.w) X.A (f v u) Q X.xe s2) :
  aW (aX X.prog X.w) X.A (fy a X.env) (fun v Y=>aW (aX X.prog X.w) X.A (fy b X.env) (fun u Z=>aW (aX X.prog X.w) X.A (f v u) Q X.xe Z) X.xe Y) X.xe s:=by
 refine thn (ha pins s σ H _ I h) fun v W ⟨x,H1,M,z,J⟩=>?_;refine thn (hb pins W σ H1 _ M J) fun u s2 ⟨y,H2,U,D,t⟩=>?_;exact O v u s2 x y H2 U z D t
theorem cQ{op:IJ}{r:R2}(Y:OpR X (iB op) r)(ha:PE X a ta)(hb:PE X b tb):PE X (.BinOp a op b pos) (tOp r ta tb):=by
 intro pins s σ H Q I h;exact wpAny_BinOp (Ma ha hb I h fun v u s2 x y H2 V Z W q=>Y pins s2 σ H2 x y v u Q V Z W q)
theorem Ff{op:UnaryOp}{r:V->Hp->VK->Prop}(Z:UnR X (unaryOp op) r)(ha:PE X a ta):PE X (.UnaryOp op a pos) (tUn r ta):=by
 intro pins s σ H Q I h;exact UnaryOp_ (thn (ha pins s σ H _ I h) fun v Y ⟨x,H1,W,O,U⟩=>Z pins Y σ H1 x v Q W O U)
theorem opI{f:ae->ae->Sem ae}{C:Int->Int->Prop}{g:Int->Int->Int}
  (IK:∀(i j:Int) (t u:Tok) (s:ao) (Q:ae->ao->Prop) (E:ae->ao->Prop),C i j->Q (.int (g i j) s.toks) {s with toks:=s.toks+1}->aW (aX X.prog X.w) X.A (f (.int i t) (.int j u)) Q E s) :
  OpR X f (rI C fun i j=>.int (g i j)):=by
 intro pins s σ H x y v u Q I Z Y h;obtain⟨i,j,rfl,rfl,hc,q⟩:=h;obtain⟨t,rfl⟩:=Z;obtain⟨t',rfl⟩:=Y;exact IK i j t t' s _ _ hc {.int (g i j),H,I.tok _,{_,Z9},q}
theorem opI0{f:ae->ae->Sem ae}{g:Int->Int->Int}
  (IK:∀(i j:Int) (t u:Tok) (s:ao) (Q:ae->ao->Prop) (E:ae->ao->Prop),Q (.int (g i j) s.toks) {s with toks:=s.toks+1}->aW (aX X.prog X.w) X.A (f (.int i t) (.int j u)) Q E s) :
  OpR X f (rI0 fun i j=>.int (g i j)):=by
 intro pins s σ H x y v u Q I Z Y h;obtain⟨i,j,rfl,rfl,q⟩:=h;obtain⟨t,rfl⟩:=Z;obtain⟨t',rfl⟩:=Y;exact IK i j t t' s _ _ {.int (g i j),H,I.tok _,{_,Z9},q}
theorem IL{f:ae->ae->Sem ae}{g:Int->Int->Bool}
  (IK:∀(i j:Int) (t u:Tok) (s:ao) (Q:ae->ao->Prop) (E:ae->ao->Prop),Q (.bool (g i j)) s->aW (aX X.prog X.w) X.A (f (.int i t) (.int j u)) Q E s) :
  OpR X f (rI0 fun i j=>.bl (g i j)):=by
 intro pins s σ H x y v u Q I Z Y h;obtain⟨i,j,rfl,rfl,q⟩:=h;obtain⟨t,rfl⟩:=Z;obtain⟨t',rfl⟩:=Y;exact IK i j t t' s _ _ {.bl (g i j),H,I,Z9,q}
def CDiv(i j:Int):Prop:=0<j/\j<1073741824
def Dz(i j:Int):Prop:=0<=j/\j<=1000000/\i.natAbs<2^64
def Mb(i j:Int):Prop:=(-(2^64)<i/\i<2^64)\/(-(2^64)<j/\j<2^64)
theorem Mb.ok{i j:Int}(h:Mb i j):IntMulOk i j:=by
 rcases h with⟨h1,h2⟩|⟨h1,h2⟩
 ·exact .of_left (intBits_le_64 h1 h2)
 ·exact .of_right (intBits_le_64 h1 h2)
theorem gQ:OpR X (iB .Add) (rI0 fun i j=>.int (i+j)):=opI0 fun _ _ _ _ _ _ _ q=>add_int q
theorem jN:OpR X (iB .Sub) (rI0 fun i j=>.int (i-j)):=opI0 fun _ _ _ _ _ _ _ q=>sub_int q
theorem qT:OpR X (iB .Mult) (rI Mb fun i j=>.int (i*j)):=opI fun _ _ _ _ _ _ _ hc q=>mul_int q hc.ok
theorem IM:OpR X (iB .FloorDiv) (rI CDiv fun i j=>.int (i/j)):=opI fun i j _ _ _ _ _ hc q=>by
 have h1:(0:Int)<j:=hc.1;have h2:j<1073741824:=hc.2;exact Fg (by omega) (by rw[yh i (by omega)];exact q) (.inl (yi (by omega)))
theorem qU:OpR X (iB .Mod) (rI (fun _ j=>0<j) fun i j=>.int (i%j)):=opI fun i j _ _ _ _ _ hc q=>by
 have h1:(0:Int)<j:=hc;exact mod_int' (by omega) (by rw[Int.fmod_eq_emod_of_nonneg i (by omega)];exact q)
theorem IP:OpR X (iB .Mod) (rI (fun _ j=>j≠0) fun i j=>.int (i.fmod j)):=opI fun _ _ _ _ _ _ _ hc q=>mod_int' hc q
theorem sQ:OpR X (iB .Pow) (rI Dz fun i j=>.int (i^j.toNat)):=opI fun _ _ _ _ _ _ _ hc q=>pow_int_small hc.1 hc.2.1 hc.2.2 q
theorem unI{f:ae->Sem ae}{g:Int->Int}
  (IK:∀(i:Int) (t:Tok) (s:ao) (Q:ae->ao->Prop) (E:ae->ao->Prop),Q (.int (g i) s.toks) {s with toks:=s.toks+1}->aW (aX X.prog X.w) X.A (f (.int i t)) Q E s) :
  UnR X f (rU fun i=>.int (g i)):=by
 intro pins s σ H x v Q I Z h;obtain⟨i,rfl,q⟩:=h;obtain⟨t,rfl⟩:=Z;exact IK i t s _ _ {.int (g i),H,I.tok _,{_,Z9},q}
theorem AE:UnR X (unaryOp .USub) (rU fun i=>.int (-i)):=unI fun _ _ _ _ _ q=>neg_int q
end
def scal:V->V->Bool
 |.non,.non=>true|.non,.int _=>true|.int _,.non=>true|.non,.bl _=>true|.bl _,.non=>true|.non,.str _=>true|.str _,.non=>true
 |.int _,.int _=>true|.bl _,.bl _=>true|.str _,.str _=>true|.byt _,.byt _=>true
 |.int _,.str _=>true|.str _,.int _=>true|.bl _,.str _=>true|.str _,.bl _=>true
 |_,_=>false
def rEq:R2:=fun x y H Q=>scal x y=true/\Q (.bl (decide (x=y))) H
def rNe:R2:=fun x y H Q=>scal x y=true/\Q (.bl (!decide (x=y))) H
theorem BI{i j:Int}:decide (V.int i=V.int j)=(i==j):=by
 rw[pz];simp
theorem Fh{i j:Bool}:decide (V.bl i=V.bl j)=(i==j):=by
 rw[pz];simp
theorem BJ{i j:Str}:decide (V.str i=V.str j)=(i==j):=by
 rw[pz];simp
theorem BK{i j:Array UInt8}:decide (V.byt i=V.byt j)=(i.toList==j.toList):=by
 rw[pz]
 cases i
 cases j;simp
section
variable{X:Cx}{a b c:cL}{ta tb tc:TE}{pos:Pos}
theorem eV{pins:List (aa×Obj)}{σ:St}{H:Hp}{s:ao}{Q:VK}{k Z:Bool}(I:Inv X pins σ H s)(q:Q (.bl k) H)(e:k=Z):EP X pins σ Q (.bool Z) s:=by
 subst e;exact{.bl k,H,I,Z9,q}
theorem eW:OpR X (dI .Eq) rEq:=by
 intro pins s σ H x y v u Q I Y Z h;obtain⟨hs,q⟩:=h
 cases x with
 |non=>
  cases Y
  cases y with
  |non=>cases Z;exact PySem.EqNone.eq_none_none (eV I q (by simp))
  |bl j=>cases Z;exact PySem.EqNone.eq_none_bool (eV I q (by simp))
  |int j=>obtain⟨t',rfl⟩:=Z;exact PySem.EqNone.eq_none_int (eV I q (by simp))
  |str j=>obtain⟨t',rfl⟩:=Z;exact PySem.EqNone.eq_none_str (eV I q (by simp))
  |_=>exact absurd (show false=true from hs) bR
 |bl i=>
  cases Y
  cases y with
  |non=>cases Z;exact PySem.EqNone.eq_bool_none (eV I q (by simp))
  |bl j=>cases Z;exact eq_bool (eV I q Fh)
  |str j=>obtain⟨t',rfl⟩:=Z;exact PySem.EqMixed.eq_bool_str (eV I q (by simp))
  |_=>exact absurd (show false=true from hs) bR
 |int i=>
  obtain⟨t,rfl⟩:=Y
  cases y with
  |non=>cases Z;exact PySem.EqNone.eq_int_none (eV I q (by simp))
  |int j=>obtain⟨t',rfl⟩:=Z;exact eq_int (eV I q BI)
  |str j=>obtain⟨t',rfl⟩:=Z;exact PySem.EqMixed.eq_int_str (eV I q (by simp))
  |_=>exact absurd (show false=true from hs) bR
 |str i=>
  obtain⟨t,rfl⟩:=Y
  cases y with
  |non=>cases Z;exact PySem.EqNone.eq_str_none (eV I q (by simp))
  |bl j=>cases Z;exact PySem.EqMixed.eq_str_bool (eV I q (by simp))
  |int j=>obtain⟨t',rfl⟩:=Z;exact PySem.EqMixed.eq_str_int (eV I q (by simp))
  |str j=>obtain⟨t',rfl⟩:=Z;exact eq_str (eV I q BJ)
  |_=>exact absurd (show false=true from hs) bR
 |byt i=>
  obtain⟨t,rfl⟩:=Y
  cases y with
  |byt j=>obtain⟨t',rfl⟩:=Z;exact PySem.W.eq_bytes (eV I q BK)
  |_=>exact absurd (show false=true from hs) bR
 |_=>cases y<;>exact absurd (show false=true from hs) bR
theorem KF:OpR X (dI .NotEq) rNe:=by
 intro pins s σ H x y v u Q I Y Z h;obtain⟨hs,q⟩:=h
 cases x with
 |non=>
  cases Y
  cases y with
  |non=>cases Z;exact PySem.EqNone.ne_none_none (eV I q (by simp))
  |bl j=>cases Z;exact PySem.EqNone.ne_none_bool (eV I q (by simp))
  |int j=>obtain⟨t',rfl⟩:=Z;exact PySem.EqNone.ne_none_int (eV I q (by simp))
  |str j=>obtain⟨t',rfl⟩:=Z;exact PySem.EqNone.ne_none_str (eV I q (by simp))
  |_=>exact absurd (show false=true from hs) bR
 |bl i=>
  cases Y
  cases y with
  |non=>cases Z;exact PySem.EqNone.ne_bool_none (eV I q (by simp))
  |bl j=>cases Z;exact ne_bool (eV I q (congrArg not Fh))
  |str j=>obtain⟨t',rfl⟩:=Z;exact PySem.EqMixed.ne_bool_str (eV I q (by simp))
  |_=>exact absurd (show false=true from hs) bR
 |int i=>
  obtain⟨t,rfl⟩:=Y
  cases y with
  |non=>cases Z;exact PySem.EqNone.ne_int_none (eV I q (by simp))
  |int j=>obtain⟨t',rfl⟩:=Z;exact ne_int (eV I q (congrArg not BI))
  |str j=>obtain⟨t',rfl⟩:=Z;exact PySem.EqMixed.ne_int_str (eV I q (by simp))
  |_=>exact absurd (show false=true from hs) bR
 |str i=>
  obtain⟨t,rfl⟩:=Y
  cases y with
  |non=>cases Z;exact PySem.EqNone.ne_str_none (eV I q (by simp))
  |bl j=>cases Z;exact PySem.EqMixed.ne_str_bool (eV I q (by simp))
  |int j=>obtain⟨t',rfl⟩:=Z;exact PySem.EqMixed.ne_str_int (eV I q (by simp))
  |str j=>obtain⟨t',rfl⟩:=Z;exact ne_str (eV I q (congrArg not BJ))
  |_=>exact absurd (show false=true from hs) bR
 |byt i=>
  obtain⟨t,rfl⟩:=Y
  cases y with
  |byt j=>obtain⟨t',rfl⟩:=Z;exact PySem.W.ne_bytes (eV I q (congrArg not BK))
  |_=>exact absurd (show false=true from hs) bR
 |_=>cases y<;>exact absurd (show false=true from hs) bR
theorem qI:OpR X (dI .Lt) (rI0 fun i j=>.bl (decide (i<j))):=IL fun _ _ _ _ _ _ _ q=>lt_int q
theorem op_le:OpR X (dI .LtE) (rI0 fun i j=>.bl (decide (i<=j))):=IL fun _ _ _ _ _ _ _ q=>le_int q
theorem vx:OpR X (dI .Gt) (rI0 fun i j=>.bl (decide (j<i))):=IL fun _ _ _ _ _ _ _ q=>gt_int q
theorem Fi:OpR X (dI .GtE) (rI0 fun i j=>.bl (decide (j<=i))):=IL fun _ _ _ _ _ _ _ q=>ge_int q
theorem bV(b:cL){op:Oa}(h:op≠.In:=by decide)(h2:op≠.NotIn:=by decide):jE op b=false:=by
 have e1:(op==CmpOp.In)=false:=by cases op<;>first|rfl|exact absurd rfl h
 have Z:(op==CmpOp.NotIn)=false:=by cases op<;>first|rfl|exact absurd rfl h2
 cases b<;>simp[jE,e1,Z]
theorem nV{op:Oa}{r:R2}(Y:OpR X (dI op) r)(ha:PE X a ta)(hb:PE X b tb)(V:jE op b=false):PE X (.Compare a [op] [b] pos) (tOp r ta tb):=by
 intro pins s σ H Q I h;exact wpAny_Compare1 (Ma ha hb I h fun v u s2 x y H2 W Z U q=>Y pins s2 σ H2 x y v u Q W Z U q) V
def tTest(t:TE):TT:=fun σ H Q=>t σ H fun x H'=>BlI x H' Q
theorem bP{op:Oa}{r:R2}(Z:OpR X (dI op) r)(ha:PE X a ta)(hb:PE X b tb)(M:jE op b=false):PT X (.Compare a [op] [b] pos) (tTest (tOp r ta tb)):=by
 intro pins s σ H Q I h;refine Ir (thn (ha pins s σ H _ I h) fun v Y ⟨x,H1,V,g,D⟩=>thn (hb pins Y σ H1 _ V D) fun u s2 ⟨y,H2,W,t,q2⟩=>
  thn (Z pins s2 σ H2 x y v u _ W g t q2) fun c s3 ⟨z,U,O,J,k,e,q3⟩=>?_) M
 subst e
 cases J;exact kC ⟨U,O,q3⟩
def TruV(K:af)(x:V)(H:Hp)(k:Bool):Prop:=
 match x with
 |.non=>k=false
 |.bl b=>k=b
 |.int i=>k=(i != 0)
 |.str y=>y.length<=aC/\k=((y.length:Int) != 0)
 |.byt y=>y.size<=aC/\k=((y.size:Int) != 0)
 |.ref p=>(∃xs,SqL K H p xs/\k=!xs.isEmpty)\/(∃xs,SqT K H p xs/\k=!xs.isEmpty)\/∃kvs,H p=Z8 (.dK kvs)/\k=!kvs.isEmpty
 |_=>False
theorem AF{κ:Type}{kvs:List (κ×V)}{vs:List (κ×ae)}(r:KV kvs vs):(!vs.isEmpty)=!kvs.isEmpty:=by
 cases r<;>rfl
theorem vy{xs:List V}{Z:List ae}(r:cS xs Z):(!Z.toArray.isEmpty)=!xs.isEmpty:=by
 cases r<;>simp
theorem sR:(aC:Nat)<2^63:=by rw[lH];decide
theorem Mc:TruR X (fun x H Q=>∃k,TruV X.K x H k/\Q k H):=by
 intro pins s σ H x v Q I V h;obtain⟨k,e,q⟩:=h;have J:=sR;have hs:aC=16777216:=lH
 cases x with
 |non=>
  cases V;have Z:k=false:=e;subst Z;exact truthy_none ⟨H,I,q⟩
 |bl b=>
  cases V;have Z:k=b:=e;subst Z;exact kC ⟨H,I,q⟩
 |int i=>
  obtain⟨t,rfl⟩:=V;have Z:k=(i != 0):=e;subst Z;exact PySem.P.truthy_int ⟨H,I,q⟩
 |str y=>
  obtain⟨t,rfl⟩:=V;obtain⟨hy,Z⟩:y.length<=aC/\k=((y.length:Int) != 0):=e;subst Z;exact PySem.P.truthy_str (by omega) {H,I.tok _,q}
 |byt y=>
  obtain⟨t,rfl⟩:=V;obtain⟨hy,Z⟩:y.size<=aC/\k=((y.size:Int) != 0):=e;subst Z;exact PySem.W.truthy_bytes (by omega) {H,I.tok _,q}
 |ref p=>
  cases V;have Z:(∃xs,SqL X.K H p xs/\k=!xs.isEmpty)\/(∃xs,SqT X.K H p xs/\k=!xs.isEmpty)\/∃kvs,H p=Z8 (.dK kvs)/\k=!kvs.isEmpty:=e
  rcases Z with⟨xs,hx,Z⟩|⟨xs,hx,Z⟩|⟨kvs,hx,Z⟩
  ·subst Z;obtain⟨U,r,pl,O⟩:=I.list hx;have Y:=r.length;exact wpAny_truthy_list pl.isList (by simp only[aG];omega) {H,I.tok _,by rw[vy r];exact q}
  ·subst Z;obtain⟨U,r,pl,O⟩:=I.tuple hx;have Y:=r.length;exact truthy_tuple pl (by simp only[aG];omega) {H,I.tok _,by rw[vy r];exact q}
  ·subst Z;obtain⟨O,M,vs,r,m⟩:kvs.length<=aC/\(p==eY)=false/\∃vs,KV kvs vs/\s.heap.DictOf (eN X.prog X.w) p vs:=I.hok p _ hx;have Y:kvs.length=vs.length:=aV r;exact wpAny_truthy_dict M m (by omega) {H,I.tok _,by rw[AF r];exact q}
 |_=>exact (show False from e).elim
theorem vz(ha:PE X a ta)(W:∀Z,E4 a X.env Z=(do let v <- Z;wR a.pos;qS [v] (truthy v))) :
  PT X a (fun σ H Q=>ta σ H fun x H'=>∃k,TruV X.K x H' k/\Q k H'):=by
 intro pins s σ H Q I h;exact isTrue_plain (thn (ha pins s σ H _ I h) fun v Y ⟨x,H1,V,O,U⟩=>Mc pins Y σ H1 x v Q V O U) (W _)
theorem vA:OpR X (iB .Add) (fun x y H Q=>∃i j,x=.str i/\y=.str j/\i.length+j.length<=aC/\Q (.str (i++j)) H):=by
 intro pins s σ H x y v u Q I Z Y h;obtain⟨i,j,rfl,rfl,W,q⟩:=h;obtain⟨t,rfl⟩:=Z;obtain⟨t',rfl⟩:=Y;exact add_str (fun t' tk=>{.str (i++j),H,I.tok _,{_,Z9},q}) W
theorem vals1{x:V}{us:List ae}(r:cS [x] us):∃u,us=[u]/\RelV x u:=by
 cases r with
 |cons Y Z=>cases Z;exact{_,Z9,Y}
theorem vals2{x y:V}{us:List ae}(r:cS [x,y] us):∃u Z,us=[u,Z]/\RelV x u/\RelV y Z:=by
 cases r with
 |cons O U=>
  cases U with
  |cons Y W=>cases W;exact{_,_,Z9,O,Y}
theorem Fj:kR X (.builtin "abs") (fun xs H Q=>∃i,xs=[.int i]/\Q (.int (if i<0 then -i else i)) H):=by
 intro pins s σ H xs us Q I r h;obtain⟨i,rfl,q⟩:=h;obtain⟨u,rfl,t,rfl⟩:=vals1 r;exact call_abs_int fun u tk=>{.int (if i<0 then -i else i),H,I.tok _,{_,Z9},q}
theorem xk(hc:X.calm=true):kR X (.builtin "max") (fun xs H Q=>∃i j,xs=[.int i,.int j]/\Q (.int (if j>i then j else i)) H):=by
 intro pins s σ H xs us Q I r h;obtain⟨i,j,rfl,q⟩:=h;obtain⟨u,Y,rfl,⟨t,rfl⟩,⟨t',rfl⟩⟩:=vals2 r;refine max_two_ints (I.ok.hd hc) fun h' tk k=>{_,H,I.kept k,?_,q}
 by_cases Z:j>i
 ·rw[if_pos Z,if_pos Z];exact{_,Z9}
 ·rw[if_neg Z,if_neg Z];exact{_,Z9}
theorem DG(hc:X.calm=true):kR X (.builtin "min") (fun xs H Q=>∃i j,xs=[.int i,.int j]/\Q (.int (if j<i then j else i)) H):=by
 intro pins s σ H xs us Q I r h;obtain⟨i,j,rfl,q⟩:=h;obtain⟨u,Y,rfl,⟨t,rfl⟩,⟨t',rfl⟩⟩:=vals2 r;refine min_two_ints (I.ok.hd hc) fun h' tk k=>{_,H,I.kept k,?_,q}
 by_cases Z:j<i
 ·rw[if_pos Z,if_pos Z];exact{_,Z9}
 ·rw[if_neg Z,if_neg Z];exact{_,Z9}
theorem kN:kR X (.type "int") (fun xs H Q=>(∃i,xs=[.int i]/\Q (.int i) H)\/∃k,xs=[.bl k]/\Q (.int (if k then 1 else 0)) H):=by
 intro pins s σ H xs us Q I r h
 rcases h with⟨i,rfl,q⟩|⟨k,rfl,q⟩
 ·obtain⟨u,rfl,t,rfl⟩:=vals1 r;exact call_int_int {.int i,H,I,{_,Z9},q}
 ·obtain⟨u,rfl,Z⟩:=vals1 r
  cases Z;exact call_int_bool {.int (if k then 1 else 0),H,I.tok _,{_,Z9},q}
end
structure AG(h:cu)(x dx C:aa)(mA:Str->Option ae):Prop where
 obj:h.get? x=Z8 (gJ C dx)
 ns:h.Ns1 dx mA
 ne:dx≠x
theorem DH{h:cu}{dx:aa}{mA:Str->Option ae}(n:h.Ns1 dx mA):∃od,h.get? dx=Z8 od/\∀name,pA name od=Z8 (mA name):=by
 obtain⟨o,es,ep,Y,W,hk,_,V⟩:=n;refine{o,Y,fun name=>?_};have e:=V name;unfold nsFind findBy at e;rw[<- Array.find?_toList]at e;unfold pA;rw[W];dsimp only
 split
 ·rename_i y q
  rw[q]at e;exact congrArg Z8 e
 ·rename_i q
  rw[q]at e;have a:es.toList.any (·.refKey)=false:=by
   rw[List.any_eq_false];intro y hy;obtain⟨z,t,Z⟩:=hk y (Array.mem_toList_iff.mp hy);simp[DictEntry.refKey,Z]
  have U:¬es.toList.any (·.refKey)=true:=by rw[a];exact bR
  rw[if_neg U];exact congrArg Z8 e
theorem AG.look{h:cu}{x dx C:aa}{mA:Str->Option ae}(I:AG h x dx C mA):∃od,vB h x (gJ C dx) C (Z8 od)/\∀name,pA name od=Z8 (mA name):=
 let ⟨od,Y,Z⟩:=DH I.ns
 {od,⟨I.obj,Z9,Z9,Y⟩,Z}
section
variable{prog:aL}{w:bA}{A:bY}{E:ae->ao->Prop}{s:ao}{K:af}{x dx C f:aa}{mA:Str->Option ae}{name:Str}{v:ae}
theorem IQ{Z:Bool}{Q:ae->ao->Prop}(X:K.In s.heap)(I:AG s.heap x dx C mA)(U:mK K C name=true)(M:rD K C=true)
  (ha:aS K (.ref C) name=Z8 Z7) (V:mA name=Z8 v) (Y:DI v=true) (h:Q v {s with toks:=s.toks+1}) :
  aW (aX prog w) A (getAttr (.ref x) name Z) Q E s:=by
 obtain⟨od,J,O⟩:=I.look;exact PySem.W.get_value X J (qE U).1 (PySem.W.findObj_own M ha rfl (by rw[O,V])) Y h
theorem Fk{pl:Sem Bool}{Q:ae×List ae->ao->Prop}(X:K.In s.heap)(I:AG s.heap x dx C mA)(Z:mK K C name=true)
  (V:aS K (.ref C) name=Z8 (Z8 (.ref f))) (ht:nX K (.ref f)=true) (Y:mA name=Z7) (h:Q (.ref f,[.ref x]) s) :
  aW (aX prog w) A (nI (.ref x) name pl) Q E s:=by
 obtain⟨od,J,U⟩:=I.look;exact PySem.W.method_fn X J (qE Z).1 (qE Z).2 V (beq_iff_eq.mp ht) (by show (pA name od).map (·.isSome)=Z8 false;rw[U,Y];rfl) h
theorem IR{ns:List Str}{Q:Unit->ao->Prop}(X:K.In s.heap)(I:AG s.heap x dx C mA)
  (hs:aS K (.ref C) "__setattr__"=Z8 (Z8 (.builtin "object.__setattr__"))) (hp:BL K C=true) (ht:uq K C name=Z8 Z7) (D:rD K C=true)
  (hw:zt mA ns) (hsz:ns.length<=aC)
  (h:∀h',AG h' x dx C (fun y=>if y=name then Z8 v else mA y)->tU dx s.heap h'->Q () {s with heap:=h',toks:=s.toks+2}) :
  aW (aX prog w) A (setAttr (.ref x) name v) Q E s:=by
 obtain⟨od,J,hl⟩:=I.look;refine PySem.W.set_plain X J hs (PySem.W.osa_open (s:={s with toks:=s.toks+1}) (r:=Z7) X J hp ht fun b=>?_);obtain⟨g,hc,U⟩:=PySem.W.any_some D;have hx:s.heap.get? x=Z8 {.ref C,Z8 dx,.plain,#[]}:=I.obj;refine au (bf (au (au (wpAny_loadPart hx (au (PySem.W.Looks.here (s:={s with toks:=s.toks+1}) (PySem.W.looks_clsIn X hc) ?_))))));rw[U];refine bf (a:=Z8 dx) (au (bf (au ?_)));refine wpAny_nsSet1 (s:={s with toks:=s.toks+1}) I.ns fun h' Z Y=>?_;obtain⟨t,z,H,M,V,O⟩:=Z.count (PySem.Within.cons name v hw);refine au (wpAny_lookBehind M (by rw[V];exact pastItsLine_dict (cY O (by rw[aU];omega))) ?_);exact bf (h _ {(Y.2 _ (fX I.ne)).trans I.obj,Z,I.ne} Y)
theorem Fl{R:Md->ao->Prop}{vs:List ae}{Z:List (Str×ae)}(X:K.In s.heap)(V:uu K C=true)
  (hi:aS K (.ref C) "__init__"=Z8 (Z8 (.ref f))) (Y:Fn K (.ref f)=Z8 (.type "function"))
  (h:o5 (aX prog w) (A.under (.builtin "type.__call__" {.ref C::vs,Z})) (.call (.ref f) {.ref (s.heap.objs.size+1)::vs,Z}) (PySem.W.InitBack (s.heap.objs.size+1) R)
   {s with heap:=(s.heap.push eZ).push (gJ C s.heap.objs.size)}) :
  o5 (aX prog w) A (.call (.ref C) ⟨vs,Z⟩) R s:=by
 obtain⟨U,g,d,t,O⟩:=s;exact PySem.W.make_core (PySem.W.makes_of X V) (j0 X hi) (fun self=>PySem.W.bind_fn X self Y) (.inl rfl) h
end
def cE(f:Str)(v:V):List (Str×V)->List (Str×V)
 | []=>[(f,v)]
 |(g,x)::r=>if g=f then (g,v)::r else (g,x)::cE f v r
theorem tW(f g:Str)(v:V):∀fs:List (Str×V),(cE f v fs).lookup g=if g=f then Z8 v else fs.lookup g
 | []=>by
  show kE g [(f,v)]=_
  by_cases h:g=f
  ·have hb:(g==f)=true:=beq_iff_eq.mpr h;simp only[kE,hb,if_pos h]
  ·have hb:(g==f)=false:=beq_eq_false_iff_ne.mpr h;simp only[kE,hb,if_neg h]
 |(k,x)::r=>by
  have Z:=tW f g v r;rw[show cE f v ((k,x)::r)=(if k=f then (k,v)::r else (k,x)::cE f v r) from rfl]
  by_cases hk:k=f
  ·rw[if_pos hk]
   by_cases h:g=k
   ·have hb:(g==k)=true:=beq_iff_eq.mpr h;simp only[kE,hb,if_pos (h.trans hk)]
   ·have hb:(g==k)=false:=beq_eq_false_iff_ne.mpr h;simp only[kE,hb,if_neg (fun e:g=f=>h (e.trans hk.symm))]
  ·rw[if_neg hk]
   by_cases h:g=k
   ·have hb:(g==k)=true:=beq_iff_eq.mpr h;simp only[kE,hb,if_neg (fun e:g=f=>hk (h.symm.trans e))]
   ·have hb:(g==k)=false:=beq_eq_false_iff_ne.mpr h;simp only[kE,hb];exact Z
theorem sT(f:Str)(v:V):∀fs:List (Str×V),f∈(cE f v fs).map (·.1)/\∀g,g∈fs.map (·.1)->g∈(cE f v fs).map (·.1)
 | []=>{by simp[cE],fun g h=>by simp at h}
 |(k,x)::r=>by
  obtain⟨Y,Z⟩:=sT f v r;rw[show cE f v ((k,x)::r)=(if k=f then (k,v)::r else (k,x)::cE f v r) from rfl]
  by_cases hk:k=f
  ·rw[if_pos hk];subst hk;exact{by simp,fun g h=>by simpa using h}
  ·rw[if_neg hk];refine{?_,fun g h=>?_}
   ·rw[bU];exact ah _ Y
   ·rw[bU]at h |-
    rcases ar.mp h with e|e
    ·exact ar.mpr (.inl e)
    ·exact ah _ (Z g e)
theorem tX(f:Str)(v:V):∀fs:List (Str×V),(cE f v fs).length<=fs.length+1
 | []=>by simp[cE]
 |(k,x)::r=>by
  have Z:=tX f v r;rw[show cE f v ((k,x)::r)=(if k=f then (k,v)::r else (k,x)::cE f v r) from rfl]
  by_cases hk:k=f
  ·rw[if_pos hk,aU,aU];omega
  ·rw[if_neg hk,aU,aU];omega
theorem qD.some_of{v:V}{o:Option ae}(r:qD (Z8 v) o):∃u,o=Z8 u/\RelV v u:=by
 cases o with
 |none=>exact (show False from r).elim
 |some u=>exact⟨u,Z9,r⟩
theorem qD.none_of{o:Option ae}(r:qD Z7 o):o=Z7:=by
 cases o with
 |none=>rfl
 |some u=>exact (show False from r).elim
theorem DJ{v:V}{u:ae}(r:RelV v u):DI u=true:=by
 cases v with
 |non=>cases (show u=Value.none from r);rfl
 |bl b=>cases (show u=Value.bool b from r);rfl
 |int i=>obtain⟨t,e⟩:=(show ∃t,u=Value.int i t from r);cases e;rfl
 |str x=>obtain⟨t,e⟩:=(show ∃t,u=Value.str x t from r);cases e;rfl
 |byt b=>obtain⟨t,e⟩:=(show ∃t,u=Value.bytes b t from r);cases e;rfl
 |flt b=>obtain⟨t,e⟩:=(show ∃t,u=Value.float b t from r);cases e;rfl
 |ref a=>cases (show u=Value.ref a from r);rfl
 |ty n=>cases (show u=Value.type n from r);rfl
section
variable{P:aL}{w:bA}{H H':Hp}{h h':cu}{a C dx:aa}{fs fs':List (Str×V)}
theorem uH(Z:HOk P w H h)(e:H a=Z8 (.ins C dx fs)):∃mA,AG h a dx C mA/\(∀f,qD (fs.lookup f) (mA f))/\zt mA (fs.map (·.1))/\fs.length<=1000/\H dx=Z8 (.own a):=by
 obtain⟨d,z,ne,Y,mA,n,r,q⟩:=(show eB P w H h a (.ins C dx fs) from Z a _ e);exact{mA,⟨Y,n,ne⟩,r,q,z,d}
end
structure Cls(K:af)(C:aa):Prop where
 pg:mK K C Str.empty=true
 hd:rD K C=true
 po:BL K C=true
 sa:aS K (.ref C) "__setattr__"=Z8 (Z8 (.builtin "object.__setattr__"))
theorem Cls.get{K:af}{C:aa}(c:Cls K C)(f:Str):mK K C f=true:=c.pg
def eC(K:af)(C:aa)(f:Str):Prop:=aS K (.ref C) f=Z8 Z7
theorem eC.taker{K:af}{C:aa}{f:Str}(n:eC K C f):uq K C f=Z8 Z7:=by
 unfold uq;rw[show aS K (.ref C) f=Z8 Z7 from n];rfl
structure yj(K:af)(C:aa)(m:Str)(f:aa):Prop where
 at_:aS K (.ref C) m=Z8 (Z8 (.ref f))
 fn:nX K (.ref f)=true
 kp:gz K (.ref f)=true
section
variable{X:Cx}{pins:List (aa×Obj)}{σ:St}{H:Hp}{s:ao}{a C dx:aa}{fs:List (Str×V)}{f:Str}{v:V}{A:bY}{E:ae->ao->Prop}
theorem vC{b:Bool}{Q:ae->ao->Prop}(I:Inv X pins σ H s)(e:H a=Z8 (.ins C dx fs))(c:Cls X.K C)(n:eC X.K C f)(l:fs.lookup f=Z8 v)
  (h:∀u s',Inv X pins σ H s'->RelV v u->Q u s'):aW (aX X.prog X.w) A (getAttr (.ref a) f b) Q E s:=by
 obtain⟨mA,O,r,_,_,_⟩:=uH I.hok e;obtain⟨u,Y,Z⟩:=qD.some_of (v:=v) (o:=mA f) (by rw[<- l];exact r f);exact IQ I.kIn O (c.get f) c.hd n Y (DJ Z) (h u _ (I.tok _) Z)
theorem qV{m:Str}{g:aa}{pl:Sem Bool}{Q:ae×List ae->ao->Prop}(I:Inv X pins σ H s)(e:H a=Z8 (.ins C dx fs))(c:Cls X.K C)(k:yj X.K C m g)(l:fs.lookup m=Z7)
  (h:Q (.ref g,[.ref a]) s):aW (aX X.prog X.w) A (nI (.ref a) m pl) Q E s:=by
 obtain⟨mA,O,r,_,_,_⟩:=uH I.hok e;have Z:mA m=Z7:=qD.none_of (by rw[<- l];exact r m);exact Fk I.kIn O (c.get m) k.at_ k.fn Z h
theorem vD{y:V}{u:ae}{Q:Unit->ao->Prop}(I:Inv X pins σ H s)(e:H a=Z8 (.ins C dx fs))(c:Cls X.K C)(n:eC X.K C f)(hl:fs.length<1000)(ry:RelV y u)
  (h:∀s',Inv X pins σ (upd H a (.ins C dx (cE f y fs))) s'->Q () s'):aW (aX X.prog X.w) A (setAttr (.ref a) f u) Q E s:=by
 obtain⟨mA,O,r,W,_,Y⟩:=uH I.hok e;have U:(fs.map (·.1)).length<=aC:=by rw[aq,lH];omega
 refine IR I.kIn O c.sa c.po n.taker c.hd W U fun h' Z M=>h _ ?_;have J:∃o,h'.get? dx=Z8 o:=let ⟨o,_,_,t,_⟩:=Z.ns;⟨o,t⟩;refine I.write (x:=a) (e:=dx) (by rw[e];exact True.intro) (.inr Y) (fun b q hb z=>(M.2 b hb).trans z) J ?_;refine{by rw[aJ O.ne];exact Y,?_,O.ne,Z.obj,_,Z.ns,fun g=>?_,fun g D=>?_}
 ·have:=tX f y fs;omega
 ·show qD ((cE f y fs).lookup g) (if g=f then Z8 u else mA g);rw[tW]
  by_cases q:g=f
  ·rw[if_pos q,if_pos q];exact ry
  ·rw[if_neg q,if_neg q];exact r g
 ·by_cases q:g=f
  ·rw[q];exact (sT f y fs).1
  ·refine (sT f y fs).2 g (W g fun z=>D ?_);show (if g=f then Z8 u else mA g)=Z7;rw[if_neg q];exact z
theorem Inv.made(I:Inv X pins σ H s):Inv X pins σ (upd (upd H s.heap.objs.size (.own (s.heap.objs.size+1))) (s.heap.objs.size+1) (.ins C s.heap.objs.size []))
  {s with heap:=(s.heap.push eZ).push (gJ C s.heap.objs.size)}:=by
 have e1:(s.heap.push eZ).get? s.heap.objs.size=Z8 eZ:=cj s.heap rfl;have Y:((s.heap.push eZ).push (gJ C s.heap.objs.size)).get? (s.heap.objs.size+1)=Z8 (gJ C s.heap.objs.size):=by
  have:=cj (s.heap.push eZ) (o:=gJ C s.heap.objs.size) rfl
  rwa[qJ]at this
 have e3:(s.heap.push eZ).Ns s.heap.objs.size (fun _=>Z7):={eZ,#[],_,e1,Z9,(fun e W=>absurd W (by simp)),fun _=>rfl};have Z:=I.laid (a:=s.heap.objs.size) (o:=.own (s.heap.objs.size+1)) (h':=s.heap.push eZ) (t':=s.toks) (fun b u q=>aK _ q) (aB _) {_,e1};refine Z.laid (a:=s.heap.objs.size+1) (o:=.ins C s.heap.objs.size []) (t':=s.toks) (fun b u q=>aK _ q) (AH (qJ _ _)) ?_;have ne:s.heap.objs.size≠s.heap.objs.size+1:=aR (vE _);refine{by rw[aJ ne,ag],bO _,ne,Y,fun _=>Z7,(Heap.Ns1.of_empty e3).at fun o q=>aK _ q,fun _=>True.intro,fun y hy=>absurd rfl hy}
theorem IS{prog:aL}{w:bA}{env:Env}{e:cL}{f:Str}{pos:Pos}{s:ao}{Q:ae->ao->Prop}(hb:lF e f env (fy e env)=fy e env)
  (h:aW (aX prog w) A (fy e env) (fun o Z=>aW (aX prog w) A (getAttr o f true) Q E Z) E s):aW (aX prog w) A (fy (.Attribute e f pos) env) Q E s:=
 Attribute_any_ h (by rw[arm_eval_Attribute,hb])
end
inductive FldI(K:af)(f:Str)(x:V)(H:Hp)(Q:VK):Prop where
 |mk(a C dx:aa)(fs:List (Str×V))(v:V)(hx:x=.ref a)(h:H a=Z8 (.ins C dx fs))(c:Cls K C)(n:eC K C f)(e:fs.lookup f=Z8 v)(q:Q v H):FldI K f x H Q
def Me(K:af)(ta:TE)(f:Str):TE:=fun σ H Q=>ta σ H fun x H1=>FldI K f x H1 Q
def sFld(K:af)(ta tv:TE)(f:Str):TS:=fun D σ H=>tv σ H fun y H1=>ta σ H1 fun x H2=>∃a C dx fs,x=.ref a/\H2 a=Z8 (.ins C dx fs)/\Cls K C/\eC K C f/\fs.length<1000 /\
 D.nx σ (upd H2 a (.ins C dx (cE f y fs)))
def InOp(X:Cx)(op:IJ)(Z:V->V->Hp->VK->Prop):Prop:=
 ∀(pins:List (aa×Obj)) (s:ao) (σ:St) (H:Hp) (x y:V) (u v:ae) (Q:VK),Inv X pins σ H s->RelV x u->RelV y v->Z x y H Q->aW (aX X.prog X.w) X.A (inplaceOp op u v) (EP X pins σ Q) X.xe s
def IT(K:af)(ta tv:TE)(W:V->V->Hp->VK->Prop)(f:Str):TS:=fun D σ H=>ta σ H fun x H1=>∃a C dx fs v,x=.ref a/\H1 a=Z8 (.ins C dx fs)/\Cls K C/\eC K C f/\fs.lookup f=Z8 v /\
 tv σ H1 fun y H2=>W v y H2 fun z Y=>∃Z fs',Y a=Z8 (.ins C Z fs')/\fs'.length<1000/\D.nx σ (upd Y a (.ins C Z (cE f z fs')))
section
variable{X:Cx}{o e value:cL}{f:Str}{pos pos' tpos:Pos}{ta tv:TE}
theorem cO(V:PE X e ta)(hb:lF e f X.env (fy e X.env)=fy e X.env):PE X (.Attribute e f pos) (Me X.K ta f):=by
 intro pins s σ H Q I h;refine IS hb (thn (V pins s σ H _ I h) fun u M ⟨x,H1,O,Z,a,C,dx,fs,v,ex,Y,c,n,l,q⟩=>?_);subst ex;obtain rfl:u=Value.ref a:=Z;exact vC O Y c n l fun J s2 W U=>⟨v,H1,W,U,q⟩
theorem eD(ha:PE X o ta)(U:PE X value tv)(hs:tV value (Z8 (.Attribute o f pos')) pos.line X.env=pure false):PS X (.Assign [.Attribute o f pos'] value pos) (sFld X.K ta tv f):=by
 intro pins s σ H D I h;refine plainObj_wpAny_Assign_Attribute (thn (U pins s σ H _ I h) fun u W ⟨y,H1,M,z,q⟩=>thn (ha pins W σ H1 _ M q) fun O s2 ⟨x,H2,V,Z,a,C,dx,fs,ex,Y,c,n,l,t⟩=>?_) hs;subst ex;obtain rfl:O=Value.ref a:=Z;exact vD V Y c n l z fun g J=>{σ,_,J,t}
theorem xl{op:IJ}{W:V->V->Hp->VK->Prop}(ha:PE X o ta)(hv:PE X value tv)(Z:InOp X op W):PS X (.AugAssign (.Attribute o f tpos) op value pos) (IT X.K ta tv W f):=by
 intro pins s σ H D I h;refine wpAny_AugAssign_AttributeAny (thn (ha pins s σ H _ I h) fun ov s1 ⟨x,H1,I1,rx,a,C,dx,fs,v,ex,U,c,n,l,q⟩=>?_);subst ex;obtain rfl:ov=Value.ref a:=rx;refine vC I1 U c n l fun u s2 I2 M=>thn (hv pins s2 σ H1 _ I2 q) fun w3 g ⟨y,H2,I3,ry,J⟩=>thn (Z pins g σ H2 v y u w3 _ I3 M ry J) fun w4 s4 ⟨z,H3,t,rz,bG,fs',Y,l',O⟩=>?_;exact vD t Y c n l' rz fun s5 I5=>{σ,_,I5,O}
def rAdd:V->V->Hp->VK->Prop:=fun x y H Q=>∃i j,x=.int i/\y=.int j/\Q (.int (i+j)) H
theorem Fo:InOp X .Add rAdd:=by
 rintro pins s σ H x y u v Q I Z Y ⟨i,j,rfl,rfl,q⟩;obtain⟨t,rfl⟩:=(show ∃t,u=Value.int i t from Z);obtain⟨t',rfl⟩:=(show ∃t',v=Value.int j t' from Y);exact PyProof.Rows.iadd_int {.int (i+j),H,I.tok _,{_,Z9},q}
theorem methcall_of{pl:Sem Bool}{m:Str}{apos:Pos}{args:List cL}{pins:List (aa×Obj)}{s:ao}{σ:St}{H:Hp}{Q:ae->ao->Prop}{te:TE}(O:PE X e te)(I:Inv X pins σ H s)
  (h:te σ H fun x H1=>∃a C dx fs g,x=.ref a/\H1 a=Z8 (.ins C dx fs)/\Cls X.K C/\yj X.K C m g/\fs.lookup m=Z7 /\
   ∀Z,Inv X pins σ H1 Z->aW (aX X.prog X.w) X.A (AI pos (.ref g) [.ref a] (jf pos (cw args X.env)) (nY pos (jg [] X.env))) Q X.xe Z)
  (ht:fy (.Call (.Attribute e m apos) args [] pos) X.env=(do
   let Y <- fy e X.env
   wR apos.atName
   let (f,first) <- qS [Y] (nI Y m pl)
   AI pos f first (jf pos (cw args X.env)) (nY pos (jg [] X.env)))) :
  aW (aX X.prog X.w) X.A (fy (.Call (.Attribute e m apos) args [] pos) X.env) Q X.xe s:=by
 refine jI (pl:=pl) (thn (O pins s σ H _ I h) fun u Z ⟨x,H1,W,V,a,C,dx,fs,g,ex,U,c,k,l,q⟩=>?_) ht;subst ex;obtain rfl:u=Value.ref a:=V;exact qV W U c k l (q Z W)
end
section
variable{X:Cx}{pins:List (aa×Obj)}{σ:St}{H:Hp}{s:ao}{A:bY}{E:ae->ao->Prop}{Q:ae->ao->Prop}{c:ae}{b:Bool}
inductive sU(K:af)(H:Hp):V->ae->Prop where
 |non:sU K H .non (.type "NoneType")
 |bl(x:Bool):sU K H (.bl x) (.type "bool")
 |int(i:Int):sU K H (.int i) (.type "int")
 |str(x:Str):sU K H (.str x) (.type "str")
 |flt(x:UInt64):sU K H (.flt x) (.type "float")
 |lst{a:aa}{xs:List V}(e:H a=Z8 (.lst xs)):sU K H (.ref a) (.type "list")
 |frz{a:aa}{o:Obj}{xs:List V}(e:H a=Z8 (.frz o (.lst xs))):sU K H (.ref a) (.type "list")
 |tup{a:aa}{xs:List V}(e:H a=Z8 (.tup xs)):sU K H (.ref a) (.type "tuple")
 |dK{a:aa}{kvs:List (Key×V)}(e:H a=Z8 (.dK kvs)):sU K H (.ref a) (.type "dict")
 |dT{a:aa}{kvs:List (List Key×V)}(e:H a=Z8 (.dT kvs)):sU K H (.ref a) (.type "dict")
 |ins{a C dx:aa}{fs:List (Str×V)}(e:H a=Z8 (.ins C dx fs))(cl:Cls K C)(ha:aS K (.ref C) "__class__"=Z8 (Z8 (.builtin "object.__class__")))
   (hn:BM K (.builtin "object.__class__") "__get__"=Z8 (Z8 (.builtin "getset_descriptor.__get__"))) (htk:EM K (.builtin "object.__class__")=Z8 true)
   (hm:wU K C (.type "object")=Z8 true):sU K H (.ref a) (.ref C)
theorem DK{x:V}{u t:ae}(I:Inv X pins σ H s)(Z:RelV x u)(ty:sU X.K H x t)(e:gA X.K t c=Z8 b)(h:∀tk,Q (.bool b) {s with toks:=tk}) :
  aW (aX X.prog X.w) A (vw (.builtin "isinstance") [u,c]) Q E s:=by
 cases ty with
 |non=>cases (show u=Value.none from Z);exact eO PySem.W.kitx_none I.kIn True.intro e (fun z=>nomatch z) h
 |bl y=>cases (show u=Value.bool y from Z);exact eO PySem.W.kitx_bool I.kIn True.intro e (fun z=>nomatch z) h
 |int i=>obtain⟨t,q⟩:=(show ∃t,u=Value.int i t from Z);cases q;exact eO PySem.W.kitx_int I.kIn True.intro e (fun z=>nomatch z) h
 |str y=>obtain⟨t,q⟩:=(show ∃t,u=Value.str y t from Z);cases q;exact eO PySem.W.kitx_str I.kIn True.intro e (fun z=>nomatch z) h
 |flt y=>obtain⟨t,q⟩:=(show ∃t,u=Value.float y t from Z);cases q;exact eO PySem.W.kitx_float I.kIn True.intro e (fun z=>nomatch z) h
 |@lst a xs Y=>
  cases (show u=Value.ref a from Z);obtain⟨_,_,n,_,h1⟩:=(show eB X.prog X.w H s.heap a (.lst xs) from I.hok a _ Y);exact eO BN I.kIn {_,h1,Z9} e (fun z=>nomatch z) h
 |@frz a D xs Y=>
  cases (show u=Value.ref a from Z);obtain⟨_,_,_,n,_,h1⟩:=(show eB X.prog X.w H s.heap a (.frz D (.lst xs)) from I.hok a _ Y);exact eO BN I.kIn {_,h1,Z9} e (fun z=>nomatch z) h
 |@tup a xs Y=>
  cases (show u=Value.ref a from Z);obtain⟨_,_,_,p⟩:=(show eB X.prog X.w H s.heap a (.tup xs) from I.hok a _ Y);obtain⟨o,h1,h2,_⟩:=p;exact eO PySem.W.kitx_tuple I.kIn ⟨o,h1,h2⟩ e (fun z=>nomatch z) h
 |@dK a kvs Y=>
  cases (show u=Value.ref a from Z);obtain⟨_,_,vs,_,p⟩:=(show eB X.prog X.w H s.heap a (.dK kvs) from I.hok a _ Y);obtain⟨o,es,ep,h1,h2,_⟩:=p;exact eO BO I.kIn ⟨o,h1,h2.1⟩ e (fun z=>nomatch z) h
 |@dT a kvs Y=>
  cases (show u=Value.ref a from Z);obtain⟨_,_,xs,_,o,es,ep,h1,h2,_⟩:=(show eB X.prog X.w H s.heap a (.dT kvs) from I.hok a _ Y);exact eO BO I.kIn ⟨o,h1,h2.1⟩ e (fun z=>nomatch z) h
 |@ins a C dx fs Y M ha hn U g=>
  cases (show u=Value.ref a from Z);obtain⟨mA,O,_⟩:=uH I.hok Y;obtain⟨od,J,_⟩:=O.look;exact eO (PySem.W.kitx_own (M.get _) M.hd ha hn U g) I.kIn J e (fun z=>nomatch z) h
end
structure cZ(k:Nat)(A:bY):Prop where
 hd:A.handled=Z7
 dp:A.depth+3*k+5<recursionLimit
 un:A.units+16*k+200<d8
theorem cZ.mono{j k:Nat}{A:bY}(r:cZ k A)(h:j<=k):cZ j A:={r.hd,by have:=r.dp;omega,by have:=r.un;omega}
theorem cZ.deeper{k:Nat}{A:bY}(r:cZ (k+1) A)(env:Env):cZ k (A.deeper env):=
 {r.hd,by have:=r.dp;show A.depth+1+3*k+5<_;omega,by have:=r.un;show A.units+3+16*k+200<_;omega}
theorem AJ{A:bY}{C:aa}{us:List ae}{Z:List (Str×ae)}:(A.under (.builtin "type.__call__" {.ref C::us,Z})).depth=A.depth+1:=by
 first|rfl|simp[zd,Code.weight,Code.isCreation,Code.isGuard,Code.isCaller,Code.frames,Ap,guardIds]
theorem AK{A:bY}{C:aa}{us:List ae}{Z:List (Str×ae)}:(A.under (.builtin "type.__call__" {.ref C::us,Z})).units=A.units+1:=by
 first|rfl|simp[zd,Code.cUnits,Code.frames,Ap]
theorem cZ.make{k:Nat}{A:bY}(r:cZ (k+1) A)(C:aa)(us:List ae)(Z:List (Str×ae)):cZ k (A.under (.builtin "type.__call__" {.ref C::us,Z})):=
 {r.hd,by have:=r.dp;rw[AJ];omega,by have:=r.un;rw[AK];omega}
theorem cZ.depth{k:Nat}{A:bY}(r:cZ k A):A.depth<recursionLimit:=by have:=r.dp;omega
theorem cZ.units{k:Nat}{A:bY}(r:cZ k A):A.units+64<d8:=by have:=r.un;omega
def AL:TA:=fun _ H Q=>Q [] H
def oN(ta:TE)(tr:TA):TA:=fun σ H Q=>ta σ H fun x H1=>tr σ H1 fun xs H2=>Q (x::xs) H2
section
variable{X:Cx}{e:cL}{es:List cL}{te:TE}{t:TA}{pos:Pos}
theorem aj:PA X [] AL:=fun _ _ _ _ H Q I h=>EN {[],H,I,.nil,h}
theorem ak(ha:PE X e te)(U:PA X es t)(hs:cw (e::es) X.env=(false,fy e X.env)::cw es X.env:=by rfl):PA X (e::es) (oN te t):=by
 intro pos pins s σ H Q I h;rw[hs];show aW _ _ (spliced ((false,fy e X.env)::jf pos (cw es X.env))) _ _ s;refine DQ (thn (ha pins s σ H _ I h) fun u Z ⟨x,H1,V,M,W⟩=>?_);exact thn (U pos pins Z σ H1 _ V W) fun us s2 ⟨xs,H2,Y,O,J⟩=>{x::xs,H2,Y,.cons M O,J}
def tTup(t:TA):TE:=fun σ H Q=>t σ H fun xs H1=>xs.length<=aC/\∀p,H1 p=Z7->Q (.ref p) (upd H1 p (.tup xs))
def tLst(t:TA):TE:=fun σ H Q=>t σ H fun xs H1=>xs.length<=aC/\∀p,H1 p=Z7->Q (.ref p) (upd H1 p (.lst xs))
theorem eg {x1} (h:PA X es t):PE X (.Tuple es x1 pos) (tTup t):=by
 intro pins s σ H Q I hq;refine wpAny_Tuple_spliced (thn (h pos pins s σ H _ I hq) fun us Z ⟨xs,H1,Y,r,z,q⟩=>{by rw[<- r.length];exact z,?_});have W:H1 Z.heap.objs.size=Z7:=Y.hok.fresh (aB _);refine{.ref Z.heap.objs.size,upd H1 Z.heap.objs.size (.tup xs),Y.laid (t':=Z.toks) (fun b u e=>aK _ e) (aB _) ?_,Z9,q _ W};exact{z,us,r,{_,cj _ rfl,Z9,_,Z9}}
theorem eR(h:PA X es t):PE X (.List es pos) (tLst t):=by
 intro pins s σ H Q I hq;refine wpAny_List_spliced (thn (h pos pins s σ H _ I hq) fun us Z ⟨xs,H1,Y,r,z,q⟩=>{by rw[<- r.length];exact z,?_});have W:H1 Z.heap.objs.size=Z7:=Y.hok.fresh (aB _);refine{.ref Z.heap.objs.size,upd H1 Z.heap.objs.size (.lst xs),Y.laid (t':=Z.toks) (fun b u e=>aK _ e) (aB _) ?_,Z9,q _ W};exact{z,us,0,r,cj _ rfl}
end
abbrev Sp:=List V->Hp->VK->XK->Prop
abbrev CXT:=List Env->Hp->ao->XK->ae->ao->Prop
structure yk(P:aL)(w:bA)(K:af)(mg:Str->Option ae)(base:cu)(A:bY)(outer:List Env)(s:ao)(H:Hp):Prop where
 frames:A.frames=Z8 outer
 mod:Mod K mg base
 bs:∀b o,base.get? b=Z8 o->s.heap.get? b=Z8 o/\H b=Z7
 bsz:base.objs.size<=s.heap.objs.size
 funs:s.heap.FunFrames base outer
 frf:∀b∈frs outer,H b=Z7
 hok:HOk P w H s.heap
 bare:oZ s.gens
def CE(outer:List Env)(P:aL)(w:bA)(H:Hp)(s:ao)(Q:VK)(u:ae)(s':ao):Prop:=
 ∃v H',s'.os=s.os/\oZ s'.gens/\Un (frs outer) [] H H' s.heap s'.heap/\HOk P w H' s'.heap/\RelV v u/\Q v H'
def CR(CX:CXT)(outer:List Env)(P:aL)(w:bA)(H:Hp)(s:ao)(Q:VK)(E:XK)(r:Md)(s':ao):Prop:=
 match r with
 |.ok (.ret u)=>CE outer P w H s Q u s'
 |.ok _=>False
 |.error e=>CX outer H s E e s'
structure bh(P:aL)(w:bA)(K:af)(mg:Str->Option ae)(base:cu)(CX:CXT)(k:Nat)(f:aa)(fd:bS)(ps:List Str)(sp:Sp):Prop where
 len:∀vs H Q E,sp vs H Q E->vs.length=ps.length
 run:∀(A:bY) (outer:List Env) (s:ao) (H:Hp) (args:Args) (us:List ae) (vs:List V) (Q:VK) (E:XK),cZ k A->yk P w K mg base A outer s H->tY s fd args (ps.zip us)->cS vs us->sp vs H Q E ->
  o5 (aX P w) A (.call (.ref f) args) (CR CX outer P w H s Q E) s
theorem yk.make{P:aL}{w:bA}{K:af}{mg:Str->Option ae}{base:cu}{A:bY}{outer:List Env}{s:ao}{H:Hp}(e:yk P w K mg base A outer s H)(C:aa)(us:List ae)(Z:List (Str×ae)) :
  yk P w K mg base (A.under (.builtin "type.__call__" {.ref C::us,Z})) outer s H:={by first|exact e.frames|(simpa[zd,Code.envs,Ap,pushEnvs] using e.frames),e.mod,e.bs,e.bsz,e.funs,e.frf,e.hok,e.bare}
section
variable{X:Cx}{pins:List (aa×Obj)}{σ:St}{H:Hp}{s s':ao}
theorem Inv.env0(I:Inv X pins σ H s):yk X.prog X.w X.K X.mg X.base X.A X.stack s H:=
 {I.ok.frames,I.ok.mod,I.bs,cY I.ok.bsz I.sz,I.stack,I.stkFree,I.hok,I.bare}
theorem Inv.after{Q:VK}{u:ae}(I:Inv X pins σ H s)(h:CE X.stack X.prog X.w H s Q u s'):EP X pins σ Q u s':=by
 obtain⟨v,H',U,Z,un,Y,r,q⟩:=h;obtain⟨V,g,d,t,W⟩:=s';obtain rfl:W=s.os:=U;exact{v,H',I.call (h':=V) (g':=g) (d':=d) (t':=t) (ch:=[]) un Y Z (fun b z=>absurd z (by simp)),r,q}
end
def tCall(sp:Sp)(dvs:List V)(E:XK)(t:TA):TE:=fun σ H Q=>t σ H fun vs H1=>sp (vs++dvs) H1 Q E
def KG(C:aa)(m:Str)(sp:Sp)(dvs:List V)(E:XK)(ta:TE)(t:TA):TE:=fun σ H Q=>ta σ H fun x H1=>∃a dx fs,x=.ref a/\H1 a=Z8 (.ins C dx fs)/\fs.lookup m=Z7 /\
 t σ H1 fun vs H2=>sp (x::(vs++dvs)) H2 Q E
def KH(C:aa)(sp:Sp)(dvs:List V)(E:XK)(t:TA):TE:=fun σ H Q=>t σ H fun vs H1=>∀x dx,H1 x=Z7->H1 dx=Z7->dx≠x ->
 sp (.ref x::(vs++dvs)) (upd (upd H1 dx (.own x)) x (.ins C dx [])) (fun v H2=>v=.non/\Q (.ref x) H2) E
def Binds(K:af)(fd:bS)(ps:List Str)(ds:List ae):Prop:=
 ∀(s:ao) (us:List ae),K.In s.heap->(us++ds).length=ps.length->tY s fd {us,[]} (ps.zip (us++ds))
theorem Binds.all{K:af}{fd:bS}{ps:List Str}(h:∀us:List ae,us.length=ps.length->AM fd {us,[]}=pure (ps.zip us)):Binds K fd ps []:=fun s us _ Z=>by
 rw[cB]at Z |-;exact .of_eq (h us Z)
def kS(CX:CXT)(X:Cx)(E:XK):Prop:=∀(pins:List (aa×Obj)) (σ:St) (H:Hp) (s:ao) (e:ae) (s':ao),Inv X pins σ H s->CX X.stack H s E e s'->X.xe e s'
section
variable{X:Cx}{CX:CXT}{k:Nat}{f C:aa}{fd:bS}{ps:List Str}{sp:Sp}{dvs:List V}{ds:List ae}{E:XK}{x m:Str}{p pos apos:Pos}{e o:cL}{es:List cL}{ta:TE}{t:TA}
theorem AN{pins:List (aa×Obj)}{σ:St}{H:Hp}{s:ao}{Q:VK}{us:List ae}{vs:List V}(F:bh X.prog X.w X.K X.mg X.base CX k f fd ps sp)(U:cZ k X.A)(hb:Binds X.K fd ps ds)(Y:cS dvs ds)(hx:kS CX X E)
  (I:Inv X pins σ H s) (r:cS vs us) (h:sp (vs++dvs) H Q E):aW (aX X.prog X.w) X.A (vw (.ref f) us) (EP X pins σ Q) X.xe s:=by
 have Z:cS (vs++dvs) (us++ds):=r.append Y;have W:(us++ds).length=ps.length:=by rw[<- Z.length];exact F.len _ _ _ _ h
 refine AO (mO (F.run X.A X.stack s H {us,[]} (us++ds) (vs++dvs) Q E U I.env0 (hb s us I.kIn W) Z h) fun r s' hq=>?_)
 cases r with
 |error e=>exact hx pins σ H s e s' I hq
 |ok fl=>
  cases fl with
  |ret u=>exact I.after hq
  |next=>exact cP hq
  |brk=>exact cP hq
  |cont=>exact cP hq
theorem aM(F:bh X.prog X.w X.K X.mg X.base CX k f fd ps sp)(J:cZ k X.A)(O:Gl X x)(M:X.mg x=Z8 (.ref f))(hk:gz X.K (.ref f)=true)(hb:Binds X.K fd ps ds)(U:cS dvs ds)(hx:kS CX X E)
  (ha:PA X (e::es) t) (Z:(x==("__debug__":Str))=false:=by decide) (V:cw (e::es) X.env=(false,fy e X.env)::cw es X.env:=by rfl) (Y:(jf pos (cw es X.env)).any (·.1)=false:=by rfl) :
  PE X (.Call (.Name x p) (e::es) [] pos) (tCall sp dvs E t):=by
 intro pins s σ H Q I h;refine gR (rB I O M ?_ Z);refine kT (h₀:=X.base) I.ok.mod.kin hk (thn (ha pos pins s σ H _ I h) fun us D ⟨vs,H1,W,r,q⟩=>{W.kIn,?_}) V Y;exact AN F J hb U hx W r q
theorem fZ{pl:Sem Bool}(z:PE X o ta)(c:Cls X.K C)(O:yj X.K C m f)(F:bh X.prog X.w X.K X.mg X.base CX k f fd ps sp)(hr:cZ k X.A)(hb:Binds X.K fd ps ds)(g:cS dvs ds)(hx:kS CX X E)(ha:PA X (e::es) t)
  (Z:cw (e::es) X.env=(false,fy e X.env)::cw es X.env:=by rfl) (Y:(jf pos (cw es X.env)).any (·.1)=false:=by rfl)
  (ht:fy (.Call (.Attribute o m apos) (e::es) [] pos) X.env=(do
   let V <- fy o X.env
   wR apos.atName
   let (f,first) <- qS [V] (nI V m pl)
   AI pos f first (jf pos (cw (e::es) X.env)) (nY pos (jg [] X.env))):=by rfl) :
  PE X (.Call (.Attribute o m apos) (e::es) [] pos) (KG C m sp dvs E ta t):=by
 intro pins s σ H Q I h;refine jI (pl:=pl) (thn (z pins s σ H _ I h) fun u D ⟨x,H1,U,M,a,dx,fs,ex,J,l,q⟩=>?_) ht;subst ex;obtain rfl:u=Value.ref a:=M;refine qV U J c O l ?_;refine kT (first:=[.ref a]) (h₀:=X.base) I.ok.mod.kin O.kp (thn (ha pos pins D σ H1 _ U q) fun us s2 ⟨vs,H2,W,r,q2⟩=>{W.kIn,?_}) Z Y;exact AN (us:=.ref a::us) (vs:=.ref a::vs) F hr hb g hx W (.cons rfl r) q2
theorem gB{pl:Sem Bool}(O:PE X o ta)(c:Cls X.K C)(W:yj X.K C m f)(F:bh X.prog X.w X.K X.mg X.base CX k f fd ps sp)(J:cZ k X.A)(hb:Binds X.K fd ps ds)(M:cS dvs ds)(hx:kS CX X E)
  (ht:fy (.Call (.Attribute o m apos) [] [] pos) X.env=(do
   let Y <- fy o X.env
   wR apos.atName
   let (f,first) <- qS [Y] (nI Y m pl)
   AI pos f first (jf pos (cw [] X.env)) (nY pos (jg [] X.env))):=by rfl) :
  PE X (.Call (.Attribute o m apos) [] [] pos) (KG C m sp dvs E ta AL):=by
 intro pins s σ H Q I h;refine jI (pl:=pl) (thn (O pins s σ H _ I h) fun u D ⟨x,H1,Z,V,a,dx,fs,ex,U,l,q⟩=>?_) ht;subst ex;obtain rfl:u=Value.ref a:=V;refine qV Z U c W l ?_;exact Aq (first:=[.ref a]) Z.kIn W.kp (AN (us:=[.ref a]) (vs:=[.ref a]) F J hb M hx Z (.cons rfl .nil) q)
structure Mk(K:af)(C f:aa):Prop where
 makes:uu K C=true
 init:aS K (.ref C) "__init__"=Z8 (Z8 (.ref f))
 fn:nX K (.ref f)=true
 kp:gz K (.ref C)=true
theorem Fp{pins:List (aa×Obj)}{σ:St}{H:Hp}{s:ao}{Q:VK}{us:List ae}{vs:List V}(M:Mk X.K C f)(F:bh X.prog X.w X.K X.mg X.base CX k f fd ps sp)(D:cZ (k+1) X.A)(hb:Binds X.K fd ps ds)(U:cS dvs ds)
  (hx:kS CX X E) (I:Inv X pins σ H s) (r:cS vs us)
  (h:∀x dx,H x=Z7->H dx=Z7->dx≠x->sp (.ref x::(vs++dvs)) (upd (upd H dx (.own x)) x (.ins C dx [])) (fun v H2=>v=.non/\Q (.ref x) H2) E) :
  aW (aX X.prog X.w) X.A (vw (.ref C) us) (EP X pins σ Q) X.xe s:=by
 have hq:=h (s.heap.objs.size+1) s.heap.objs.size (I.hok.fresh (gc _)) (I.hok.fresh (aB _)) (aR (vE _));have Y:=Inv.made (C:=C) I;have W:cS (V.ref (s.heap.objs.size+1)::(vs++dvs)) (Value.ref (s.heap.objs.size+1)::(us++ds)):=.cons rfl (r.append U);have O:(Value.ref (s.heap.objs.size+1)::us++ds).length=ps.length:=by
  have e:=W.length;rw[F.len _ _ _ _ hq]at e;exact e.symm
 refine AO (Fl (f:=f) I.kIn M.makes M.init (beq_iff_eq.mp M.fn) (mO (F.run _ X.stack _ _ {Value.ref (s.heap.objs.size+1)::us,[]} (Value.ref (s.heap.objs.size+1)::(us++ds)) _ _ E (D.make C us [])
  (Y.env0.make C us []) (hb _ (Value.ref (s.heap.objs.size+1)::us) Y.kIn O) W hq) fun r s' Z=>?_))
 cases r with
 |error e=>exact hx pins σ _ _ e s' Y Z
 |ok fl=>
  cases fl with
  |ret u=>
   obtain⟨v,H',J,z,ev,t⟩:=Y.after Z;subst ev;exact{z,{V.ref (s.heap.objs.size+1),H',J,Z9,t}}
  |next=>exact cP Z
  |brk=>exact cP Z
  |cont=>exact cP Z
theorem jT(M:Mk X.K C f)(F:bh X.prog X.w X.K X.mg X.base CX k f fd ps sp)(D:cZ (k+1) X.A)(O:Gl X x)(J:X.mg x=Z8 (.ref C))(hb:Binds X.K fd ps ds)(U:cS dvs ds)(hx:kS CX X E)
  (ha:PA X (e::es) t) (Z:(x==("__debug__":Str))=false:=by decide) (V:cw (e::es) X.env=(false,fy e X.env)::cw es X.env:=by rfl) (Y:(jf pos (cw es X.env)).any (·.1)=false:=by rfl) :
  PE X (.Call (.Name x p) (e::es) [] pos) (KH C sp dvs E t):=by
 intro pins s σ H Q I h;refine gR (rB I O J ?_ Z);refine kT (h₀:=X.base) I.ok.mod.kin M.kp (thn (ha pos pins s σ H _ I h) fun us z ⟨vs,H1,W,r,q⟩=>{W.kIn,?_}) V Y;exact Fp M F D hb U hx W r q
end
section
variable{X:Cx}{CX:CXT}{k:Nat}{f C:aa}{fd:bS}{ps ks:List Str}{sp:Sp}{E:XK}{x m:Str}{p pos apos kpos:Pos}{e o:cL}{es:List cL}{kws:List Od}{te ta:TE}{t tk:TA}{nm:Option Str}
variable{g:List ae->List ae->List ae}{gV:List V->List V->List V}
end
structure bK(N P:List Str)(sc:lG):Prop where
 kind:sc.kind=.function:=by rfl
 co:sc.isCoroutine=false:=by rfl
 gen:sc.isGenerator=false:=by rfl
 nd:N.Nodup:=by decide +kernel
 pre:N.take P.length=P:=by rfl
 par:∀x∈P,sc.names.lookup x=Z8 .local\/sc.names.lookup x=Z8 .cell:=by decide +kernel
 nofree:∀y∈sc.names,y.2≠.free:=by decide +kernel
theorem xm{kindOf:Str->Option kD}{x:Str}:∀{binds:List (Str×ae)} {m:Str->Option ae},(∀v,(x,v)∉binds)->EO kindOf binds m x=m x
 | [],_,_=>rfl
 |(n,v)::r,m,h=>by
  unfold EO;rw[xm fun w hw=>h w (ah _ hw)]
  split
  ·have:x≠n:=by rintro rfl;exact h v ax
   simp[this]
  ·rfl
theorem xn{kindOf:Str->Option kD}{x:Str}:∀{binds:List (Str×ae)} {m:Str->Option ae},(∀v,(x,v)∉binds)->ER kindOf binds m x=m x
 | [],_,_=>rfl
 |(n,v)::r,m,h=>by
  unfold ER;rw[xn fun w hw=>h w (ah _ hw)]
  split
  ·rfl
  ·have:x≠n:=by rintro rfl;exact h v ax
   simp[this]
theorem xo{kindOf:Str->Option kD}{x:Str}{v:ae}:∀{P:List Str} {vs:List ae} {i:Nat} {m:Str->Option ae},P.Nodup->P[i]?=Z8 x->vs[i]?=Z8 v->kindOf x=Z8 .local ->
  EO kindOf (P.zip vs) m x=Z8 v
 | [],_,_,_,_,h,_,_=>by simp at h
 |_::_,[],_,_,_,_,h,_=>by simp at h
 |p::P,w::vs,0,m,Z,h1,h2,hk=>by
  simp at h1 h2;subst h1;subst h2;show EO kindOf ((p,w)::P.zip vs) m p=_;unfold EO;rw[xm fun v Y=>(cC.mp Z).1 (pB Y).1,if_pos hk];simp
 |p::P,w::vs,i+1,m,Z,h1,h2,hk=>by
  show EO kindOf ((p,w)::P.zip vs) m x=_;unfold EO;exact xo (i:=i) (cC.mp Z).2 (by simpa using h1) (by simpa using h2) hk
theorem xp{kindOf:Str->Option kD}{x:Str}{v:ae}:∀{P:List Str} {vs:List ae} {i:Nat} {m:Str->Option ae},P.Nodup->P[i]?=Z8 x->vs[i]?=Z8 v->kindOf x≠Z8 .local ->
  ER kindOf (P.zip vs) m x=Z8 v
 | [],_,_,_,_,h,_,_=>by simp at h
 |_::_,[],_,_,_,_,h,_=>by simp at h
 |p::P,w::vs,0,m,Z,h1,h2,hk=>by
  simp at h1 h2;subst h1;subst h2;show ER kindOf ((p,w)::P.zip vs) m p=_;unfold ER;rw[xn fun v Y=>(cC.mp Z).1 (pB Y).1,if_neg hk];simp
 |p::P,w::vs,i+1,m,Z,h1,h2,hk=>by
  show ER kindOf ((p,w)::P.zip vs) m x=_;unfold ER;exact xp (i:=i) (cC.mp Z).2 (by simpa using h1) (by simpa using h2) hk
def start(N:List Str)(vs:List V):St:=vs.map Z8++cz (N.length-vs.length) Z7
def sX(CX:CXT)(P:aL)(w:bA)(K:af)(mg:Str->Option ae)(base:cu)(N:List Str)(Y:Str)(Z:lG)(f:aa)(V:ae)(A:bY)(outer:List Env)(s:ao)(H:Hp)(E:XK):Cx where
 prog:=P
 w:=w
 K:=K
 mg:=mg
 base:=base
 A:=A.deeper (sY Y Z s.heap.objs.size f V)
 N:=N
 s₀:=s
 H₀:=H
 env:=sY Y Z s.heap.objs.size f V
 outer:=outer
 stack:=sY Y Z s.heap.objs.size f V::outer
 ex:=[]
 calm:=true
 fn:=fun _=>true
 pn:=[]
 xe:=fun e s'=>aW (aX P w) (A.deeper (sY Y Z s.heap.objs.size f V)) (Ar (sY Y Z s.heap.objs.size f V) e) (fun _ W=>CX outer H s E e W) (fun U W=>CX outer H s E U W) s'
theorem zv{sc:lG}{n:Nat}{x:Str}(h:sc.names.lookup x=Z8 .cell):∃c,(ES n sc.names []).lookup x=Z8 c:=by
 have q:=nZ sc.names n [] (.inl h);exact Option.isSome_iff_exists.mp q
theorem xq{CX:CXT}{P:aL}{w:bA}{K:af}{mg:Str->Option ae}{base:cu}{N ps:List Str}{Y:Str}{Z:lG}{f:aa}{M:ae}{A:bY}{outer:List Env}{s J:ao}{H:Hp}{E:XK}{us:List ae}{vs:List V}
  (S:bK N ps Z) (D:A.handled=Z7) (W:yk P w K mg base A outer s H) (hl:vs.length=ps.length) (r:cS vs us)
  (x:InCallC s s.heap.objs.size (EO (sY Y Z s.heap.objs.size f M).kindOf (ps.zip us) fun _=>Z7) (ES (s.heap.objs.size+1) Z.names []) (ER (sY Y Z s.heap.objs.size f M).kindOf (ps.zip us) fun _=>Z7) J) :
  Inv (sX CX P w K mg base N Y Z f M A outer s H E) [] (start N vs) H J:=by
 have t:ps.length<=N.length:=by have:=congrArg jq S.pre;rw[cK]at this;omega
 obtain⟨h1,tk,rfl,hk⟩:=x.done;have U:∀b:aa,b∉(sX CX P w K mg base N Y Z f M A outer s H E).ex:=fun b z=>absurd (show b∈([]:List aa) from z) (by simp);refine⟨{W.mod,S.kind,Z9,Z9,aB _,fun y z c h1 h2=>?_,fun y hy=>?_,fun y c _ h=>?_,fun _=>D,Around.frames_deeper W.frames,.inr ⟨Z9,Z9⟩,fun b z=>absurd z (U b),W.bs,W.bsz,fun b _ _=>U b,fun b z=>absurd z (U b),W.funs,W.frf},
  Z9,W.bare,Un.kept hk,{_,x.toInCall.ns,fun i y v h1 h2 h3=>?_},fun y c h=>{_,x.cell y c h},W.hok.fresh (aB _),fun y c h=>?_,fun p hp=>absurd (show p∈([]:List (aa×Obj)) from hp) (by simp),W.hok.kept hk,?_⟩
 ·exact name_of_addr x.apart (gm h1) (gm h2)
 ·have hy:Z.names.lookup y=Z8 .cell\/Z.names.lookup y=Z8 .free:=hy
  rcases hy with hy|hy
  ·exact zv hy
  ·exact absurd rfl (S.nofree _ (gm hy))
 ·exact jM (x.above y c (gm h))
 ·have hi:i<vs.length:=by
   unfold start at h2
   by_cases hi:i<vs.length
   ·exact hi
   ·rw[dP (by simpa using hi)]at h2;rw[oO]at h2
    split at h2<;>cases h2
  have ha:vs[i]?=Z8 v:=by
   unfold start at h2;rw[eI (by simpa using hi),cm]at h2
   cases e:vs[i]? with
   |none=>rw[e]at h2;cases h2
   |some a=>rw[e]at h2;cases h2;rfl
  obtain⟨u,I,g⟩:=r.get ha;have hp:ps[i]?=Z8 y:=by
   rw[<- S.pre,ze (by omega)];exact h1
  have O:ps.Nodup:=by rw[<- S.pre];exact S.nd.sublist (mP _ _)
  refine{u,g,?_}
  rcases S.par y (bD hp) with k|k
  ·exact .inl {k,xo O hp I k}
  ·obtain⟨c,e⟩:=zv (n:=s.heap.objs.size+1) k;refine .inr {.inl k,c,e,?_};have q:=x.cell y c e;rw[xp O hp I (by show Z.names.lookup y≠_;rw[k];decide)]at q;exact q
 ·exact W.hok.fresh (jM (x.above y c (gm h)))
 ·unfold start;show _=N.length;rw[ay,aq,j6];omega
theorem KI{CX:CXT}{P:aL}{w:bA}{K:af}{mg:Str->Option ae}{base:cu}{k:Nat}{f:aa}{name Y:Str}{U:Arguments}{O:List cU}{Z:lG}{dV kV bG pm W ct oc:ae}{an od:Option aa}
  {bz:Array (Option ae)} {N ps:List Str} {sp:Sp} (lk:K.lookup f=Z8 {oc,od,.func (e7 name Y U O Z dV kV bG pm an W ct),bz}) (bF:jr K W Y=true) (S:bK N ps Z)
  (len:∀vs H Q E,sp vs H Q E->vs.length=ps.length)
  (z:∀(A:bY) (outer:List Env) (s:ao) (H:Hp) (vs:List V) (Q:VK) (E:XK),cZ k (A.deeper (sY Y Z s.heap.objs.size f W))->sp vs H Q E ->
   ∃t,PSs (sX CX P w K mg base N Y Z f W A outer s H E) O t/\t {nx:=fun _ H'=>Q .non H',rt:=Q} (start N vs) H) :
  bh P w K mg base CX (k+1) f (e7 name Y U O Z dV kV bG pm an W ct) ps sp:=by
 refine{len,fun A outer s H args us vs Q E hr e0 hb r g=>?_};have hl:=len _ _ _ _ g;have KX:K.In s.heap:=e0.mod.kin.keeps fun b o e=>(e0.bs b o e).1;have bB:s.heap.NoLimit:=e0.mod.nolimit.keeps fun b o e=>(e0.bs b o e).1;have D:∀y∈ps.zip us,Z.names.lookup y.1=Z8 .local\/(Z.names.lookup y.1=Z8 .cell/\((ES (s.heap.objs.size+1) Z.names []).lookup y.1).isSome=true):=fun⟨n,v⟩ hy=>by
  rcases S.par n (pB hy).1 with q|q
  ·exact .inl q
  ·exact .inr {q,nZ _ _ _ (.inl q)}
 refine Iv hr.depth (KX _ _ lk) rfl S.co S.gen rfl (AQ KX bF) (hb _ _ _ _ ?_);refine AR S.kind D fun env he s1 x=>?_;subst he;refine{bB.keeps x.toInCall.keep,codeAny_func ?_};obtain⟨t,ht,hq⟩:=z A outer s H vs Q E (hr.deeper _) g;have I:Inv (sX CX P w K mg base N Y Z f W A outer s H E) [] (start N vs) H s1:=xq S hr.hd e0 hl r x;refine eQ (ht [] s1 (start N vs) H _ I hq) (fun fl s' hs=>?_) fun e s' hs=>hs;have fin:∀{M:St} {H':Hp} {v:V} {u:ae},Inv (sX CX P w K mg base N Y Z f W A outer s H E) [] M H' s'->RelV v u->Q v H'->CE outer P w H s Q u s':=
  fun {M H' v u} J rv q=>⟨v,H',J.os,J.bare,J.base,J.hok,rv,q⟩
 cases fl with
 |ret u=>
  obtain⟨v,M,H',J,rv,q⟩:=hs;exact fin J rv q
 |next=>
  obtain⟨M,H',J,q⟩:=hs;exact fin (v:=V.non) (u:=Value.none) J rfl q
 |brk=>
  obtain⟨_,_,_,q⟩:=hs;exact cP q
 |cont=>
  obtain⟨_,_,_,q⟩:=hs;exact cP q
section
variable{X:Cx}{x:Str}{p pos:Pos}{e:cL}{es:List cL}{t:TA}{id T:String}{r:List V->Hp->VK->Prop}
def tCB(r:List V->Hp->VK->Prop)(t:TA):TE:=fun σ H Q=>t σ H fun vs H1=>r vs H1 Q
theorem cT(hc:kR X (.builtin id) r)(O:Gl X x)(J:X.mg x=Z7)(U:eK x=Z8 (.builtin id))(ha:PA X (e::es) t)(D:x≠"__name__":=by decide)(Z:(x==("__debug__":Str))=false:=by decide)
  (V:cw (e::es) X.env=(false,fy e X.env)::cw es X.env:=by rfl) (Y:(jf pos (cw es X.env)).any (·.1)=false:=by rfl):PE X (.Call (.Name x p) (e::es) [] pos) (tCB r t):=by
 intro pins s σ H Q I h;refine gR (o9 I O J U ?_ D Z);exact PyProof.Rows.callWith_builtin1 (thn (ha pos pins s σ H _ I h) fun us W ⟨vs,H1,M,g,z⟩=>hc pins W σ H1 vs us Q M g z) V Y
theorem fg(hc:kR X (.type T) r)(O:Gl X x)(J:X.mg x=Z7)(U:eK x=Z8 (.type T))(ha:PA X (e::es) t)(D:x≠"__name__":=by decide)(Z:(x==("__debug__":Str))=false:=by decide)
  (V:cw (e::es) X.env=(false,fy e X.env)::cw es X.env:=by rfl) (Y:(jf pos (cw es X.env)).any (·.1)=false:=by rfl):PE X (.Call (.Name x p) (e::es) [] pos) (tCB r t):=by
 intro pins s σ H Q I h;refine gR (o9 I O J U ?_ D Z);exact fY (thn (ha pos pins s σ H _ I h) fun us W ⟨vs,H1,M,g,z⟩=>hc pins W σ H1 vs us Q M g z) V Y
end
end L2
namespace HT
open PySem PyProof.Rows
def lexLt:List Int->List Int->Bool
 | [],[]=>false
 | [],_::_=>true
 |_::_,[]=>false
 |x::xs,y::ys=>if x=y then lexLt xs ys else decide (x<y)
theorem kU(x y:Int)(xs ys:List Int):lexLt (x::xs) (y::ys)=if x=y then lexLt xs ys else decide (x<y):=rfl
theorem qK:lexLt [] []=false:=rfl
theorem pC(y:Int)(ys:List Int):lexLt [] (y::ys)=true:=rfl
theorem pE(x:Int)(xs:List Int):lexLt (x::xs) []=false:=rfl
theorem zw(A:bY)(s:ao)(a:Int)(t:Tok)(c:Int)(u:Tok):∃e,SeqAt.EqAt A s (.int a t) (.int c u) e/\(e=true↔a=c):=
 {(a==c),zf a t c u,by simp}
theorem Fq(A:bY)(s:ao)(a:Int)(t:Tok)(c:Int)(u:Tok)(prog:aL)(w:bA)(E:ae->ao->Prop)(Q:ae->ao->Prop)(h:Q (.bool (decide (a<c))) s) :
  aW (aX prog w) A (o6 .Lt (.int a t) (.int c u)) Q E s:=
 (PyProof.Rows.lt_int h:aW (aX prog w) A (dI .Lt (.int a t) (.int c u)) Q E s)
section
open PySem.SeqAt
open PySem.AutoSeq1 (wpAny_loadPart')
open PySem.MeetsSeq PySem.MeetsSeq2 PySem.MeetsSeq3
theorem wV(l b:aa)(items Z:Array ae)(n n2:Nat)(dd bG:Option aa)(sl bI:Array (Option ae))(ns ms:List Int)(hi:eM items.toList ns)(hj:eM Z.toList ms) :
  Meets (gW.«tuple.__lt__» {[.ref l,.ref b],[]})
   (fun _ R s=>s.heap.get? l=Z8 {cls:=.type "tuple",dict:=dd,data:=.seq items n,slots:=sl}/\s.heap.get? b=Z8 {cls:=.type "tuple",dict:=bG,data:=.seq Z n2,slots:=bI} /\
    R (.ok (.ret (.bool (lexLt ns ms)))) s):=
 .of_wp fun prog w A R s h=>by
  obtain⟨hp,g,d,tk,os⟩:=s;obtain⟨hl,hb,h⟩:=h;have f2:=iZ;have z1:items.size=ns.length:=by rw[<- hi.length];simp
  have z2:Z.size=ms.length:=by rw[<- hj.length];simp
  wp_walk using b8 hl,b8 hb,kW _ (fun rest b s'=>b.1=Z7/\s'=⟨hp,g,d,tk,os⟩/\∃(vs ws:List ae) (V W:List Int),rest=vs.zip ws /\
   eM vs V/\eM ws W/\V.length+Z.size=W.length+items.size/\R (.ok (.ret (.bool (lexLt V W)))) ⟨hp,g,d,tk,os⟩) _
  case turn=>
   rintro⟨y,x⟩ rest b s' ⟨H,rfl,vs,ws,V,W,U,D,O,Y,M⟩
   cases D with
   |nil=>rw[Fs]at U;cases U
   |cons a t z=>
    cases O with
    |nil=>rw[ET]at U;cases U
    |cons c u bW=>
     rw[gG]at U;injection U with bF I;injection bF with hy hx;subst hy hx;rw[kU]at M;simp only[aU]at Y;obtain⟨e,he,J⟩:=zw A.in1 ⟨hp,g,d,tk,os⟩ a t c u;refine au (he prog w _ _ ?_)
     cases e with
     |true=>
      rw[if_pos (J.mp rfl)]at M
      wp_walk
      exact{Z9,Z9,_,_,_,_,I,z,bW,by omega,M}
     |false=>
      rw[if_neg (fun q=>absurd (J.mpr q) bR)]at M;have bH:=Fq A.in1 ⟨hp,g,d,tk,os⟩ a t c u prog w
      wp_walk using bH
      exact{_,Z9,by simpa using M}
  case fin=>
   rintro⟨b1,b2⟩ s' ⟨H,rfl,vs,ws,V,W,U,D,O,Y,M⟩;simp only at H;subst H;have hv:lexLt V W=decide (items.size<Z.size):=by
    cases D with
    |nil=>
     cases O with
     |nil=>
      simp only[cH]at Y;rw[qK];exact (decide_eq_false (by omega)).symm
     |cons c u hw=>
      simp only[cH,aU]at Y;rw[pC];exact (decide_eq_true (by omega)).symm
    |cons a t hv=>
     cases O with
     |nil=>
      simp only[cH,aU]at Y;rw[pE];exact (decide_eq_false (by omega)).symm
     |cons c u hw=>
      rw[gG]at U
      cases U
   rw[hv]at M
   wp_walk
   exact{_,Z9,by simpa[jh] using M}
  case h=>
   exact{Z9,Z9,items.toList,Z.toList,ns,ms,Z9,hi,hj,by omega,h}
end
section
variable{prog:aL}{w:bA}{A:bY}{E:ae->ao->Prop}{s:ao}
theorem lt_tupInts{l b:aa}{items Z:Array ae}{ns ms:List Int}{Q:ae->ao->Prop}(t:uE s.heap l items)(hb:uE s.heap b Z)(hi:eM items.toList ns)(z:eM Z.toList ms)
  (D:A.units<d8) (h:Q (.bool (lexLt ns ms)) s):aW (aX prog w) A (dI .Lt (.ref l) (.ref b)) Q E s:=by
 obtain⟨⟨cls,dd,data,sl⟩,I,hc,n,H⟩:=id t;obtain⟨⟨J,U,M,O⟩,Y,W,g,V⟩:=id hb;simp only at hc H W V;subst hc H W V;exact qW (op:=.Lt) {_,I,Z9} {_,Y,Z9} PySem.F.slot_tuple_lt PySem.F.entry_tuple_lt (PySem.F.args_tuple_lt_2 _ _) (wV l b items Z n g dd U sl O ns ms hi z)
  {I,Y,show Value.bool (lexLt ns ms)≠Value.notImplemented/\Q (.bool (lexLt ns ms)) s from{(fun x=>nomatch x),h}} D
theorem cat_tup{t b:aa}{vs Z:List ae}{Q:ae->ao->Prop}(ht:uE s.heap t vs.toArray)(hb:uE s.heap b Z.toArray)(H:vs≠[])
  (h1:Z=[]->Q (.ref t) s) (h2:Z≠[]->Q (.ref s.heap.objs.size) {s with heap:=s.heap.push {cls:=.type "tuple",data:=.seq (vs++Z).toArray}})
  (hsz:vs.length+Z.length<=aC):aW (aX prog w) A (iB .Add (.ref t) (.ref b)) Q E s:=by
 obtain⟨⟨cls,dd,data,sl⟩,M,hc,n,D⟩:=id ht;obtain⟨⟨I,V,J,U⟩,Y,W,z,O⟩:=id hb;simp only at hc D W O;subst hc D W O;have e:vs.toArray++Z.toArray=(vs++Z).toArray:=by simp
 by_cases hw:Z=[]
 ·exact concat_meets {_,M,Z9} {_,Y,Z9} noFill_tuple_add seq_tuple_add yl xr (wW _ _)
   (tuple_addW1 t b vs.toArray Z.toArray n z dd V sl U (by simpa using H) (by simp[hw])) {M,Y,h1 hw}
 ·refine concat_meets {_,M,Z9} {_,Y,Z9} noFill_tuple_add seq_tuple_add yl xr (wW _ _)
   (tuple_addW2 t b vs.toArray Z.toArray n z dd V sl U (by simpa using H) (by simpa using hw) (by rw[aG,aG];exact hsz)) {M,Y,?_}
  rw[e];exact h2 hw
def sIx(n d:Nat):Option Int->Nat
 |none=>d
 |some v=>if v<0 then (v+(n:Int)).toNat else min v.toNat n
theorem sIx_none(n d:Nat):sIx n d Z7=d:=rfl
theorem sIx_nat(n d k:Nat):sIx n d (Z8 (k:Int))=min k n:=by
 show (if (k:Int)<0 then ((k:Int)+(n:Int)).toNat else min (k:Int).toNat n)=min k n;rw[if_neg (by omega),uv]
end
end HT
namespace L2
open PySem PySem.Spec PyProof.Rows
abbrev TO:=St->Hp->(Option Int->Hp->Prop)->Prop
def PO(X:Cx)(e:Option cL)(t:TO):Prop:=
 ∀(pins:List (aa×Obj)) (s:ao) (σ:St) (H:Hp) (Q:Option Int->Hp->Prop),Inv X pins σ H s->t σ H Q ->
  aW (aX X.prog X.w) X.A (evalPart e X.env) (fun u s'=>∃o H',Inv X pins σ H' s'/\IsPart u o/\Q o H') X.xe s
def IU:TO:=fun _ H Q=>Q Z7 H
def tPart(t:TE):TO:=fun σ H Q=>t σ H fun x H1=>∃i,x=.int i/\Q (Z8 i) H1
theorem intsAre_of{ns:List Int}:∀{us:List ae},cS (ns.map V.int) us->eM us ns:=by
 induction ns with
 |nil=>intro us r;rw[tZ]at r;cases r;exact .nil
 |cons n ns W=>
  intro us r;rw[bU]at r
  cases r with
  |cons Y Z=>
   obtain⟨t,e⟩:=Y;subst e;exact .cons n t (W Z)
section
variable{X:Cx}{e:cL}{te:TE}{lo hi:Option cL}{tl th:TO}{pos p2:Pos}
theorem uI:PO X Z7 IU:=by
 intro pins s σ H Q I h;rw[evalPart_none];exact bf {Z7,H,I,.none,h}
theorem uJ(h:PE X e te):PO X (Z8 e) (tPart te):=by
 intro pins s σ H Q I hw;rw[evalPart_some];refine thn (h pins s σ H _ I hw) fun u V ⟨x,H1,Z,W,Y⟩=>?_;obtain⟨i,rfl,q⟩:=Y;obtain⟨t,rfl⟩:=W;exact{Z8 i,H1,Z,.int i t,q}
def SlR(X:Cx)(r:V->Option Int->Option Int->Hp->VK->Prop):Prop:=
 ∀(pins:List (aa×Obj)) (s:ao) (σ:St) (H:Hp) (x:V) (v Z Y:ae) (lo hi:Option Int) (sl:aa) (Q:VK),Inv X pins σ H s->RelV x v->s.heap.IsSliceOf sl Z Y .none->IsPart Z lo->IsPart Y hi->r x lo hi H Q ->
  ∃T id,Mf (.type T) "__getitem__"=pure (Z8 (.builtin id))/\s.TypeIs v T/\aW (aX X.prog X.w) X.A (As v (.ref sl)) (EP X pins σ Q) X.xe s
def tSl(r:V->Option Int->Option Int->Hp->VK->Prop)(te:TE)(tl th:TO):TE:=fun σ H Q=>te σ H fun x H1=>tl σ H1 fun l H2=>th σ H2 fun u Z=>r x l u Z Q
theorem rE{r:V->Option Int->Option Int->Hp->VK->Prop}(J:SlR X r)(t:PE X e te)(O:PO X lo tl)(hu:PO X hi th):PE X (.Subscript e (.Slice lo hi Z7 p2) pos) (tSl r te tl th):=by
 intro pins s σ H Q I h;refine Mg (thn (t pins s σ H _ I h) fun v s1 ⟨x,H1,I1,r1,q1⟩=>?_);refine wpAny_Slice (thn (O pins s1 σ H1 _ I1 q1) fun W s2 ⟨l,H2,I2,pl,q2⟩=>thn (hu pins s2 σ H2 _ I2 q2) fun Y Z ⟨u,U,I3,M,D⟩=>?_);rw[evalPart_none];refine bf ?_;have z:Inv X pins σ U {Z with heap:=Z.heap.push {cls:=.type "slice",data:=.fields #[W,Y,.none]}}:=I3.kept (t':=Z.toks) fun b ob q=>aK _ q;obtain⟨T,id,hT,ht,g⟩:=J pins {Z with heap:=Z.heap.push {cls:=.type "slice",data:=.fields #[W,Y,.none]}} σ U x v W Y l u Z.heap.objs.size Q z r1 (Oe ..) pl M D;show aW (aX X.prog X.w) X.A (DV e (.Slice lo hi Z7 p2) v (.ref Z.heap.objs.size)) (EP X pins σ Q) X.xe {Z with heap:=Z.heap.push {cls:=.type "slice",data:=.fields #[W,Y,.none]}};exact tail_any (ops:=[.ref Z.heap.objs.size,v]) ht hT g (by with_unfolding_all rfl)
def lI(xs:List V)(lo hi:Option Int):List V:=(xs.drop (HT.sIx xs.length 0 lo)).take (HT.sIx xs.length xs.length hi-HT.sIx xs.length 0 lo)
theorem t7(xs:List V)(lo hi:Option Int):(lI xs lo hi).length<=xs.length:=by
 unfold lI;rw[cK,oP];omega
def rCatT(K:af):R2:=fun x y H Q=>∃a b xs ys,x=.ref a/\y=.ref b/\SqT K H a xs/\SqT K H b ys/\xs≠[]/\xs.length+ys.length<=aC /\
 (ys=[]->Q (.ref a) H)/\(ys≠[]->∀p,H p=Z7->Q (.ref p) (upd H p (.tup (xs++ys))))
theorem cS.nil_iff{xs:List V}{us:List ae}(r:cS xs us):us=[]↔xs=[]:=by
 cases r with
 |nil=>simp
 |cons _ _=>simp
theorem IV:OpR X (iB .Add) (rCatT X.K):=by
 intro pins s σ H x y v u Q I U D h;obtain⟨a,b,xs,ys,rfl,rfl,ha,hb,hx,W,J,t⟩:=h
 cases U
 cases D;obtain⟨M,Y,O,_⟩:=I.tuple ha;obtain⟨V,Z,p2,_⟩:=I.tuple hb;refine HT.cat_tup O p2 (fun z=>hx (Y.nil_iff.mp z)) (fun z=>{.ref a,H,I,Z9,J (Z.nil_iff.mp z)}) (fun z=>?_) (by rw[<- Y.length,<- Z.length];exact W);refine{.ref s.heap.objs.size,_,I.laid (t':=s.toks) (o:=.tup (xs++ys)) (fun b g q=>aK _ q) (aB _) ?_,Z9,t (fun w=>z (Z.nil_iff.mpr w)) _ (I.hok.fresh (aB _))};exact{by rw[ay];exact W,_,Y.append Z,IsTup.new _ _}
end
def ixN(n:Nat)(i:Int):Option Nat:=if 0<=i then (if i<n then Z8 i.toNat else Z7) else if -(n:Int)<=i then Z8 (i+n).toNat else Z7
def atI{Z:Type}(xs:List Z)(i:Int):Option Z:=(ixN xs.length i).bind fun j=>xs[j]?
theorem ym{n:Nat}{i:Int}{j:Nat}(h:ixN n i=Z8 j):seqIndex? i n=Z8 j/\j<n/\-(n:Int)<=i/\i<n:=by
 unfold ixN at h
 by_cases h0:0<=i
 ·rw[if_pos h0]at h
  by_cases h1:i<n
  ·rw[if_pos h1]at h;have e:i.toNat=j:=cI h;exact{by rw[IW h0 h1,e],by omega,by omega,h1}
  ·rw[if_neg h1]at h;cases h
 ·rw[if_neg h0]at h
  by_cases h1:-(n:Int)<=i
  ·rw[if_pos h1]at h;have e:(i+n).toNat=j:=cI h;exact{by rw[Ft (by omega) h1,e],by omega,h1,by omega}
  ·rw[if_neg h1]at h;cases h
theorem yn{Z:Type}{xs:List Z}{i:Int}{v:Z}(h:atI xs i=Z8 v):∃j,seqIndex? i xs.length=Z8 j/\xs[j]?=Z8 v/\j<xs.length/\-(xs.length:Int)<=i/\i<xs.length:=by
 unfold atI at h
 cases e:ixN xs.length i with
 |none=>rw[e]at h;cases h
 |some j=>
  rw[e]at h;obtain⟨h1,h2,Y,W⟩:=ym e;exact⟨j,h1,h,h2,Y,W⟩
theorem jU{Z:Type}{xs:List Z}{j:Nat}{v:Z}(h:xs[j]?=Z8 v):atI xs (j:Int)=Z8 v:=by
 have Y:j<xs.length:=(aF.mp h).1;have e:ixN xs.length (j:Int)=Z8 j:=by
  unfold ixN;rw[if_pos (by omega),if_pos (by omega)];simp
 unfold atI;rw[e];exact h
def IX(b:cL):Prop:=∀o i,zg b false o i=operate [o,i] (As o i)
def IxR(X:Cx)(r:R2):Prop:=
 ∀(value Z:cL) (pins:List (aa×Obj)) (s:ao) (σ:St) (H:Hp) (x y:V) (v u:ae) (Q:VK),Inv X pins σ H s->RelV x v->RelV y u->r x y H Q ->
  zg Z false v u=operate [v,u] (As v u)->aW (aX X.prog X.w) X.A (DV value Z v u) (EP X pins σ Q) X.xe s
def MtR(X:Cx)(id:String)(r:V->List V->Hp->VK->Prop):Prop:=
 ∀(pins:List (aa×Obj)) (s:ao) (σ:St) (H:Hp) (x:V) (xs:List V) (v:ae) (us:List ae) (Q:VK),Inv X pins σ H s->RelV x v->cS xs us->r x xs H Q ->
  aW (aX X.prog X.w) X.A (vw (.builtin id) (v::us)) (EP X pins σ Q) X.xe s
section
variable{X:Cx}{a b:cL}{ta tb:TE}{pos:Pos}
theorem bX{r:R2}(Y:IxR X r)(ha:PE X a ta)(hb:PE X b tb)(hs:IX b):PE X (.Subscript a b pos) (tOp r ta tb):=by
 intro pins s σ H Q I h;exact Mg (Ma ha hb I h fun v u s2 x y H2 V Z W q=>Y a b pins s2 σ H2 x y v u Q V Z W q (hs _ _))
inductive RIxL(K:af)(x y:V)(H:Hp)(Q:VK):Prop where
 |mk(p:aa)(xs:List V)(i:Int)(v:V)(hx:x=.ref p)(hy:y=.int i)(s:SqL K H p xs)(e:atI xs i=Z8 v)(q:Q v H):RIxL K x y H Q
def Mh(K:af):R2:=fun x y H Q=>RIxL K x y H Q
inductive RIxT(K:af)(x y:V)(H:Hp)(Q:VK):Prop where
 |mk(p:aa)(xs:List V)(i:Int)(v:V)(hx:x=.ref p)(hy:y=.int i)(s:SqT K H p xs)(e:atI xs i=Z8 v)(q:Q v H):RIxT K x y H Q
def rIxT(K:af):R2:=fun x y H Q=>RIxT K x y H Q
def rIxS:R2:=fun x y H Q=>∃z i c,x=.str z/\y=.int i/\z.length<=aC/\atI z.cps.toList i=Z8 c/\Q (.str {#[c]}) H
theorem dQ:IxR X (Mh X.K):=by
 intro value V pins s σ H x y v u Q I O ry h hs;obtain⟨p,xs,i,z,rfl,rfl,hq,M,q⟩:=h
 cases O;obtain⟨t,rfl⟩:=ry;obtain⟨W,r,pl,hz⟩:=I.list hq;obtain⟨j,h1,h2,h3,g,J⟩:=yn M;obtain⟨w,U,Z⟩:=r.get h2;have D:=r.length;have hn:=sR;have fin:EP X pins σ Q w s:=⟨z,H,I,Z,q⟩
 by_cases h0:0<=i
 ·have Y:i.toNat=j:=by
   rw[IW h0 J]at h1;exact cI h1
  exact item_listR pl.isList h0 (by omega) (by rw[Y];simpa using U) fin hs
 ·have Y:(i+(W.toArray.size:Int)).toNat=j:=by
   rw[Ft (by omega) g]at h1;rw[aG,<- D];exact cI h1
  exact Fu (x:=w) pl.isList.typeIs Of.lookup
   (wpAny_getItem_list_neg (Q:=fun r s'=>r=w/\EP X pins σ Q r s') pl.isList (by omega) (by rw[aG]<;>omega) (by omega) (by rw[Y];simpa using U) ⟨Z9,fin⟩) hs
theorem cD:IxR X (rIxT X.K):=by
 intro value Y pins s σ H x y v u Q I W J h hs;obtain⟨p,xs,i,z,rfl,rfl,hq,V,q⟩:=h
 cases W;obtain⟨t,rfl⟩:=J;obtain⟨M,r,pl,g⟩:=I.tuple hq;obtain⟨j,h1,h2,D,h4,h5⟩:=yn V;obtain⟨w,U,Z⟩:=r.get h2;have O:=r.length;have hn:=sR;have fin:EP X pins σ Q w s:=⟨z,H,I,Z,q⟩;exact Fu (x:=w) pl.typeIs slot_tuple_getitem.lookup
  (getItem_tuple (j:=j) (Q:=fun r s'=>r=w/\EP X pins σ Q r s') pl (by omega) (by omega) (by rw[aG,<- O];exact h1) (by simpa using U) ⟨Z9,fin⟩) hs
theorem Fv:IxR X rIxS:=by
 intro value Z pins s σ H x y v u Q I Y J h hs;obtain⟨z,i,c,rfl,rfl,g,V,q⟩:=h;obtain⟨t,rfl⟩:=Y;obtain⟨t',rfl⟩:=J;obtain⟨j,h1,h2,D,M,U⟩:=yn V;have O:z.cps.toList.length=z.length:=by simp[Str.length]
 rw[O]at h1 M U;have hn:=sR;exact tail_any (typeIs_str s z t) slot_str_getitem.lookup (getItem_str (c:=c) (by
  have e1:decide (i < -(2^63:Int))=false:=decide_eq_false (by omega);have W:decide (i≥2^63)=false:=decide_eq_false (by omega);rw[e1,W,Bool.or_false]) (by rw[h1];simpa using h2) {.str {#[c]},H,I.tok _,{_,Z9},q}) hs
theorem AS(Z:List ae)(n j:Nat)(u:ae):cV (·.setIfInBounds j u) {cls:=.type "list",data:=.seq Z.toArray n}={cls:=.type "list",data:=.seq (Z.set j u).toArray n}:=by
 simp[cV]
theorem Inv.lst{pins:List (aa×Obj)}{σ:St}{H:Hp}{s:ao}{p:aa}{xs:List V}(I:Inv X pins σ H s)(h:H p=Z8 (.lst xs)) :
  ∃(Z:List ae) (n:Nat),cS xs Z/\s.heap.get? p=Z8 {cls:=.type "list",data:=.seq Z.toArray n}/\xs.length<=aC:=by
 obtain⟨z,Z,n,r,e⟩:=I.hok p _ h;exact⟨Z,n,r,e,z⟩
theorem Inv.lstUpd{pins:List (aa×Obj)}{σ:St}{H:Hp}{s:ao}{p:aa}{xs ys:List V}{Z its':List ae}{n Y:Nat}{f:Obj->Obj}(I:Inv X pins σ H s)(h:H p=Z8 (.lst xs))
  (U:s.heap.get? p=Z8 {cls:=.type "list",data:=.seq Z.toArray n}) (W:f {cls:=.type "list",data:=.seq Z.toArray n}={cls:=.type "list",data:=.seq its'.toArray Y}) (r:cS ys its') (O:ys.length<=aC) (t:Nat) :
  Inv X pins σ (upd H p (.lst ys)) {s with heap:=s.heap.update p f,toks:=t}:=by
 have e:(s.heap.update p f).get? p=Z8 {cls:=.type "list",data:=.seq its'.toArray Y}:=by
  rw[qx f U (by rw[W]<;>rfl),W]
 refine I.write (x:=p) (e:=p) (by rw[h];trivial) (.inl rfl) (fun b u hb q=>(fv _ _ (fX hb)).trans q) {_,e} ?_;exact⟨O,its',Y,r,e⟩
def rSetL:V->V->V->Hp->(Hp->Prop)->Prop:=fun o i v H Q=>∃p xs k j,o=.ref p/\i=.int k/\H p=Z8 (.lst xs)/\ixN xs.length k=Z8 j/\Q (upd H p (.lst (xs.set j v)))
theorem rG:PSet X rSetL:=by
 intro pins s σ H o i v ov iv u Q I J g rv h;obtain⟨p,xs,k,j,rfl,rfl,hp,z,q⟩:=h
 cases J;obtain⟨t,rfl⟩:=g;obtain⟨Z,n,r,Y,D⟩:=I.lst hp;obtain⟨h1,h2,U,M⟩:=ym z;have V:=r.length;have hn:=sR;have O:Inv X pins σ (upd H p (.lst (xs.set j v))) {s with heap:=s.heap.update p (cV (·.setIfInBounds j u))}:=
  I.lstUpd hp Y (AS Z n j u) (r.set rv j) (by rw[IY];exact D) s.toks
 by_cases h0:0<=k
 ·have hk:k.toNat=j:=by
   rw[IW h0 M]at h1;exact cI h1
  exact PySem.W.ki_setAt Y h0 (by omega) (by rw[aG,<- V];exact M) (by rw[hk];exact{_,O,q})
 ·have hk:(k+(Z.toArray.size:Int)).toNat=j:=by
   rw[Ft (by omega) U]at h1;rw[aG,<- V];exact cI h1
  exact PySem.W.ki_setBack Y (by omega) (by rw[aG,<- V];exact U) (by omega) (by rw[hk];exact{_,O,q})
theorem yo(lo hi:Option Int)(n:Nat):(lJ lo hi Z7 n).1=((HT.sIx n 0 lo:Nat):Int)/\(lJ lo hi Z7 n).2.1=((HT.sIx n n hi:Nat):Int)/\(lJ lo hi Z7 n).2.2=1:=by
 refine{?_,?_,Z9}
 ·cases lo with
  |none=>simp[lJ,HT.sIx]
  |some i=>
   simp only[lJ,HT.sIx,EU,show (1:Int)>0 by decide,if_true]
   by_cases h:i<0
   ·simp only[h,if_true]<;>omega
   ·simp only[h,if_false]<;>omega
 ·cases hi with
  |none=>simp[lJ,HT.sIx]
  |some i=>
   simp only[lJ,HT.sIx,EU,show (1:Int)>0 by decide,if_true]
   by_cases h:i<0
   ·simp only[h,if_true]<;>omega
   ·simp only[h,if_false]<;>omega
theorem wX(Z:List ae)(lo hi:Option Int):slicePick Z.toArray lo hi Z7=((Z.drop (HT.sIx Z.length 0 lo)).take (HT.sIx Z.length Z.length hi-HT.sIx Z.length 0 lo)).toArray:=by
 obtain⟨h1,h2,Y⟩:=yo lo hi Z.toArray.size;unfold slicePick;rw[h1,h2,Y];simp only[sliceRange_one,pick_run,aG]<;>rfl
def rSlL(K:af):V->Option Int->Option Int->Hp->VK->Prop:=fun x lo hi H Q=>∃a xs,x=.ref a/\SqL K H a xs/\∀p,H p=Z7->Q (.ref p) (upd H p (.lst (lI xs lo hi)))
theorem uK:SlR X (rSlL X.K):=by
 intro pins s σ H x v J O lo hi sl Q I Y hs pl V h;obtain⟨a,xs,rfl,hx,q⟩:=h
 cases Y;obtain⟨U,r,ht,W⟩:=I.list hx;have Z:=r.length;refine{"list",_,Of.lookup,ht.isList.typeIs,?_};refine wpAny_getItem_list_slice ht.isList hs pl V .none (by simp) ?_ (by rw[aG]<;>omega);rw[wX,<- Z];refine{.ref s.heap.objs.size,_,I.laid (t':=s.toks) (o:=.lst (lI xs lo hi)) (fun b M q=>aK _ q) (aB _) ?_,Z9,q _ (I.hok.fresh (aB _))};exact{cY (t7 xs lo hi) W,_,0,(r.drop (HT.sIx xs.length 0 lo)).take (HT.sIx xs.length xs.length hi-HT.sIx xs.length 0 lo),cj _ rfl}
theorem ij:kR X (.builtin "len") (fun xs H Q=>∃p ys,xs=[.ref p]/\(SqL X.K H p ys\/SqT X.K H p ys)/\Q (.int ys.length) H):=by
 intro pins s σ H xs us Q I r h;obtain⟨p,ys,rfl,hq,q⟩:=h;obtain⟨u,rfl,V⟩:=vals1 r
 cases V;have O:=sR
 rcases hq with hq|hq
 ·obtain⟨W,Y,pl,U⟩:=I.list hq;have Z:=Y.length;exact Calls.call_len_list pl.isList (by simp only[aG]<;>omega) {.int ys.length,H,I.tok _,{s.toks+1,by rw[aG,Z]},q}
 ·obtain⟨W,Y,pl,U⟩:=I.tuple hq;have Z:=Y.length;exact len_tuple pl (by simp only[aG]<;>omega) {.int ys.length,H,I.tok _,{s.toks+1,by rw[aG,Z]},q}
theorem n6:kR X (.type "list") (fun xs H Q=>∃p ys,xs=[.ref p]/\(SqL X.K H p ys\/SqT X.K H p ys)/\∀l,H l=Z7->Q (.ref l) (upd H l (.lst ys))):=by
 intro pins s σ H xs us Q I r h;obtain⟨p,ys,rfl,hq,q⟩:=h;obtain⟨u,rfl,J⟩:=vals1 r
 cases J;have fin:∀(Z:List ae),cS ys Z->ys.length<=aC->∀(h':cu) (W:Nat),(∀b o',s.heap.get? b=Z8 o'->h'.get? b=Z8 o') ->
   h'.get? s.heap.objs.size=Z8 {cls:=.type "list",dict:=Z7,data:=.seq Z.toArray W,slots:=#[]}->EP X pins σ Q (.ref s.heap.objs.size) {s with heap:=h'}:=fun Z Y V h' W kp e=>
  {.ref s.heap.objs.size,_,I.laid (t':=s.toks) kp (aB _) (show eB X.prog X.w _ h' _ (.lst ys) from⟨V,Z,W,Y,e⟩),Z9,q _ (I.hok.fresh (aB _))}
 rcases hq with hq|hq
 ·obtain⟨Z,Y,pl,V⟩:=I.list hq;have U:=Y.length;obtain⟨o,O,hc,n,M⟩:=pl.isList;exact call_list_seq p (.inl rfl) O hc M (fun h' W kp e=>fin Z Y V h' W kp e) (by simp only[aG]<;>omega)
 ·obtain⟨Z,Y,pl,V⟩:=I.tuple hq;have U:=Y.length;obtain⟨o,O,hc,n,M⟩:=pl;exact call_list_seq p (.inr rfl) O hc M (fun h' W kp e=>fin Z Y V h' W kp e) (by simp only[aG]<;>omega)
theorem wY:kR X (.type "tuple") (fun xs H Q=>∃p ys,xs=[.ref p]/\((SqL X.K H p ys/\∀l,H l=Z7->Q (.ref l) (upd H l (.tup ys)))\/(SqT X.K H p ys/\Q (.ref p) H))):=by
 intro pins s σ H xs us Q I r h;obtain⟨p,ys,rfl,h⟩:=h;obtain⟨u,rfl,O⟩:=vals1 r
 cases O
 rcases h with⟨hq,q⟩|⟨hq,q⟩
 ·obtain⟨Z,Y,pl,W⟩:=I.list hq;have U:=Y.length;refine call_tuple_list pl.isList (fun h' kp=>?_) (by simp only[aG]<;>omega);have V:Inv X pins σ H {s with heap:=h'}:=I.kept (t':=s.toks) kp;have M:Inv X pins σ (upd H h'.objs.size (.tup ys)) {s with heap:=h'.push {cls:=.type "tuple",data:=.seq Z.toArray}}:=
   V.laid (t':=s.toks) (fun b o e=>aK _ e) (aB _) (show eB X.prog X.w _ _ _ (.tup ys) from{W,Z,Y,IsTup.new _ _})
  exact{.ref h'.objs.size,_,M,Z9,q _ (V.hok.fresh (aB _))}
 ·obtain⟨Z,Y,pl,W⟩:=I.tuple hq;exact call_tuple_same pl {.ref p,H,I,Z9,q}
def tyV(K:af)(T:String)(x:V)(H:Hp):Prop:=match x with
 |.str _=>T="str"
 |.int _=>T="int"
 |.ref p=>(T="list"/\∃xs,SqL K H p xs)\/(T="tuple"/\∃o,K.lookup p=Z8 o/\o.cls=.type "tuple"/\o.dict=Z7) \/
   (T="dict"/\((∃kvs,H p=Z8 (.dK kvs))\/∃kvs,H p=Z8 (.dT kvs)))\/(T="set"/\∃S n,H p=Z8 (.set S n))
 |_=>False
theorem Fw{pins:List (aa×Obj)}{σ:St}{H:Hp}{s:ao}{T:String}{x:V}{v:ae}(I:Inv X pins σ H s)(r:RelV x v)(ty:tyV X.K T x H) :
  s.TypeIs v T/\∀a,v=.ref a->∃W,s.heap.get? a=Z8 W/\W.dict=Z7:=by
 cases x with
 |str z=>
  obtain⟨t,rfl⟩:=r
  cases (show T="str" from ty);exact{typeIs_str s z t,fun _ e=>nomatch e}
 |int i=>
  obtain⟨t,rfl⟩:=r
  cases (show T="int" from ty);exact{typeIs_int s i t,fun _ e=>nomatch e}
 |ref p=>
  cases r
  rcases ty with⟨rfl,xs,hq⟩|⟨rfl,o,hk,hc,Z⟩|⟨rfl,hk⟩|⟨rfl,S,n,hk⟩
  ·obtain⟨U,_,pl,_⟩:=I.list hq;refine{pl.isList.typeIs,fun a e=>?_}
   cases e;obtain⟨o,n,e,c,Z,_⟩:=pl;exact⟨o,e,Z⟩
  ·refine{{o,I.kIn p o hk,hc},fun a e=>?_}
   cases e;exact{o,I.kIn _ o hk,Z}
  ·have z:∃o,s.heap.get? p=Z8 o/\o.ExactDict:=by
    rcases hk with⟨kvs,hk⟩|⟨kvs,hk⟩
    ·obtain⟨_,_,_,_,o,_,_,e,ex,_⟩:=I.hok p _ hk;exact⟨o,e,ex⟩
    ·obtain⟨_,_,_,_,o,_,_,e,ex,_⟩:=I.hok p _ hk;exact⟨o,e,ex⟩
   obtain⟨o,e,ex⟩:=z;refine{⟨o,e,ex.1⟩,fun a Y=>?_}
   cases Y;exact⟨o,e,ex.2.1⟩
  ·obtain⟨o,_,_,_,e,ex,_⟩:=I.hok p _ hk;refine{⟨o,e,ex.1⟩,fun a Y=>?_}
   cases Y;exact⟨o,e,ex.2.1⟩
 |_=>exact cP ty
def tBM0(K:af)(T:String)(r:V->List V->Hp->VK->Prop)(to:TE):TE:=fun σ H Q=>to σ H fun x H1=>tyV K T x H1/\r x [] H1 Q
def tBM(K:af)(T:String)(r:V->List V->Hp->VK->Prop)(to:TE)(t:TA):TE:=fun σ H Q=>to σ H fun x H1=>tyV K T x H1/\t σ H1 fun xs H2=>r x xs H2 Q
variable{o e:cL}{es:List cL}{to:TE}{t:TA}{name:Str}{apos cpos:Pos}{T id:String}{r:V->List V->Hp->VK->Prop}
theorem pF(D:PlainAttrs T)(slot:Slot T name id)(W:typeOf (.builtin id)=pure (.type "method_descriptor"))(J:MtR X id r)(O:PE X o to)
  (Y:lF o name X.env (fy o X.env)=fy o X.env:=by rfl) (Z:(apos.endLine==cpos.line)=true:=by rfl):PE X (.Call (.Attribute o name apos) [] [] cpos) (tBM0 X.K T r to):=by
 intro pins s σ H Q I h;refine EV Y Z (thn (O pins s σ H _ I h) fun v M ⟨x,H1,V,U,ty,z⟩=>?_);obtain⟨h1,h2⟩:=Fw V U ty;exact{T,id,D,slot,W,h1,h2,oV rfl (BP (J pins M σ H1 x [] v [] Q V U .nil z))}
theorem oQ(pa:PlainAttrs T)(slot:Slot T name id)(U:typeOf (.builtin id)=pure (.type "method_descriptor"))(hm:MtR X id r)(D:PE X o to)(ha:PA X (e::es) t)
  (W:lF o name X.env (fy o X.env)=fy o X.env:=by rfl)
  (V:((jf cpos (cw (e::es) X.env)).all (fun x=>!x.1)&&(nY cpos (jg [] X.env)).all (fun x=>x.1.isSome)
  &&decide ((e::es).length+([]:List Od).length+(if ([]:List Od).isEmpty then 0 else 1)<30))=true:=by rfl)
  (Y:(apos.endLine==cpos.line)=true:=by rfl) (hs:cw (e::es) X.env=(false,fy e X.env)::cw es X.env:=by rfl) (Z:(jf cpos (cw es X.env)).any (·.1)=false:=by rfl) :
  PE X (.Call (.Attribute o name apos) (e::es) [] cpos) (tBM X.K T r to t):=by
 intro pins s σ H Q I h;refine wpAny_Call_method_late W V Y rfl (thn (D pins s σ H _ I h) fun v z ⟨x,H1,M,J,ty,q1⟩=>?_);obtain⟨h1,h2⟩:=Fw M J ty;refine{T,id,pa,slot,U,h1,h2,?_};have O:=ha cpos pins z σ H1 _ M q1;rw[hs]at O |-;refine oV (by show (false||(jf cpos (cw es X.env)).any (·.1))=false;rw[Z]<;>rfl) (AU ?_);exact thn O fun us s2 ⟨vs,H2,g,r2,q2⟩=>hm pins s2 σ H2 x vs v us Q g J r2 q2
end
def MtM(X:Cx)(id:String)(r:V->List V->Hp->VK->Prop):Prop:=
 ∀(pins:List (aa×Obj)) (s:ao) (σ:St) (H:Hp) (x:V) (xs:List V) (v:ae) (us:List ae) (Q:VK),Inv X pins σ H s->RelV x v->cS xs us->r x xs H Q ->
  aW (aX X.prog X.w) X.A (vw (.builtin id) (v::us)) (EP X pins σ Q) X.xe s
theorem cS.one:∀{x:V} {us:List ae},cS [x] us->∃u,us=[u]/\RelV x u
 |_,_,.cons r .nil=>{_,Z9,r}
theorem cS.two:∀{x y:V} {us:List ae},cS [x,y] us->∃u v,us=[u,v]/\RelV x u/\RelV y v
 |_,_,_,.cons r (.cons q .nil)=>{_,_,Z9,r,q}
theorem cS.zero:∀{us:List ae},cS [] us->us=[]
 |_,.nil=>rfl
theorem cS.dropLast{xs:List V}{us:List ae}(h:cS xs us):cS xs.dropLast us.dropLast:=by
 induction h with
 |nil=>exact .nil
 |cons r t Z=>
  cases t with
  |nil=>exact .nil
  |cons q t'=>exact .cons r Z
theorem cS.eraseIdx:∀{xs:List V} {us:List ae} (i:Nat),cS xs us->cS (xs.eraseIdx i) (us.eraseIdx i)
 |_,_,_,.nil=>.nil
 |_,_,0,.cons _ t=>t
 |_,_,i+1,.cons r t=>.cons r (cS.eraseIdx i t)
theorem cS.reverse{xs:List V}{us:List ae}(h:cS xs us):cS xs.reverse us.reverse:=by
 induction h with
 |nil=>exact .nil
 |cons r t Z=>rw[Fx,Fx];exact cS.append Z (.cons r .nil)
theorem AV{Z:Type}(l:List Z):l.eraseIdx (l.length-1)=l.dropLast:=by
 induction l with
 |nil=>rfl
 |cons a r Y=>
  cases r with
  |nil=>rfl
  |cons b r=>
   have e:(a::b::r).length-1=((b::r).length-1)+1:=by
    have h1:(a::b::r).length=r.length+2:=rfl;have h2:(b::r).length=r.length+1:=rfl;omega
   rw[e,List.eraseIdx_cons_succ,Y]
   all_goals rfl
theorem xt{Z:Type}:∀(l:List Z) (i:Nat),(l.eraseIdx i).length<=l.length
 | [],_=>aB _
 |_::_,0=>gc _
 |_::r,i+1=>Nat.succ_le_succ (xt r i)
section
variable{X:Cx}{pins:List (aa×Obj)}{σ:St}{H:Hp}{s:ao}{l b:aa}{xs ys zs:List V}
theorem Inv.lset{Z its':List ae}{n:Nat}{f:Array ae->Array ae}{t':Nat}(I:Inv X pins σ H s)(O:H l=Z8 (.lst xs))
  (e:s.heap.get? l=Z8 {cls:=.type "list",data:=.seq Z.toArray n}) (U:f Z.toArray=its'.toArray) (W:cS ys its') (Y:ys.length<=aC) :
  Inv X pins σ (upd H l (.lst ys)) {s with heap:=s.heap.update l (cV f),toks:=t'}:=by
 have q:=PySem.IsL.update e f;rw[U]at q;refine I.write (x:=l) (e:=l) (by rw[O];exact trivial) (.inl rfl) (fun M u hb V=>(fv s.heap (cV f) (fX hb)).trans V) {_,q} ?_;exact{Y,its',_,W,q}
theorem Inv.lnew{Z:List ae}{t':Nat}(I:Inv X pins σ H s)(Y:cS ys Z)(W:ys.length<=aC) :
  Inv X pins σ (upd H s.heap.objs.size (.lst ys)) {s with heap:=s.heap.push {cls:=.type "list",data:=.seq Z.toArray},toks:=t'}:=
 I.laid (fun _ _ q=>aK _ q) (aB _) {W,Z,0,Y,cj _ rfl}
theorem Inv.fresh(I:Inv X pins σ H s):H s.heap.objs.size=Z7:=I.hok.fresh (aB _)
theorem Inv.lstM(I:Inv X pins σ H s)(Y:H l=Z8 (.lst xs)):xs.length<=aC/\∃(Z:List ae) (n:Nat),cS xs Z/\xs.length=Z.length/\s.heap.get? l=Z8 {cls:=.type "list",data:=.seq Z.toArray n}:=by
 obtain⟨z,Z,n,r,e⟩:=I.hok l _ Y;exact⟨z,Z,n,r,r.length,e⟩
theorem Fy{n:Nat}(h:n<=aC):kO n=false:=by
 unfold kO;exact decide_eq_false (by omega)
end
section
variable{X:Cx}
inductive AppI(x:V)(vs:List V)(H:Hp)(Q:VK):Prop where
 |mk(l:aa)(xs:List V)(y:V)(hx:x=.ref l)(hv:vs=[y])(h:H l=Z8 (.lst xs))(n:xs.length<aC)(q:Q .non (upd H l (.lst (xs++[y])))):AppI x vs H Q
def IZ:V->List V->Hp->VK->Prop:=fun x vs H Q=>AppI x vs H Q
theorem iO:MtM X "list.append" IZ:=by
 intro pins s σ H x vs v us Q I W U h;obtain⟨l,xs,y,rfl,rfl,Y,O,q⟩:=h
 cases W;obtain⟨u,rfl,V⟩:=U.one;obtain⟨z,Z,n,r,M,e⟩:=I.lstM Y;refine oa F.slot_list_append {_,e,Z9} F.entry_list_append (F.args_list_append_2 _ _) (PySem.list_append l Z.toArray n u (by rw[aG];omega)) {e,?_};refine{.non,_,I.lset (its':=Z++[u]) Y e (by simp) (r.append (.cons V .nil)) ?_,Z9,q};rw[ay,AW];omega
def I9:V->List V->Hp->VK->Prop:=fun x vs H Q=>∃l b xs zs,x=.ref l/\vs=[.ref b]/\H l=Z8 (.lst xs)/\H b=Z8 (.lst zs)/\xs.length+zs.length<=aC/\Q .non (upd H l (.lst (xs++zs)))
theorem DX:MtM X "list.extend" I9:=by
 intro pins s σ H x vs v us Q I U rv h;obtain⟨l,b,xs,zs,rfl,rfl,V,t,hz,q⟩:=h
 cases U;obtain⟨u,rfl,J⟩:=rv.one
 cases J;obtain⟨z,Y,n,r,hl,e⟩:=I.lstM V;obtain⟨z2,Z,D,g,M,O⟩:=I.lstM t;have hsz:Y.toArray.size+Z.toArray.size<=aC:=by rw[aG,aG];omega
 have W:¬(!Y.toArray.isEmpty&&kO (Y.toArray.size+Z.toArray.size))=true:=by
  rw[Fy hsz,Bool.and_false];exact bR
 refine oa F.slot_list_extend {_,e,Z9} F.entry_list_extend (F.args_list_extend_2 _ _)
  (AutoSeq1.list_extend_list_list_0 l Y.toArray n b Z.toArray D W (by rw[aG];omega) (by omega)) {e,O,?_}
 refine{.non,_,I.lset (its':=Y++Z) V e (by simp) (r.append g) ?_,Z9,q};rw[ay];omega
def rPop:V->List V->Hp->VK->Prop:=fun x vs H Q=>∃l xs y,x=.ref l/\vs=[]/\H l=Z8 (.lst xs)/\xs[xs.length-1]?=Z8 y/\Q y (upd H l (.lst xs.dropLast))
theorem Mj:MtM X "list.pop" rPop:=by
 intro pins s σ H x vs v us Q I U D h;obtain⟨l,xs,y,rfl,rfl,V,hy,q⟩:=h
 cases U;have Y:=D.zero;subst Y;obtain⟨z,Z,n,r,J,e⟩:=I.lstM V;obtain⟨u,O,M⟩:=r.get hy;have W:Z.toArray[Z.toArray.size-1]?=Z8 u:=by
  show Z.toArray[Z.length-1]?=Z8 u;rw[<- jV,<- J];exact O
 refine oa F.slot_list_pop {_,e,Z9} F.entry_list_pop (F.args_list_pop_1 _) (MeetsSeq.list_pop_last l Z.toArray n u W (by rw[aG];omega)) {e,?_};refine{y,_,I.lset (its':=Z.dropLast) V e ?_ r.dropLast ?_,M,q}
 ·show Z.toArray.eraseIdxIfInBounds (Z.toArray.size-1)=Z.dropLast.toArray;rw[aG,uw,AV]
 ·rw[kF];omega
def Ml:V->List V->Hp->VK->Prop:=fun x vs H Q=>∃l xs i k y,x=.ref l/\vs=[.int i]/\H l=Z8 (.lst xs)/\-(2^63)<=i/\i<2^63/\seqIndex? i xs.length=Z8 k/\xs[k]?=Z8 y/\Q y (upd H l (.lst (xs.eraseIdx k)))
theorem Fz:MtM X "list.pop" Ml:=by
 intro pins s σ H x vs v us Q I V M h;obtain⟨l,xs,i,k,y,rfl,rfl,W,h1,h2,hk,hy,q⟩:=h
 cases V;obtain⟨u,rfl,U⟩:=M.one;obtain⟨t,rfl⟩:=U;obtain⟨z,Z,n,r,O,e⟩:=I.lstM W;obtain⟨w,hw,Y⟩:=r.get hy;refine oa F.slot_list_pop {_,e,Z9} F.entry_list_pop (F.args_list_pop_2 _ _)
  (MeetsSeq.list_pop_at l Z.toArray n i t k w (fitsIndex_both h1 h2) (by rw[aG,<- O];exact hk) (by rw[<- jV];exact hw) (by rw[aG];omega)) {e,?_}
 refine{y,_,I.lset (its':=Z.eraseIdx k) W e ?_ (r.eraseIdx k) ?_,Y,q}
 ·show Z.toArray.eraseIdxIfInBounds k=(Z.eraseIdx k).toArray;rw[uw]
 ·have:=xt xs k;omega
def rCat:R2:=fun x y H Q=>∃l b xs zs,x=.ref l/\y=.ref b/\H l=Z8 (.lst xs)/\H b=Z8 (.lst zs)/\xs.length+zs.length<=aC/\∀p,H p=Z7->Q (.ref p) (upd H p (.lst (xs++zs)))
theorem Mo:OpR X (iB .Add) rCat:=by
 intro pins s σ H x y v u Q I W D h;obtain⟨l,b,xs,zs,rfl,rfl,t,M,g,q⟩:=h
 cases W
 cases D;obtain⟨z,Y,n,r,hl,e⟩:=I.lstM t;obtain⟨z2,Z,n2,J,O,U⟩:=I.lstM M;refine PySem.P.add_list e U ?_ (by rw[aG,aG];omega);have V:Y.toArray++Z.toArray=(Y++Z).toArray:=by simp
 rw[V];exact{.ref _,_,I.lnew (t':=s.toks) (r.append J) (by rw[ay];omega),Z9,q _ I.fresh}
end
section
variable{prog:aL}{w:bA}{A:bY}{E:ae->ao->Prop}{s:ao}
end
section
variable{X:Cx}
end
end L2
namespace Att
open PySem PySem.W PySem.Calls PyProof.Rows
theorem ints_of_wellAll{P:Params}{h:cu}:∀(ns:List Int) (vs:List ae),WellAll P h vs (ns.map WData.int)->eM vs ns:=by
 intro ns
 induction ns with
 |nil=>
  intro vs w;rw[tZ]at w
  cases w;exact .nil
 |cons n ns Z=>
  intro vs w;rw[bU]at w
  cases w with
  |cons a b=>
   cases a;exact .cons _ _ (Z _ b)
theorem script_of{l:OpenLaw}{n:Nat}(t:l.most=Z8 n){P:Params}{h:cu}{args:List WData}{Z:List ae}
  (Y:l.row.toRowW.claim.pre args=true) (M:WellAll P h Z args) :
  ∃a vs ns,Z=[Value.ref a]/\args=[WData.list (ns.map WData.int)]/\h.get? a=Z8 {cls:=.type "list",data:=.seq vs.toArray}/\eM vs ns/\ns.length<=n:=by
 have J:WShape.hasAll [] args [.list .int]=true:=(pre_splitW Y).1;have hc:l.pre.holds [] {args:=args}=true:=(pre_splitW Y).2;obtain⟨d,r,rfl,h1,h2⟩:=hasAllW_cons J;obtain rfl:=hasAllW_nil h2;obtain⟨xs,rfl,I⟩:=hasW_list h1;obtain⟨ns,rfl⟩:=items_int I;have V:ns.length<=n:=by
  unfold OpenLaw.pre at hc;have O:(WTm.not (.lt (.lit (.int (n:Int))) (.len (.arg 0)))).holds [] {args:=[.list (ns.map .int)]}=true:=by
   have O:=(holds_andW hc).1;rw[t]at O;exact O
  have U:=condW_of O (w_not (w_lt w_lit (w_len_list (w_arg rfl))));rw[aq]at U;refine Nat.le_of_not_lt fun q=>?_;have z:(n:Int)<((ns.length:Nat):Int):=by omega
  first
   |(rw[decide_eq_true z]at U;exact absurd U (by decide))
   |(simp at U;omega)
 cases M with
 |cons g H=>
  cases H
  cases g with
  |list D W=>exact{_,_,ns,Z9,Z9,D,ints_of_wellAll ns _ W,V}
theorem post_true(l:OpenLaw)(args:List WData):l.row.toRowW.claim.post args (.bool true) args=true:=
 postW_of (r:=l.row.toRowW) (X:=(true==true))
  (show Og [] (.bool true) .bool=true by first|rfl|decide|simp[Og,WShape.arms,WShape.armsAll])
  (show (WTm.eq .res (.lit (.bool true))).value [] {args:=args,res:=Z8 (.bool true),after:=args}=Z8 (.bool (true==true)) from w_eq_bool (w_res rfl) w_lit) rfl
section
variable{prog:aL}{w:bA}{A:bY}{E:ae->ao->Prop}{s:ao}{K:Frag}
end
end Att
namespace L2
open PySem PySem.Spec PyProof.Rows
theorem xu:∀{vs:List ae} {ns:List Int},eM vs ns->cS (ns.map V.int) vs
 |_,_,.nil=>.nil
 |_,_,.cons n t h=>.cons ⟨t,Z9⟩ (xu h)
def Only(H:Hp):Prop:=∀b,H b=Z7\/∃o xs,H b=Z8 (.frz o (.lst xs))
theorem FA{P:aL}{w:bA}{K:af}{mg mb:Str->Option ae}{CX:CXT}{k:Nat}{fa a:aa}{fd:bS}{x:Str}{sp:Sp}{Z:ao}{vs:List ae}{ns:List Int}
  (KX:K.In Z.heap) (cs:Z.heap.Ns bj mg) (hb:Z.heap.Ns LW mb) (cn:∀x:Str,x≠"__name__"->mb x=eK x) (cr:Z.heap.NoLimit) (hg:Z.gens=#[])
  (ha:Z.heap.get? a=Z8 {cls:=.type "list",data:=.seq vs.toArray}) (hi:eM vs ns) (hl:ns.length<=aC) (hr:cZ k wZ)
  (F:∀base:cu,K.In base->base.Ns bj mg->bh P w K mg base CX k fa fd [x] sp) (O:∀(s:ao) (u:ae),tY s fd {[u],[]} [(x,u)])
  (cp:∀H:Hp,Only H->SqL K H a (ns.map V.int)->sp [.ref a] H (fun v _=>v=.bl true) fun _ _ _=>False)
  (cl:∀H e s',CX [] H Z (fun _ _ _=>False) e s'->False) :
  o5 (aX P w) wZ (.call (.ref fa) {[.ref a],[]}) (fun r s'=>r=.ok (.ret (.bool true))/\OldK Z.heap s'.heap/\s'.os=Z.os/\oZ s'.gens) Z:=by
 have rv:=xu hi;have I:=hi.length
 -- from an abstract heap in which nothing but the script may be tracked
 have U:∀H:Hp,Only H->SqL K H a (ns.map V.int)->HOk P w H Z.heap->(∀b,H b≠Z7->b=a)->(H a≠Z7->K.lookup a=Z7) ->
   o5 (aX P w) wZ (.call (.ref fa) {[.ref a],[]}) (fun r s'=>r=.ok (.ret (.bool true))/\OldK Z.heap s'.heap/\s'.os=Z.os/\oZ s'.gens) Z:=by
  intro H hO hS J hA hK;have Y:∀{b:aa} {o:Obj},Z.heap.get? b=Z8 o->H b=Z7->(yc Z.heap H).get? b=Z8 o:=fun e n=>E3 e n;have ck:∀{b:aa} {o:Obj} {es:Array DictEntry} {ep:Nat},Z.heap.get? b=Z8 o->o.data=.dict es ep->H b=Z7:=fun {b o es ep} e d=>by
   cases q:H b with
   |none=>rfl
   |some u=>
    have e':b=a:=hA b (by rw[q];simp);subst e';rw[ha]at e;cases e;have d':Data.seq vs.toArray _=Data.dict es ep:=d
    cases d'
  have W:∀{b:aa} {m:Str->Option ae},Z.heap.Ns b m->(yc Z.heap H).Ns b m:=fun {b m} ⟨o,es,ep,e,d,r⟩=>{o,es,ep,Y e (ck e d),d,r};have D:K.In (yc Z.heap H):=fun b o e=>Y (KX b o e) (by
   cases q:H b with
   |none=>rfl
   |some u=>
    have e':b=a:=hA b (by rw[q];simp);subst e';rw[hK (by rw[q];simp)]at e;cases e)
  have hM:Mod K mg (yc Z.heap H):={D,W cs,{mb,W hb,cn},let ⟨mc,h1,h2⟩:=cr;{mc,W h1,h2}};have e0:yk P w K mg (yc Z.heap H) wZ [] Z H:={Z9,hM,fun b o e=>IF e,AH (Dt _ _),trivial,fun b hb=>absurd (show b∈([]:List aa) from hb) (by simp),J,.of_eq hg};refine mO ((F _ D (W cs)).run wZ [] Z H {[.ref a],[]} [.ref a] [.ref a] _ _ hr e0 (O Z (.ref a)) (.cons rfl .nil) (cp H hO hS)) fun r s' h=>?_
  cases r with
  |error e=>exact (cl H e s' h).elim
  |ok fl=>
   cases fl with
   |next=>exact cP h
   |brk=>exact cP h
   |cont=>exact cP h
   |ret u=>
    obtain⟨v,H',os,M,un,g,r',q⟩:=h;have q':v=.bl true:=q;subst q';obtain rfl:u=Value.bool true:=r';refine{Z9,OldK.of_keep fun b o e=>?_,os,M}
    cases q:H b with
    |none=>exact un.keep b o e q (by intro z;exact absurd (show b∈([]:List aa) from z) (by simp)) (by simp)
    |some u=>
     rcases hO b with z|⟨ob,xs,z⟩
     ·rw[q]at z;cases z
     ·have z2:=un.frzs b ob _ z;obtain⟨e1,_⟩:=J b _ z;obtain⟨e2,_⟩:=g b _ z2;rw[e]at e1;cases e1;exact e2
 cases hk:K.lookup a with
 |some o=>
  -- the script is one of the module's own objects
  have e:=KX a o hk;rw[ha]at e
  cases e;refine U (fun _=>Z7) (fun _=>.inl rfl) (.inr {_,vs.toArray,_,hk,Z9,Z9,Z9,by rw[aG,I];exact hl,by simpa using rv}) (fun b u z=>by have t:(Z7:Option HO)=Z8 u:=z;cases t) (fun b z=>absurd rfl z) fun z=>absurd rfl z
 |none=>
  refine U (fun b=>if b=a then Z8 (.frz {cls:=.type "list",data:=.seq vs.toArray} (.lst (ns.map V.int))) else Z7) (fun b=>?_) (.inl (.inr {{cls:=.type "list",data:=.seq vs.toArray},if_pos rfl})) (fun b u z=>?_) (fun b z=>?_) fun _=>hk
  ·by_cases hb:b=a
   ·exact .inr {_,_,if_pos hb}
   ·exact .inl (if_neg hb)
  ·by_cases hb:b=a
   ·have t:=(if_pos hb).symm.trans z
    cases t;subst hb;exact{ha,by rw[aq];exact hl,vs,_,rv,ha}
   ·have t:=(if_neg hb).symm.trans z
    cases t
  ·by_cases hb:b=a
   ·exact hb
   ·exact absurd (if_neg hb) z
def eP(s:cU)(j:Nat):cU:=match s with
 |.ClassDef _ _ _ Z _ _ _ _ _ _ _=>Z.getD j (.Pass {0,0,0,0})
 |_=>.Pass {0,0,0,0}
def kJ(s:cU):Arguments:=match s with
 |.FunctionDef _ a _ _ _ _ _ _ _ _=>a
 |_=>{posonlyargs:=[],args:=[],vararg:=Z7,kwonlyargs:=[],kw_defaults:=[],kwarg:=Z7,defaults:=[]}
def jb(s:cU):List cU:=match s with
 |.FunctionDef _ _ b _ _ _ _ _ _ _=>b
 |_=>[]
def aN(s:cU):lG:=match s with
 |.FunctionDef _ _ _ _ _ _ sc _ _ _=>sc
 |_=>{kind:=.function,names:=[],isGenerator:=false,isCoroutine:=false}
abbrev CX0:CXT:=fun _ _ _ _ _ _=>False
abbrev E0:XK:=fun _ _ _=>False
theorem aY{X:Cx}:kS CX0 X E0:=fun _ _ _ _ _ _ _ h=>h.elim
structure Fun(K:af)(x qual:Str)(st:cU)(f:aa)(fd:bS):Prop where
 ex:∃(oc:ae) (od:Option aa) (kV doc pm:ae) (an:Option aa) (cdv ct:ae) (osl:Array (Option ae)),
  fd=e7 x qual (kJ st) (jb st) (aN st) .none kV doc pm an cdv ct/\K.lookup f=Z8 {oc,od,.func fd,osl}/\jr K cdv qual=true
 kp:gz K (.ref f)=true
section
variable{P:aL}{w:bA}{K:af}{mg:Str->Option ae}{base:cu}
theorem Fun.ok{x Z:Str}{st:cU}{f:aa}{fd:bS}{N ps:List Str}{k:Nat}{sp:Sp}(F:Fun K x Z st f fd)(S:bK N ps (aN st))(len:∀vs H Q E,sp vs H Q E->vs.length=ps.length)
  (W:∀(Y:ae) (A:bY) (outer:List Env) (s:ao) (H:Hp) (vs:List V) (Q:VK) (E:XK),cZ k (A.deeper (sY Z (aN st) s.heap.objs.size f Y))->sp vs H Q E ->
   ∃t,PSs (sX CX0 P w K mg base N Z (aN st) f Y A outer s H E).nox (jb st) t/\t {nx:=fun _ H'=>Q .non H',rt:=Q} (start N vs) H):bh P w K mg base CX0 (k+1) f fd ps sp:=by
 obtain⟨g,od,kV,I,z,an,Y,ct,M,rfl,J,U⟩:=F.ex;refine KI J U S len fun A outer s H vs Q E D O=>?_;obtain⟨t,h,q⟩:=W Y A outer s H vs Q E D O;exact⟨t,h.nox,q⟩
theorem Fun.binds{x Z:Str}{st:cU}{f:aa}{fd:bS}{ps:List Str}(F:Fun K x Z st f fd)
  (h:∀(kV W V:ae) (U:Option aa) (Y ct:ae) (us:List ae),us.length=ps.length->AM (e7 x Z (kJ st) (jb st) (aN st) .none kV W V U Y ct) {us,[]}=pure (ps.zip us)):Binds K fd ps []:=by
 obtain⟨I,od,kV,W,V,U,Y,ct,O,rfl,J,M⟩:=F.ex;exact .all (h kV W V U Y ct)
theorem FB{x Z:Str}{st:cU}{f:aa}{M:ae}{od O:Option aa}{V:Array (Option ae)}{kV W U Y ct:ae}(l:K.lookup f=Z8 {M,od,.func (e7 x Z (kJ st) (jb st) (aN st) .none kV W U O Y ct),V})
  (c:jr K Y Z=true) (k:gz K (.ref f)=true):Fun K x Z st f (e7 x Z (kJ st) (jb st) (aN st) .none kV W U O Y ct):={⟨M,od,kV,W,U,O,Y,ct,V,Z9,l,c⟩,k}
end
theorem lQ{A:bY}{k:Nat}(Z:cZ k A):A.units+1<d8:=jt (EW (by decide:1<=64) _) Z.units
section
variable{X:Cx}
theorem pv(i:Nat){x:Str}{pos:Pos}(V:X.N[i]?=Z8 x:=by rfl)(Y:Vis X.env.scope x:=by first|exact Or.inl rfl|exact Or.inr (Or.inl rfl)|exact Or.inr (Or.inr rfl))(W:(x==("__debug__":Str))=false:=by decide)
  (Z:(x==("__classdict__":Str))=false:=by decide):PE X (.Name x pos) (IH i):=LX V Y W Z
end
theorem gf{A B:Prop}(h:B):if false=true then A else B:=by
 rw[if_neg bR];exact h
theorem ja{A B:Prop}(h:A):if true=true then A else B:=by
 rw[if_pos rfl];exact h
theorem gp{c A B:Prop}[Decidable c](h1:c->A)(h2:¬c->B):if c then A else B:=by
 by_cases h:c
 ·rw[if_pos h];exact h1 h
 ·rw[if_neg h];exact h2 h
def aT(H H':Hp):Prop:=∀b o,H b=Z8 o->H' b=Z8 o
theorem aT.refl(H:Hp):aT H H:=fun _ _ h=>h
theorem aT.trans{H H1 H2:Hp}(a:aT H H1)(b:aT H1 H2):aT H H2:=fun c o h=>b c o (a c o h)
theorem aT.free{H H':Hp}(e:aT H H'){l:aa}(h:H' l=Option.none):H l=Option.none:=by
 cases q:H l with
 |none=>rfl
 |some o=>
  rw[e l o q]at h
  cases h
section
variable{κ:Type}[DecidableEq κ]
def jF(kvs:List (κ×V))(k:κ):Option V:=(kvs.find? fun Z=>decide (Z.1=k)).map (·.2)
def iW(kvs:List (κ×V))(k:κ)(v:V):List (κ×V):=
 if (kvs.any fun Z=>decide (Z.1=k))=true then kvs.map (fun Z=>if Z.1=k then (Z.1,v) else Z) else kvs++[(k,v)]
theorem pH{p:κ×V}{r:List (κ×V)}{k:κ}(e:p.1=k):jF (p::r) k=Z8 p.2:=by simp[jF,jm,e]
theorem pI{p:κ×V}{r:List (κ×V)}{k:κ}(e:¬p.1=k):jF (p::r) k=jF r k:=by simp[jF,jm,e]
theorem j7(k:κ):∀kvs:List (κ×V),(kvs.any fun Z=>decide (Z.1=k))=(jF kvs k).isSome
 | []=>rfl
 |p::r=>by
  rw[zh]
  by_cases e:p.1=k
  ·simp only[pH e,decide_eq_true e,Bool.true_or,Option.isSome_some]
  ·rw[pI e,decide_eq_false e,Bool.false_or];exact j7 k r
theorem lR(kvs:List (κ×V))(k:κ)(v:V):(iW kvs k v).length<=kvs.length+1:=by
 unfold iW
 split
 ·rw[aq];omega
 ·rw[ay,aU,cH];omega
theorem zx{kvs:List (κ×V)}{k:κ}(v:V)(h:jF kvs k=Z7):iW kvs k v=kvs++[(k,v)]:=by
 unfold iW;rw[j7,h];exact if_neg (by decide)
theorem qD.isSome_eq{o:Option V}{u:Option ae}(r:qD o u):o.isSome=u.isSome:=by
 cases o with
 |none=>cases u with
  |none=>rfl
  |some _=>exact (show False from r).elim
 |some _=>cases u with
  |none=>exact (show False from r).elim
  |some _=>rfl
theorem KV.val{kvs:List (κ×V)}{vs:List (κ×ae)}(r:KV kvs vs)(k:κ):qD (jF kvs k) (o7 vs k):=by
 unfold KV at r
 induction r with
 |nil=>exact True.intro
 |@cons p q ps qs h t Y=>
  obtain⟨h1,h2⟩:=h
  by_cases e:p.1=k
  ·have Z:q.1=k:=h1.symm.trans e;have b:o7 (q::qs) k=Z8 q.2:=by simp[o7,jm,Z]
   rw[pH e,b];exact h2
  ·have Z:¬q.1=k:=fun z=>e (h1.trans z);have b:o7 (q::qs) k=o7 qs k:=by simp[o7,jm,Z]
   rw[pI e,b];exact Y
theorem KV.any{kvs:List (κ×V)}{vs:List (κ×ae)}(r:KV kvs vs)(k:κ):(kvs.any fun Z=>decide (Z.1=k))=vs.any fun Z=>decide (Z.1=k):=by
 unfold KV at r
 induction r with
 |nil=>rfl
 |cons h t Y=>rw[zh,zh,Y,h.1]
theorem KV.repl{kvs:List (κ×V)}{vs:List (κ×ae)}(r:KV kvs vs)(k:κ){y:V}{u:ae}(W:RelV y u) :
  KV (kvs.map fun Z=>if Z.1=k then (Z.1,y) else Z) (vs.map fun Z=>if Z.1=k then (Z.1,u) else Z):=by
 unfold KV at r |-
 induction r with
 |nil=>exact .nil
 |@cons p q ps qs h t Y=>
  rw[bU,bU];refine .cons ?_ Y;obtain⟨h1,h2⟩:=h
  by_cases e:p.1=k
  ·rw[if_pos e,if_pos (h1.symm.trans e)];exact⟨h1,W⟩
  ·rw[if_neg e,if_neg (fun z=>e (h1.trans z))];exact⟨h1,h2⟩
theorem KV.put{kvs:List (κ×V)}{vs:List (κ×ae)}(r:KV kvs vs)(k:κ){y:V}{u:ae}(Z:RelV y u):KV (iW kvs k y) (vF vs k u):=by
 unfold iW vF;rw[r.any k]
 by_cases e:(vs.any fun Y=>decide (Y.1=k))=true
 ·rw[if_pos e,if_pos e];exact r.repl k Z
 ·rw[if_neg e,if_neg e];exact eJ r ⟨Z9,Z⟩
theorem KV.length{kvs:List (κ×V)}{vs:List (κ×ae)}(r:KV kvs vs):kvs.length=vs.length:=aV r
end
theorem vG{P:aL}{w:bA}{k:Key}{u:ae}(r:RelV (kV k) u):(eN P w).is k u=true:=by
 cases k with
 |inl i=>obtain⟨t,e⟩:=(show ∃t,u=Value.int i t from r);subst e;exact zp P w i t
 |inr x=>obtain⟨t,e⟩:=(show ∃t,u=Value.str x t from r);subst e;exact zq P w x t
theorem xw{P:aL}{w:bA}:∀{ks:List Key} {us:List ae},cS (ks.map kV) us->ItemsAre (eN P w) ks us
 | [],_,r=>by rw[tZ]at r;cases r;exact .nil
 |k::ks,_,r=>by
  rw[bU]at r
  cases r with
  |cons h t=>exact .cons (vG h) (xw t)
abbrev KT(H:Hp):List (List Key×V)->List (List Key×aa×ae)->Prop:=aH fun p q=>p.1=q.1/\H q.2.1=Z8 (.tup (p.1.map kV))/\RelV p.2 q.2.2
theorem KT.val{H:Hp}{kvs:List (List Key×V)}{xs:List (List Key×aa×ae)}(r:KT H kvs xs)(k:List Key):qD (jF kvs k) ((AX xs k).map (·.2)):=by
 induction r with
 |nil=>exact True.intro
 |@cons p q ps qs h t Y=>
  obtain⟨h1,_,h2⟩:=h
  by_cases e:p.1=k
  ·have Z:q.1=k:=h1.symm.trans e;have b:AX (q::qs) k=Z8 q.2:=by simp[AX,jm,Z]
   rw[pH e,b];exact h2
  ·have Z:¬q.1=k:=fun z=>e (h1.trans z);have b:AX (q::qs) k=AX qs k:=by simp[AX,jm,Z]
   rw[pI e,b];exact Y
theorem KT.repl{H:Hp}{kvs:List (List Key×V)}{xs:List (List Key×aa×ae)}(r:KT H kvs xs)(k:List Key){y:V}{u:ae}(U:RelV y u) :
  KT H (kvs.map fun Z=>if Z.1=k then (Z.1,y) else Z) (xs.map (putAt k u)):=by
 induction r with
 |nil=>exact .nil
 |@cons p q ps qs h t W=>
  rw[bU,bU];refine .cons ?_ W;obtain⟨h1,h2,Y⟩:=h;unfold putAt
  by_cases e:p.1=k
  ·rw[if_pos e,if_pos (h1.symm.trans e)];exact⟨h1,h2,U⟩
  ·rw[if_neg e,if_neg (fun z=>e (h1.trans z))];exact⟨h1,h2,Y⟩
theorem KT.put{H:Hp}{kvs:List (List Key×V)}{xs:List (List Key×aa×ae)}(r:KT H kvs xs)(k:List Key){b:aa}{y:V}{u:ae}(hb:H b=Z8 (.tup (k.map kV)))(Z:RelV y u) :
  KT H (iW kvs k y) (storedH xs k b u):=by
 have e:(kvs.any fun Y=>decide (Y.1=k))=(AX xs k).isSome:=by
  rw[j7,(r.val k).isSome_eq,mj]
 unfold iW storedH;rw[e]
 by_cases q:(AX xs k).isSome=true
 ·rw[if_pos q,if_pos q];exact r.repl k Z
 ·rw[if_neg q,if_neg q];exact eJ r ⟨Z9,hb,Z⟩
theorem KT.keeps{H H':Hp}{kvs:List (List Key×V)}{xs:List (List Key×aa×ae)}(r:KT H kvs xs)(ht:∀b ys,H b=Z8 (.tup ys)->H' b=Z8 (.tup ys)):KT H' kvs xs:=
 Paired.mapP r fun _ _ z=>{z.1,ht _ _ z.2.1,z.2.2}
section
variable{P:aL}{w:bA}{H:Hp}{h:cu}{a:aa}
theorem KJ{u:HO}(ok:HOk P w H h)(e:Rd H a u):eB P w H h a u:=e.ok ok
theorem zy{kvs:List (Key×V)}(ok:HOk P w H h)(e:Rd H a (.dK kvs)):kvs.length<=aC/\(a==eY)=false/\∃vs,KV kvs vs/\h.DictOf (eN P w) a vs:=
 show eB P w H h a (.dK kvs) from KJ ok e
theorem FC{kvs:List (Key×V)}(ok:HOk P w H h)(e:H a=Z8 (.dK kvs)):kvs.length<=aC/\(a==eY)=false/\∃vs,KV kvs vs/\h.DictOf (eN P w) a vs:=zy ok (.inl e)
theorem vH{ks:List Key}(ok:HOk P w H h)(e:H a=Z8 (.tup (ks.map kV))):(yb (eN P w)).is h ks a:=by
 obtain⟨_,Z,r,o,h1,h2,n,Y⟩:=(show eB P w H h a (.tup (ks.map kV)) from ok a _ e);exact{o,Z.toArray,n,h1,h2,Y,by simpa using xw r}
theorem zz{kvs:List (List Key×V)}(ok:HOk P w H h)(e:Rd H a (.dT kvs)):kvs.length<=aC/\(a==eY)=false /\
  ∃xs,KT H kvs xs/\h.DictOfH (yb (eN P w)) a xs:=by
 obtain⟨z,y,xs,r,o,es,ep,h1,h2,Z,Y,U⟩:=(show eB P w H h a (.dT kvs) from KJ ok e);refine{z,y,xs,r,o,es,ep,h1,h2,Z,Y,fun x hx=>?_,U};have all:∀{l:List (List Key×V)} {m:List (List Key×aa×ae)},KT H l m->∀x∈m,(yb (eN P w)).is h x.1 x.2.1:=by
  intro l m q
  induction q with
  |nil=>intro x hx;exact nomatch hx
  |@cons p q ps qs hq t W=>
   intro x hx
   rcases ar.mp hx with e|hx
   ·subst e;exact vH ok (by rw[<- hq.1];exact hq.2.1)
   ·exact W x hx
 exact all r x hx
theorem dt_of{kvs:List (List Key×V)}(ok:HOk P w H h)(e:H a=Z8 (.dT kvs)):kvs.length<=aC/\(a==eY)=false /\
  ∃xs,KT H kvs xs/\h.DictOfH (yb (eN P w)) a xs:=zz ok (.inl e)
end
def oW(H:Hp)(a:aa)(y:V)(r:Option V):Prop:=
 (∃kvs k,Rd H a (.dK kvs)/\y=kV k/\r=jF kvs k)\/∃kvs k b,Rd H a (.dT kvs)/\y=.ref b/\H b=Z8 (.tup (k.map kV))/\r=jF kvs k
def rH(H:Hp)(a:aa)(y v:V)(H':Hp):Prop:=
 (∃kvs k,H a=Z8 (.dK kvs)/\y=kV k/\kvs.length<aC/\H'=upd H a (.dK (iW kvs k v))) \/
 ∃kvs k b,H a=Z8 (.dT kvs)/\y=.ref b/\H b=Z8 (.tup (k.map kV))/\kvs.length<aC/\H'=upd H a (.dT (iW kvs k v))
theorem oW.k{H:Hp}{a:aa}{kvs:List (Key×V)}{k:Key}(e:H a=Z8 (.dK kvs)):oW H a (kV k) (jF kvs k):=.inl {kvs,k,.inl e,Z9,Z9}
theorem rH.k{H:Hp}{a:aa}{kvs:List (Key×V)}{k:Key}{v:V}(e:H a=Z8 (.dK kvs))(Z:kvs.length<aC):rH H a (kV k) v (upd H a (.dK (iW kvs k v))):=.inl ⟨kvs,k,e,Z9,Z,Z9⟩
section
variable{X:Cx}{pins:List (aa×Obj)}{σ:St}{H:Hp}{s:ao}{a:aa}{y v:V}{u r:ae}{o:Option V}{A:bY}{E:ae->ao->Prop}
theorem Inv.big(I:Inv X pins σ H s):eY<s.heap.objs.size:=by
 have h:bj<s.heap.objs.size:=(I.mod.glob.keeps I.bk).lt;exact pJ (by decide) h
theorem DY{Q:ae->ao->Prop}(D:A.units+1<d8)(I:Inv X pins σ H s)(g:oW H a y (Z8 v))(O:RelV y u)(h:∀W s',Inv X pins σ H s'->RelV v W->Q W s') :
  aW (aX X.prog X.w) A (As (.ref a) u) Q E s:=by
 rcases g with⟨kvs,k,e,V,l⟩|⟨kvs,k,b,e,V,M,l⟩
 ·subst V;obtain⟨z,J,vs,Y,dd⟩:=zy I.hok e;obtain⟨W,hw,Z⟩:=qD.some_of (v:=v) (o:=o7 vs k) (by rw[l];exact Y.val k);exact wpAny_getItem_of (vG O) dd.mapOf hw (h W _ (I.tok _) Z)
 ·subst V
  cases (show u=Value.ref b from O);obtain⟨z,J,xs,Y,dd⟩:=zz I.hok e;obtain⟨W,hw,Z⟩:=qD.some_of (v:=v) (o:=(AX xs k).map (·.2)) (by rw[l];exact Y.val k);obtain⟨p,hp,U⟩:=fh.mp hw;refine wpAny_getItem_heap (og D) (vH I.hok M) dd hp ?_;rw[U];exact h W _ (I.tok _) Z
theorem d_in{Q:ae->ao->Prop}(O:A.units+1<d8)(I:Inv X pins σ H s)(g:oW H a y o)(V:RelV y u)(h:∀s',Inv X pins σ H s'->Q (.bool o.isSome) s') :
  aW (aX X.prog X.w) A (dI .In u (.ref a)) Q E s:=by
 rcases g with⟨kvs,k,e,Y,l⟩|⟨kvs,k,b,e,Y,U,l⟩
 ·subst Y;obtain⟨z,W,vs,Z,dd⟩:=zy I.hok e;refine wpAny_in_of (vG V) W dd.mapOf ?_;rw[<- (Z.val k).isSome_eq,<- l];exact h _ (I.tok _)
 ·subst Y
  cases (show u=Value.ref b from V);obtain⟨z,W,xs,Z,dd⟩:=zz I.hok e;refine wpAny_in_heap (og O) (vH I.hok U) W dd ?_;have q:=(Z.val k).isSome_eq;rw[mj]at q;rw[<- q,<- l];exact h _ (I.tok _)
theorem Ja{Q:ae->ao->Prop}(O:A.units+1<d8)(I:Inv X pins σ H s)(g:oW H a y o)(V:RelV y u)(h:∀s',Inv X pins σ H s'->Q (.bool (!o.isSome)) s') :
  aW (aX X.prog X.w) A (dI .NotIn u (.ref a)) Q E s:=by
 rcases g with⟨kvs,k,e,Y,l⟩|⟨kvs,k,b,e,Y,U,l⟩
 ·subst Y;obtain⟨z,W,vs,Z,dd⟩:=zy I.hok e;refine wpAny_notIn_of (vG V) W dd.mapOf ?_;rw[<- (Z.val k).isSome_eq,<- l];exact h _ (I.tok _)
 ·subst Y
  cases (show u=Value.ref b from V);obtain⟨z,W,xs,Z,dd⟩:=zz I.hok e;refine wpAny_notIn_heap (og O) (vH I.hok U) W dd ?_;have q:=(Z.val k).isSome_eq;rw[mj]at q;rw[<- q,<- l];exact h _ (I.tok _)
theorem uL{h':cu}{t':Nat}{Z:HO}(I:Inv X pins σ H s)(Y:Mut (H a))(hs:tU a s.heap h')(W:∃q,h'.get? a=Z8 q)(new:eB X.prog X.w (upd H a Z) h' a Z) :
  Inv X pins σ (upd H a Z) {s with heap:=h',toks:=t'}:=
 I.write (x:=a) (e:=a) Y (.inl rfl) (fun b q hb z=>(hs.2 b hb).trans z) W new
theorem vI{P:aL}{w:bA}{H':Hp}{h':cu}{kvs:List (Key×V)}{vs:List (Key×ae)}(z:kvs.length<=aC)(Y:(a==eY)=false)(Z:KV kvs vs)(dd:h'.DictOf (eN P w) a vs) :
  eB P w H' h' a (.dK kvs):=⟨z,Y,vs,Z,dd⟩
theorem DZ{H':Hp}{Q:Unit->ao->Prop}(hu:A.units+1<d8)(I:Inv X pins σ H s)(g:rH H a y v H')(D:RelV y u)(rv:RelV v r)(h:∀s',Inv X pins σ H' s'->Q () s') :
  aW (aX X.prog X.w) A (setItem (.ref a) u r) Q E s:=by
 rcases g with⟨kvs,k,e,W,l,M⟩|⟨kvs,k,b,e,W,J,l,M⟩
 ·subst W M;obtain⟨z,U,vs,Z,dd⟩:=FC I.hok e;have V:vs.length<=aC:=by rw[<- Z.length];exact z
  have O:(iW kvs k v).length<=aC:=by have:=lR kvs k v;omega
  refine wpAny_setItem_pairs (hsz:=V) (vG D) dd fun h' Y hs=>h _ ?_;have he:∃q,h'.get? a=Z8 q:=let ⟨q,_,_,hq,_⟩:=Y;⟨q,hq⟩;exact uL I (by rw[e];exact True.intro) hs he (vI O U (Z.put k rv) Y)
 ·subst W M
  cases (show u=Value.ref b from D);obtain⟨z,U,xs,Z,dd⟩:=dt_of I.hok e;have V:xs.length<=aC:=by rw[<- aV Z];exact z
  have O:(iW kvs k v).length<=aC:=by have:=lR kvs k v;omega
  refine wpAny_setItem_heap (hsz:=V) (og hu) (vH I.hok J) dd fun h' Y hs=>h _ ?_;obtain⟨q,es,ep,hq,h2,h3,h4,_,h5⟩:=Y;refine uL I (by rw[e];exact True.intro) hs ⟨q,hq⟩ {O,U,_,(Z.put k J rv).keeps fun c ys t=>?_,q,es,ep,hq,h2,h3,h4,h5};rw[aJ (oK t e (fun z=>nomatch z))];exact t
end
section
variable{X:Cx}{pins:List (aa×Obj)}{σ:St}{H:Hp}{s:ao}{a:aa}{kvs:List (Key×V)}{k:Key}{u:ae}{A:bY}{E:ae->ao->Prop}
theorem Jb{Q:ae->ao->Prop}(I:Inv X pins σ H s)(e:H a=Z8 (.dK kvs))(h:∀s',Inv X pins σ (upd H a (.dK [])) s'->Q .none s'):aW (aX X.prog X.w) A (vw (.builtin "dict.clear") [.ref a]) Q E s:=by
 obtain⟨z,W,vs,Y,dd⟩:=FC I.hok e;refine mQ mR dd.typeIs PySem.F.entry_dict_clear (PySem.F.args_dict_clear_1 _) (meets_dict_clear (eN X.prog X.w) a) {vs,dd,by rw[<- Y.length];exact z,fun h' Z hs=>h _ ?_};have V:∃q,h'.get? a=Z8 q:=let ⟨q,_,_,hq,_⟩:=Z;⟨q,hq⟩;exact uL (t':=s.toks) I (by rw[e];exact True.intro) hs V (vI (bO _) W .nil Z)
end
def NoSl(i:cL):Prop:=∀Z Y,zg i false Z Y=operate [Z,Y] (As Z Y)
theorem Jc{prog:aL}{w:bA}{A:bY}{E:ae->ao->Prop}{s:ao}{env:Env}{value Z:cL}{pos:Pos}{T id:String}{Q:ae->ao->Prop}
  (M:Mf (.type T) "__getitem__"=pure (Z8 (.builtin id))) (hs:NoSl Z)
  (h:aW (aX prog w) A (fy value env) (fun o V=>aW (aX prog w) A (fy Z env) (fun i Y=>Y.TypeIs o T/\aW (aX prog w) A (As o i) Q E Y) E V) E s) :
  aW (aX prog w) A (fy (.Subscript value Z pos) env) Q E s:=by
 refine Mg (eQ h (fun o V U=>eQ U (fun i Y W=>?_) fun _ _ x=>x) fun _ _ x=>x);obtain⟨O,W⟩:=W;unfold DV;refine au ?_;rw[getitemInPython_of_ne O.not_modules];refine au (wpAny_specialOf O M ?_);have fin:aW (aX prog w) A (zg Z false o i) (fun r s₃=>aW (aX prog w) A (letTemporaryGo value o r >>= fun _=>pure r) Q E s₃) E Y:=by
  rw[hs o i];exact wpAny_operating (eQ W (fun r s₃ h₃=>au (wpAny_letTemporaryGo (bf h₃))) fun _ _ x=>x)
 first
  |exact bf (au fin)
  |exact au (bf (au fin))
  |exact au fin
theorem zA{X:Cx}{pins:List (aa×Obj)}{σ:St}{H:Hp}{s:ao}{a:aa}{y:V}{o:Option V}(I:Inv X pins σ H s)(g:oW H a y o):s.TypeIs (.ref a) "dict":=by
 rcases g with⟨kvs,k,e,_,_⟩|⟨kvs,k,b,e,_,_,_⟩
 ·obtain⟨_,_,vs,_,dd⟩:=zy I.hok e;exact dd.typeIs
 ·obtain⟨_,_,xs,_,dd⟩:=zz I.hok e;exact dd.typeIs
inductive DGI(x y:V)(H:Hp)(Q:VK):Prop where
 |mk(a:aa)(v:V)(hx:x=.ref a)(d:oW H a y (Z8 v))(q:Q v H):DGI x y H Q
def tDGet(td ty:TE):TE:=fun σ H Q=>td σ H fun x H1=>ty σ H1 fun y H2=>DGI x y H2 Q
def tDIn(ty td:TE):TE:=fun σ H Q=>ty σ H fun y H1=>td σ H1 fun x H2=>∃a o,x=.ref a/\oW H2 a y o/\Q (.bl o.isSome) H2
def Jd(ty td:TE):TE:=fun σ H Q=>ty σ H fun y H1=>td σ H1 fun x H2=>∃a o,x=.ref a/\oW H2 a y o/\Q (.bl (!o.isSome)) H2
def sDPut(td ty tv:TE):TS:=fun D σ H=>tv σ H fun v H1=>td σ H1 fun x H2=>ty σ H2 fun y Y=>∃a Z,x=.ref a/\rH Y a y v Z/\D.nx σ Z
section
variable{X:Cx}{o i e value:cL}{pos pos' tpos:Pos}{td ty tv:TE}
theorem qy(O:X.A.units+1<d8)(V:PE X o td)(hi:PE X i ty)(hs:NoSl i):PE X (.Subscript o i pos) (tDGet td ty):=by
 intro pins s σ H Q I h;refine Jc PySem.F.slot_dict_getitem.lookup hs (thn (V pins s σ H _ I h) fun u U ⟨x,H1,M,W,D⟩=>thn (hi pins U σ H1 _ M D) fun iv s2 ⟨y,H2,Y,z,a,v,ex,g,t⟩=>?_);subst ex;obtain rfl:u=Value.ref a:=W;exact{zA Y g,DY O Y g z fun w' s3 J Z=>⟨v,H2,J,Z,t⟩}
theorem FD(U:X.A.units+1<d8)(hi:PE X i ty)(Y:PE X o td):PC X .In i o (tDIn ty td):=by
 intro pins s σ H Q I h;refine thn (hi pins s σ H _ I h) fun iv W ⟨y,H1,O,z,D⟩=>thn (Y pins W σ H1 _ O D) fun u s2 ⟨x,H2,V,Z,a,M,ex,g,t⟩=>?_;subst ex;obtain rfl:u=Value.ref a:=Z;exact d_in U V g z fun s3 J=>{.bl M.isSome,H2,J,Z9,t}
theorem D0(U:X.A.units+1<d8)(hi:PE X i ty)(Y:PE X o td):PC X .NotIn i o (Jd ty td):=by
 intro pins s σ H Q I h;refine thn (hi pins s σ H _ I h) fun iv W ⟨y,H1,O,z,D⟩=>thn (Y pins W σ H1 _ O D) fun u s2 ⟨x,H2,V,Z,a,M,ex,g,t⟩=>?_;subst ex;obtain rfl:u=Value.ref a:=Z;exact Ja U V g z fun s3 J=>{.bl (!M.isSome),H2,J,Z9,t}
theorem kK(hu:X.A.units+1<d8)(t:PE X o td)(hi:PE X i ty)(hv:PE X value tv)(hs:tV value (Z8 (.Subscript o i pos')) pos.line X.env=pure false) :
  PS X (.Assign [.Subscript o i pos'] value pos) (sDPut td ty tv):=by
 intro pins s σ H D I h;refine wpAny_Assign_Subscript (thn (hv pins s σ H _ I h) fun r s1 ⟨v,H1,V,rv,U⟩=>thn (t pins s1 σ H1 _ V U) fun u s2 ⟨x,H2,z,J,M⟩=>thn (hi pins s2 σ H2 _ z M) fun iv s3 ⟨y,H3,I3,O,a,Z,ex,g,Y⟩=>?_) hs;subst ex;obtain rfl:u=Value.ref a:=J;exact DZ hu I3 g O rv fun s4 W=>⟨σ,Z,W,Y⟩
end
theorem zB{P:aL}{w:bA}{H:Hp}(h:cu)(hb:eY<h.objs.size):eB P w H (h.push {cls:=.type "dict",data:=.dict #[]}) h.objs.size (.dK []):=
 {bO _,beq_eq_false_iff_ne.mpr (fX (aR hb)),[],.nil,Au h}
def Mp:TE:=fun _ H Q=>∀p,H p=Z7->Q (.ref p) (upd H p (.dK []))
section
variable{X:Cx}{pos:Pos}
theorem pK:PE X (.Dict [] [] pos) Mp:=fun pins s σ H Q I h=>
 wpAny_Dict_empty {.ref s.heap.objs.size,_,I.laid (a:=s.heap.objs.size) (o:=.dK []) (t':=s.toks) (fun _ _ q=>aK _ q) (aB _) (zB s.heap I.big),Z9,h _ (I.hok.fresh (aB _))}
end
def AY:List (TE×TE)->St->Hp->(List (V×V)->Hp->Prop)->Prop
 | [],_,H,Q=>Q [] H
 |(tk,tv)::r,σ,H,Q=>tk σ H fun x H1=>tv σ H1 fun y H2=>AY r σ H2 fun ps Z=>Q ((x,y)::ps) Z
abbrev VV:List (V×V)->List (ae×ae)->Prop:=aH fun p q=>RelV p.1 q.1/\RelV p.2 q.2
def PPs(X:Cx)(pos:Pos)(keys:List (Option cL))(Z:List cL)(Y:List (TE×TE)):Prop:=
 ∀(pins:List (aa×Obj)) (s:ao) (σ:St) (H:Hp) (Q:List (V×V)->Hp->Prop),Inv X pins σ H s->AY Y σ H Q ->
  aW (aX X.prog X.w) X.A (evalPairs (pairTrees keys Z X.env pos)) (fun vs s'=>∃ps H',Inv X pins σ H' s'/\VV ps vs/\Q ps H') X.xe s
theorem BQ{X:Cx}{pos:Pos}:PPs X pos [] [] []:=fun pins s σ H Q I h=>pairTrees_nil_walk {[],H,I,.nil,h}
theorem zC{X:Cx}{pos:Pos}{k v:cL}{ks:List (Option cL)}{vs:List cL}{tk tv:TE}{Z:List (TE×TE)}(hk:PE X k tk)(J:PE X v tv)(g:PPs X pos ks vs Z) :
  PPs X pos (Z8 k::ks) (v::vs) ((tk,tv)::Z):=fun pins s σ H Q I h=>
 pairTrees_cons_walk (thn (hk pins s σ H _ I h) fun u M ⟨x,H1,D,W,O⟩=>thn (J pins M σ H1 _ D O) fun w2 s2 ⟨y,H2,U,V,q2⟩=>
  thn (g pins s2 σ H2 _ U q2) fun ws s3 ⟨ps,z,t,Y,q3⟩=>{(x,y)::ps,z,t,.cons ⟨W,V⟩ Y,q3})
def jO(kvs more:List (Key×V)):List (Key×V):=more.foldl (fun Z Y=>iW Z Y.1 Y.2) kvs
theorem KV.merge:∀{more:List (Key×V)} {Z:List (Key×ae)} {kvs:List (Key×V)} {vs:List (Key×ae)},KV more Z->KV kvs vs->KV (jO kvs more) (merged vs Z):=by
 intro more Z kvs vs r;unfold KV at r
 induction r generalizing kvs vs with
 |nil=>intro q;exact q
 |@cons p q ps qs h t W=>
  intro Y;have e:KV (iW kvs p.1 p.2) (vF vs q.1 q.2):=by
   have:=Y.put p.1 h.2;rw[<- h.1];exact this
  exact W e
theorem qL:∀(more kvs:List (Key×V)),(jO kvs more).length<=kvs.length+more.length
 | [],kvs=>by show kvs.length<=kvs.length+0;omega
 |p::r,kvs=>by
  have h1:=qL r (iW kvs p.1 p.2);have h2:=lR kvs p.1 p.2;show (jO (iW kvs p.1 p.2) r).length<=_;rw[aU];omega
theorem vJ{P:aL}{w:bA}:∀{kvs:List (Key×V)} {Y:List (ae×ae)},VV (kvs.map fun W=>(kV W.1,W.2)) Y->∃Z,Carries (eN P w) Y Z/\KV kvs Z
 | [],_,r=>by rw[tZ]at r;cases r;exact{[],True.intro,.nil}
 |p::kvs,_,r=>by
  rw[bU]at r
  cases r with
  |@cons a b M bs h t=>
   obtain⟨Z,c,q⟩:=vJ (P:=P) (w:=w) t;obtain⟨O,U⟩:=b;exact{(p.1,U)::Z,{vG h.1,Z9,c},.cons ⟨Z9,h.2⟩ q}
def tDisp(Z:List (TE×TE)):TE:=fun σ H Q=>∀p,H p=Z7->AY Z σ (upd H p (.dK [])) fun ps H2=>H2 p=Z8 (.dK [])/\∃kvs:List (Key×V),ps=kvs.map (fun Y=>(kV Y.1,Y.2))/\kvs.length<=15/\Q (.ref p) (upd H2 p (.dK (jO [] kvs)))
theorem BR{X:Cx}{pos:Pos}{keys:List (Option cL)}{Z:List cL}{W:List (TE×TE)}(h:PPs X pos keys Z W)(Y:keys.all (·.isSome)=true)(t:keys.length=Z.length)(h0:keys≠[])
  (O:keys.length<=15):PE X (.Dict keys Z pos) (tDisp W):=by
 intro pins s σ H Q I q;have g:=I.hok.fresh (aB s.heap.objs.size);have I1:=I.laid (a:=s.heap.objs.size) (o:=.dK []) (h':=s.heap.push {cls:=.type "dict",data:=.dict #[]}) (t':=s.toks) (fun _ _ q=>aK _ q) (aB _) (zB s.heap I.big);refine wpAny_Dict_walk (knd:=eN X.prog X.w) Y t h0 O (thn (h pins _ σ _ _ I1 (q _ g)) fun ws s2 ⟨ps,H2,M,U,e,kvs,ep,lk,q2⟩=>?_);subst ep;obtain⟨J,c,rk⟩:=vJ (P:=X.prog) (w:=X.w) U;obtain⟨z,hd,bt,r0,dd⟩:=FC M.hok e
 cases r0;refine{J,c,dd,fun h' V hs=>{.ref s.heap.objs.size,_,?_,Z9,q2}};have D:(jO [] kvs).length<=aC:=by
  have h1:=qL kvs [];rw[cH]at h1;rw[lH];omega
 have he:∃q,h'.get? s.heap.objs.size=Z8 q:=let ⟨q,_,_,hq,_⟩:=V;⟨q,hq⟩;exact uL M (by rw[e];exact True.intro) hs he (vI D hd (rk.merge .nil) V)
section
variable{X:Cx}{pins:List (aa×Obj)}{σ:St}{H:Hp}{s:ao}{a:aa}{y d:V}{u r:ae}{o:Option V}{A:bY}{E:ae->ao->Prop}
end
section
variable{X:Cx}{o e f:cL}{apos cpos:Pos}{td ty tx:TE}
end
section
variable{X:Cx}{pins:List (aa×Obj)}{σ:St}{H:Hp}{s:ao}{a:aa}{kvs:List (Key×V)}{A:bY}{E:ae->ao->Prop}
end
section
variable{X:Cx}{pins:List (aa×Obj)}{σ:St}{H:Hp}{s:ao}{a:aa}{y:V}{u:ae}{A:bY}{E:ae->ao->Prop}
end
section
variable{X:Cx}
end
section
variable{κ:Type}[DecidableEq κ]
theorem FE{kvs:List (κ×V)}{k:κ}(h:jF kvs k=Z7):¬k∈kvs.map (·.1):=by
 intro m;obtain⟨p,hp,e⟩:=cq.mp m;have q:(kvs.any fun Z=>decide (Z.1=k))=true:=Iw.mpr {p,hp,decide_eq_true e};rw[j7,h]at q;exact absurd q (by simp)
theorem BU{kvs:List (κ×V)}{k:κ}{v:V}(h:jF kvs k=Z8 v):k∈kvs.map (·.1):=by
 have q:(kvs.any fun Z=>decide (Z.1=k))=true:=by
  rw[j7,h]
  all_goals rfl
 obtain⟨p,hp,e⟩:=Iw.mp q;exact cq.mpr {p,hp,of_decide_eq_true e}
theorem yp:∀{l:List κ} {k:κ},l.Nodup->¬k∈l->(l++[k]).Nodup
 | [],k,_,_=>by simp
 |a::r,k,h,hk=>by
  obtain⟨h1,h2⟩:=cC.mp h;show (a::(r++[k])).Nodup;refine cC.mpr {fun m=>?_,yp h2 fun m=>hk (ar.mpr (Or.inr m))}
  rcases cv.mp m with q|q
  ·exact h1 q
  ·exact hk (ar.mpr (Or.inl (aE.mp q).symm))
end
end L2
set_option maxHeartbeats 4000000
namespace L2
open PySem PySem.Spec PyProof.Rows
theorem eB.has{P:aL}{w:bA}{H:Hp}{h:cu}{a:aa}{o:HO}(x:eB P w H h a o):∃Z,h.get? a=Z8 Z:=by
 cases o with
 |lst xs=>obtain⟨_,_,_,_,e⟩:=x;exact{_,e}
 |tup xs=>obtain⟨_,_,_,Z,e,_⟩:=x;exact{_,e}
 |dK kvs=>obtain⟨_,_,_,_,o,_,_,e,_⟩:=x;exact{_,e}
 |dT kvs=>obtain⟨_,_,_,_,o,_,_,e,_⟩:=x;exact{_,e}
 |set S n=>obtain⟨o,_,_,_,e,_⟩:=x;exact{_,e}
 |ins C dx fs=>obtain⟨_,_,_,e,_⟩:=x;exact{_,e}
 |own y=>exact x
 |xd fs=>obtain⟨_,⟨_,_,_,e,_⟩,_⟩:=x;exact{_,e}
 |rng lo hi=>obtain⟨_,_,_,e⟩:=x;exact{_,e}
 |frz Z u=>obtain⟨e,_⟩:=x;exact{_,e}
 |tbl ps=>exact{_,(show h.get? a=Z8 _ from x)}
 |met f y=>exact{_,(show h.get? a=Z8 _ from x)}
 |ext φ=>obtain⟨_,e,_⟩:=x;exact e
theorem HOk.has{P:aL}{w:bA}{H:Hp}{h:cu}(x:HOk P w H h){b:aa}(n:H b≠Z7):∃Z,h.get? b=Z8 Z:=by
 cases z:H b with
 |none=>exact absurd z n
 |some u=>exact (x b u z).has
def FlD(B:cu)(l:List Env)(e:aa)(cls fl:ae)(h:cu):Prop:=
 B.StaysIn h/\B.get? e=Z7/\h.FunFrames B l/\∃Z vs T W Y,h.get? e=Z8 Z/\Z.cls=cls/\Z.dict=Z7/\Z.data=.fields vs/\vs[1]?=Z8 (.ref T)/\B.get? T=Z7/\T≠e/\h.get? T=Z8 W/\W.data=.fields Y/\Y[3]?=Z8 fl
theorem Ea(o:Obj)(f:Array ae->Array ae):(o.mapFields f).dict=o.dict:=by
 obtain⟨c,d,Z,sl⟩:=o
 cases Z<;>rfl
section
variable{M:IG}{A:bY}{E:ae->ao->Prop}{s:ao}{B:cu}{env:Env}{outer l:List Env}{L e:aa}{cls fl:ae}{Q:Unit->ao->Prop}
theorem zD{Y:Obj}{vs:Array ae}{Z:ae}{nx:Bool}(I:A.frames=Z8 (env::outer))(U:s.heap.FunFrames B (env::outer))(hf:env.frame=Z8 L)(J:s.heap.get? e=Z8 Y)(hB:B.StaysIn s.heap)(g:B.get? e=Z7)
  (W:Y.data=.fields vs) (t:1<vs.size) (H:Y.dict=Z7) (k:∀h',FlD B (env::outer) e Y.cls (pj L) h'->s.heap.UpToSlots h'->Q () {s with heap:=h'}) :
  aW M A (do let a <- frameOf env;let pl <- entryPlaceOf L nx;let b <- yq Z a .none (pj L) .none pl;setField (.ref e) 1 b) Q E s:=by
 have ef:e∉(env::outer).filterMap (·.frame):=fun D=>by
  obtain⟨_,o,ho,q⟩:=U.mem D;rw[J]at ho
  cases ho;exact q vs W
 refine au (wpAny_frameOf_fun I U hf fun h1 O=>au (wpAny_entryPlaceOf fun pl V=>?_));unfold yq newFields;refine au (Oh ?_ (V.sizeOk5 _ _ _ _ _));have e1:h1.get? e=Z8 Y:=(O.2.1 e ef).trans J;have b1:B.StaysIn h1:=fun b o z=>(O.2.1 b fun D=>by rw[(U.mem D).1]at z;cases z).trans (hB b o z);have ne:h1.objs.size≠e:=pf (aQ e1);generalize hob:({cls:=.type "traceback",dict:=Z7,data:=.fields ([Z,.ref L,.none,pj L,.none]++(if pl.isEmpty then cz 6 Value.none else pl)).toArray}:Obj)=ob;have e2:(h1.push ob).get? e=Z8 Y:=aK _ e1;have t2:(h1.push ob).get? h1.objs.size=Z8 ob:=cj h1 (by rw[<- hob];rfl);refine AZ e2 W t (k _ ?_ ?_)
 ·have d3:=tf W (·.setIfInBounds 1 (Value.ref h1.objs.size));have keep:∀b o,b≠e->h1.get? b=Z8 o->((h1.push ob).update e (sE (·.setIfInBounds 1 (Value.ref h1.objs.size)))).get? b=Z8 o:=fun b o q z=>by
   rw[fv _ _ (fX q)];exact aK _ z
  refine{fun b o z=>keep b o (fun q=>by rw[q,g]at z;cases z) (b1 b o z),g,U.of_keeps fun b o z q=>?_,_,_,h1.objs.size,ob,_,qx _ e2 (BV d3),Obj.cls_mapFields _ _,(Ea _ _).trans H,d3,by simp[t],b1.fresh,ne,?_,by rw[<- hob],?_}
  ·obtain⟨sl,w⟩:=O.2.2 b o z;exact{_,keep b _ (fun y=>by rw[y,J]at z;cases z;exact q vs W) w,Z9}
  ·rw[fv _ _ (fX ne)];exact t2
  ·first|(simp;done)|(rcases V with rfl|⟨_,_,_,_,_,_,_,rfl⟩<;>simp)
 ·intro b o z q;obtain⟨sl,w⟩:=O.2.2 b o z;refine{sl,?_};rw[fv _ _ (fun y=>by rw[<- y,J]at z;cases z;exact q vs W)];exact aK _ w
theorem uM{T:aa}{W:Obj}{Y:Array ae}{h:cu}(V:h.get? T=Z8 W)(Z:W.data=.fields Y){b:aa}{o:Obj}(hb:h.get? b=Z8 o)(q:∀vs,o.data≠.fields vs):b≠T:=fun y=>by
 rw[y,V]at hb
 cases hb;exact q Y Z
theorem BX(W:A.frames=Z8 (env::outer))(I:env.frame=Z8 L)(x:FlD B (env::outer) e cls .none s.heap)(k:∀h',FlD B (env::outer) e cls (pj L) h'->s.heap.UpToSlots h'->Q () {s with heap:=h'}) :
  aW M A (EX (.ref e) env) Q E s:=by
 obtain⟨hB,g,D,oe,vs,T,oT,ts,O,rfl,V,J,h1,nT,t,Z,dT,U⟩:=x;unfold EX;simp only[I];refine au (zi O J h1 ?_);rw[if_pos (show (Value.ref T != Value.none)=true from by simp)];refine au (zi Z dT U ?_);rw[if_neg (show ¬((Value.none==pj L)=true) from by simp[pj])];refine au (AZ Z dT (lK.mp U).1 ?_);have Y:∀b,b≠T->(s.heap.update T (sE (·.setIfInBounds 3 Value.none))).get? b=s.heap.get? b:=fun b hb=>fv _ _ (fX hb);refine zD (s:={s with heap:=s.heap.update T (sE (·.setIfInBounds 3 Value.none))}) W (D.of_keeps fun b o z q=>{o,(Y b (uM Z dT z q)).trans z,Z9}) I ((Y e (fX t)).trans O)
  (fun b o z=>(Y b fun y=>by rw[y,nT]at z;cases z).trans (hB b o z)) g J (lK.mp h1).1 V fun h' y1 H=>k h' y1 fun b o z q=>H b o ((Y b (uM Z dT z q)).trans z) q
theorem rJ(x:FlD B l e cls fl s.heap)(k:∀h',FlD B l e cls .none h'->s.heap.UpToSlots h'->Q () {s with heap:=h'}):aW M A (setFlight (.ref e) Z7) Q E s:=by
 obtain⟨D,hn,t,oe,vs,T,oT,g,V,hc,W,U,h1,I,O,Z,dT,H⟩:=x;have J:3<g.size:=(lK.mp H).1;have Y:∀b,b≠T->(s.heap.update T (sE (·.setIfInBounds 3 ((Z7:Option aa).elim Value.none fun f=>pj f)))).get? b=s.heap.get? b:=fun b hb=>fv _ _ (fX hb);unfold setFlight;refine au (zi V U h1 ?_);rw[if_pos (show (Value.ref T != Value.none)=true from by simp)];refine AZ Z dT J (k _ {fun b o z=>(Y b fun y=>by rw[y,I]at z;cases z).trans (D b o z),hn,t.of_keeps fun b o z q=>{o,(Y b (uM Z dT z q)).trans z,Z9},oe,vs,T,_,_,(Y e (fX O)).trans V,hc,W,U,h1,I,O,qx _ Z (BV (tf dT _)),tf dT _,by simp[J]}
  fun b o z q=>{o.slots,(Y b (uM Z dT z q)).trans z})
theorem FlD.tail(x:FlD B (env::outer) e cls fl s.heap):FlD B outer e cls fl s.heap:=by
 obtain⟨a,b,⟨_,_,c⟩,d⟩:=x;exact⟨a,b,c,d⟩
theorem FlD.there{h:cu}(x:FlD B l e cls fl h):∃Z,h.get? e=Z8 Z/\Z.cls=cls:=by
 obtain⟨_,_,_,Y,_,_,_,_,W,hc,_⟩:=x;exact⟨Y,W,hc⟩
theorem Eb(Z:A.frames=Z8 (env::outer))(Y:env.frame=Z8 L)(x:FlD B (env::outer) e cls .none s.heap)(k:∀h',FlD B outer e cls .none h'->s.heap.UpToSlots h'->Q () {s with heap:=h'}):aW M A (Ar env (.ref e)) Q E s:=by
 unfold Ar;refine au (BX Z Y x fun h1 x1 u1=>rJ (s:={s with heap:=h1}) x1 fun h2 W u2=>k h2 (FlD.tail (s:={s with heap:=h2}) W) (u1.trans u2))
theorem Je{h:cu}{args:List ae}(Z:A.frames=Z8 (env::outer))(W:env.frame=Z8 L)(V:B.StaysIn h)(U:h.FunFrames B (env::outer))(x:KL h s.heap e cls args)
  (k:∀h',FlD B outer e cls .none h'->s.heap.UpToSlots h'->Q () {s with heap:=h'}):aW M A (Ar env (.ref e)) Q E s:=by
 obtain⟨t,Y,J,ht⟩:=x.there;have en:B.get? e=Z7:=by
  cases q:B.get? e with
  |none=>rfl
  |some o=>have z:=V e o q;rw[x.new]at z;cases z
 unfold Ar EX;simp only[W];refine au (au (zi (x:=Value.none) Y rfl rfl ?_));rw[if_neg (show ¬((Value.none != Value.none)=true) by decide)];exact zD Z (U.of_keeps fun b o z _=>{o,x.keeps b o z,Z9}) W Y (fun b o z=>x.keeps b o (V b o z)) en rfl (show 1<6 by decide) rfl fun h1 x1 u1=>rJ (s:={s with heap:=h1}) x1 fun h2 O u2=>k h2 (FlD.tail (s:={s with heap:=h2}) O) (u1.trans u2)
end
def Fly(B:cu)(stk:List Env)(Z C:aa)(h:cu):Prop:=FlD B stk Z (.ref C) .none h
def CXo(P:aL)(w:bA):CXT:=fun outer H s E e s'=>
 ∃(Z C:aa) (H':Hp) (B:cu),e=.ref Z/\E (.ref C) Z7 H'/\s'.os=s.os/\oZ s'.gens/\Un (frs outer) [] H H' s.heap s'.heap/\HOk P w H' s'.heap/\Fly B outer Z C s'.heap /\
  ∀b o,(H' b≠Z7\/∃o',s.heap.get? b=Z8 o')->b∉frs outer->s'.heap.get? b=Z8 o->B.get? b=Z8 o
theorem Un.left{fs stk:List aa}{H₀ H:Hp}{h₀ h h' B:cu}(u:Un fs [] H₀ H h₀ h)(U:B.StaysIn h')(Z:∀b o,(H b≠Z7\/∃o',h₀.get? b=Z8 o')->b∉stk->h.get? b=Z8 o->B.get? b=Z8 o)
  (Y:∀b o,h₀.get? b=Z8 o->b∈stk->b∈fs) (sl:∀b∈fs,∀o,h.get? b=Z8 o->∃sl,h'.get? b=Z8 {o with slots:=sl}):Un fs [] H₀ H h₀ h' where
 keep:=fun b o e n hb hx=>U b o (Z b o (.inr ⟨o,e⟩) (fun z=>hb (Y b o e z)) (u.keep b o e n hb hx))
 slot:=fun b o e n hb hx=>by
  obtain⟨O,e1⟩:=u.slot b o e n hb hx;obtain⟨s2,W⟩:=sl b hb _ e1;exact⟨s2,W⟩
 free:=u.free
 there:=fun b o e hx=>by
  obtain⟨o',V⟩:=u.there b o e hx
  by_cases hb:b∈stk
  ·obtain⟨s2,W⟩:=sl b (Y b o e hb) _ V;exact{_,W}
  ·exact{o',U b o' (Z b o' (.inr ⟨o,e⟩) hb V)}
 tups:=u.tups
 frzs:=u.frzs
 tbls:=u.tbls
theorem HOk.left{P:aL}{w:bA}{H:Hp}{h h' B:cu}(ok:HOk P w H h)(Y:B.StaysIn h')(Z:∀b o,H b≠Z7->h.get? b=Z8 o->B.get? b=Z8 o):HOk P w H h':=fun a o e=>
 (ok a o e).stay (fun b u hb q=>Y b u (Z b u (by
  rcases hb with z|z
  ·rw[z,e];simp
  ·rw[z];simp) q)) (fun _ q=>q) (fun _ _ q=>q)
section
variable{X:Cx}{pins:List (aa×Obj)}{σ:St}{H:Hp}{s:ao}{E E':XK}
theorem Inv.oldfs(I:Inv X pins σ H s):∀b o,X.s₀.heap.get? b=Z8 o->b∈frs X.stack->b∈X.fs:=fun b o e hb=>by
 rcases ar.mp (I.stkSub b hb) with z|z
 ·exact absurd (aZ (aQ e) I.ok.above) (by rw[z];exact hU _)
 ·exact z
theorem Inv.ntr(I:Inv X pins σ H s):∀b,H b≠Z7->b∉frs X.stack:=fun b Z z=>Z (I.stkFree b z)
theorem Inv.slotsOf(I:Inv X pins σ H s){h':cu}(sm:s.heap.UpToSlots h'):∀b∈X.fs,∀o,s.heap.get? b=Z8 o->∃sl,h'.get? b=Z8 {o with slots:=sl}:=fun b hb o e=>by
 obtain⟨_,o',Z,Y⟩:=I.funs.mem hb;rw[e]at Z
 cases Z;exact sm b o e Y
structure t8(X:Cx)(E:XK):Prop where
 stk:X.stack=X.env::X.outer
 fr:X.env.frame=Z8 X.env.locals
 ex:X.ex=[]
 xe:X.xe=fun e s'=>aW (aX X.prog X.w) X.A (Ar X.env e) (fun _ s''=>CXo X.prog X.w X.outer X.H₀ X.s₀ E e s'') (fun e' s''=>CXo X.prog X.w X.outer X.H₀ X.s₀ E e' s'') s'
theorem dW{P:aL}{w:bA}{K:af}{mg:Str->Option ae}{base:cu}{N:List Str}{Y:Str}{Z:lG}{f:aa}{W:ae}{A:bY}{outer:List Env} :
  t8 (sX (CXo P w) P w K mg base N Y Z f W A outer s H E) E:=⟨Z9,Z9,Z9,Z9⟩
theorem t8.raises(hb:t8 X E)(I:Inv X pins σ H s){h':cu}{e C:aa}{vs:List ae}(hx:KL s.heap h' e (.ref C) vs)(q:E (.ref C) Z7 H):X.xe (.ref e) {s with heap:=h'}:=by
 rw[hb.xe];have U:X.A.frames=Z8 (X.env::X.outer):=by rw[I.ok.frames,hb.stk]
 have O:∀env∈X.stack,∀a,env.frame=Z8 a->a∈frs X.stack:=fun env g a ha=>sC.mpr ⟨env,g,ha⟩;have fl:s.heap.FunFrames (oM s.heap (frs X.stack)) (X.env::X.outer):=by
  have z:=PySem.W.funFrames_hide I.stack O;rw[hb.stk]at z |-;exact z
 have D:Un X.fs [] X.H₀ H X.s₀.heap s.heap:=by
  have z:=I.base;rw[hb.ex]at z;exact z
 have Z:∀b o,b∉frs X.stack->s.heap.get? b=Z8 o->(oM s.heap (frs X.stack)).get? b=Z8 o:=fun b o n e=>Ao _ e n;refine Je (B:=oM s.heap (frs X.stack)) (h:=s.heap) U hb.fr (fun b o z=>Az _ z) fl hx fun Y x1 x4=>?_;have sm:s.heap.UpToSlots Y:=(Oi hx.keeps).trans x4;refine{e,C,H,_,Z9,q,I.os,I.bare,D.left (stk:=frs X.stack) x1.1 (fun b o _ n e=>Z b o n e) I.oldfs (I.slotsOf sm),I.hok.left x1.1 (fun b o n e=>Z b o (I.ntr b n) e),x1,?_};intro b o c n e1;have J:b∉frs X.stack:=by
  rcases c with c|⟨o',c⟩
  ·exact I.ntr b c
  ·exact fun z=>n (I.oldfs b o' c z)
 obtain⟨V,M⟩:∃V,s.heap.get? b=Z8 V:=by
  rcases c with c|⟨o',c⟩
  ·exact I.hok.has c
  ·exact D.there b o' c (by simp)
 have e3:Y.get? b=Z8 V:=x1.1 b V (Z b V J M);have t:Y.get? b=Z8 o:=e1;rw[e3]at t
 cases t;exact Z b _ J M
theorem t8.passes(hb:t8 X E)(hE:∀c d H,E' c d H->E c d H):kS (CXo X.prog X.w) X E':=fun pins σ H s e s' I h=>by
 obtain⟨t,C,H',B,rfl,q,os,W,un,D,fl,U⟩:=h;have J:Inv X pins σ H' s':=I.call' (ch:=[]) os un D W (fun b z=>absurd z (by simp));rw[hb.xe];have M:X.A.frames=Z8 (X.env::X.outer):=by rw[I.ok.frames,hb.stk]
 have ub:Un X.fs [] X.H₀ H' X.s₀.heap s'.heap:=by
  have z:=J.base;rw[hb.ex]at z;exact z
 have ui:Un X.fs [] X.H₀ H X.s₀.heap s.heap:=by
  have z:=I.base;rw[hb.ex]at z;exact z
 have Z:∀b o,(H' b≠Z7\/∃o',X.s₀.heap.get? b=Z8 o')->b∉frs X.stack->s'.heap.get? b=Z8 o->B.get? b=Z8 o:=fun b o c n e=>
  U b o (c.imp_right fun⟨o',z⟩=>ui.there b o' z (by simp)) n e
 have O:FlD B (X.env::X.outer) t (.ref C) .none s'.heap:=by
  rw[<- hb.stk];exact fl
 refine Eb M hb.fr O fun V x1 x2=>?_;refine{t,C,H',B,Z9,hE _ _ _ q,J.os,J.bare,ub.left (stk:=frs X.stack) x1.1 Z J.oldfs (J.slotsOf x2),J.hok.left x1.1 (fun b o n e=>Z b o (.inl n) (J.ntr b n) e),x1,?_};intro b o c n e1;have nb:b∉frs X.stack:=by
  rcases c with c|⟨o',c⟩
  ·exact J.ntr b c
  ·exact fun z=>n (J.oldfs b o' c z)
 obtain⟨Y,g⟩:∃Y,s'.heap.get? b=Z8 Y:=by
  rcases c with c|⟨o',c⟩
  ·exact J.hok.has c
  ·exact ub.there b o' c (by simp)
 have e3:V.get? b=Z8 Y:=x1.1 b Y (Z b Y c nb g);have e4:V.get? b=Z8 o:=e1;rw[e3]at e4
 cases e4;exact Z b _ c nb g
end
section
variable{X:Cx}{E:XK}{x:Str}{C:aa}{np cpos pos:Pos}{e₀:cL}{rest:List cL}{ta:TA}{K:af}{h:cu}
theorem Jf{U:List ae}{Z:String}(X:K.In h)(q:cX K C U Z=true) :
  ∃bm N nm q bs hdct sn sub ab col dd k0 k1 k2 k3 k5 mN,h.get? C=Z8 (excClassObj nm q C N bs bm hdct sn sub ab col dd k0 k1 k2 k3 k5 Z)/\h.Ns N mN/\mN "__init__"=Z7/\OwnTail h U bm:=by
 unfold cX at q
 split at q
 ·rename_i dd cd sl ho
  split at q
  ·rename_i C' bm k0 k1 k2 k3 n k5 hm hs
   simp only[uN,beq_iff_eq,Bool.not_eq_true']at q;obtain⟨⟨⟨⟨⟨rfl,rfl⟩,Y⟩,ht⟩,V⟩,O⟩:=q;obtain⟨nm,bs,I,ns,qn,H,sn,sub,ab,col,J⟩:=cd;dsimp only at hm Y V O;subst hm Y;have e:sl=#[k0,k1,k2,k3,Z8 (.builtin n),k5]:=by
    obtain⟨l⟩:=sl;have M:l=[k0,k1,k2,k3,Z8 (.builtin n),k5]:=hs;rw[M]
   subst e;exact{bm,ns,nm,qn,bs,H,sn,sub,ab,col,dd,k0,k1,k2,k3,k5,_,X _ _ ho,.of_isNs (PySem.W.isNs_of_in X V),PySem.W.nsMap_none_of_in X V O,PySem.W.tail_of_in X ht}
  ·cases q
 ·cases q
def pO:List ae:=[.type "ValueError",.type "Exception",.type "BaseException",.type "object"]
def Mq(C:aa)(E:XK)(ta:TA):TS:=fun _ σ H=>ta σ H fun vs H1=>vs.length<=aC/\E (.ref C) Z7 H1
theorem j8(hb:t8 X E)(hc:X.calm=true)(t:Gl X x)(Y:X.mg x=Z8 (.ref C))(hx:cX X.K C pO "ValueError.__new__"=true)(ha:PA X (e₀::rest) ta)
  (O:(x==("__debug__":Str))=false:=by decide) (U:cw (e₀::rest) X.env=(false,fy e₀ X.env)::cw rest X.env:=by rfl) (W:(jf cpos (cw rest X.env)).any (·.1)=false:=by rfl) :
  PS X (.Raise (Z8 (.Call (.Name x np) (e₀::rest) [] cpos)) Z7 pos) (Mq C E ta):=by
 intro pins s σ H D I h;obtain⟨bm,N,nm,q,bs,hdct,sn,sub,ab,col,dd,k0,k1,k2,k3,k5,mN,J,M,V,T⟩:=Jf I.ok.mod.kin hx;have base:pO.contains (.type "BaseException")=true:=F.excBase_ValueError.hasBase;refine wpAny_Raise_call_subT (C:=C) (nm:=nm) (q:=q) (N:=N) (bs:=bs) (bm:=bm) (hdct:=hdct) (sn:=sn) (sub:=sub) (ab:=ab) (col:=col) (dd:=dd) (k0:=k0) (k1:=k1) (k2:=k2) (k3:=k3) (k5:=k5)
  F.excBase_ValueError (mN:=mN) (T.hasType base) (I.ok.hd hc) (by rw[U];show (false||(jf cpos (cw rest X.env)).any (·.1))=false;rw[W];rfl) V (rB I t Y {Z9,?_} O)
 have h1:=ha cpos pins s σ H _ I h;rw[U]at h1 |-;refine AU (eQ h1 (fun us s2 z=>?_) fun _ _ y=>y);obtain⟨vs,H1,Z,r,g,q1⟩:=z;exact{Z9,by rw[<- r.length];exact g,Z.bk _ _ J,M.keeps Z.bk,T.keeps Z.bk,fun h' e Y=>hb.raises Z Y q1}
end
section
variable{X:Cx}{pins:List (aa×Obj)}{σ:St}{H:Hp}{s:ao}{T:aa->St->Hp->Prop}
def yt(X:Cx)(pins:List (aa×Obj))(H:Hp)(B h:cu):Prop:=
 ∀b o,(H b≠Z7\/(b∉X.ex/\∃o',X.s₀.heap.get? b=Z8 o')\/∃p∈X.pn++pins,p.1=b)->b∉frs X.stack->h.get? b=Z8 o->B.get? b=Z8 o
def tryW(X:Cx)(pins:List (aa×Obj))(T:aa->St->Hp->Prop):ae->ao->Prop:=fun e s'=>
 ∃Z C B σ H,e=.ref Z/\Inv X pins σ H s'/\Fly B X.stack Z C s'.heap/\yt X pins H B s'.heap/\T C σ H
abbrev Cx.tr(X:Cx)(pins:List (aa×Obj))(T:aa->St->Hp->Prop):Cx:={X with xe:=tryW X pins T,pn:=X.pn++pins}
theorem Inv.tr(I:Inv X pins σ H s)(T:aa->St->Hp->Prop):Inv (X.tr pins T) [] σ H s:=
 ⟨⟨I.ok.mod,I.ok.kind,I.ok.glob,I.ok.blt,I.ok.above,I.ok.inj,I.ok.has,I.ok.cab,I.ok.hd,I.ok.frames,I.ok.stk,I.ok.exf,I.ok.bs,I.ok.bsz,I.ok.noex,I.ok.exfs,I.ok.funs,I.ok.frf⟩,I.os,I.bare,I.base,I.loc,I.cell,I.free,I.freeC,
  fun p hp=>I.pin p (by simpa using hp),I.hok,I.len⟩
theorem Inv.untr{Z:List (aa×Obj)}(I:Inv (X.tr pins T) Z σ H s):Inv X pins σ H s:=
 ⟨⟨I.ok.mod,I.ok.kind,I.ok.glob,I.ok.blt,I.ok.above,I.ok.inj,I.ok.has,I.ok.cab,I.ok.hd,I.ok.frames,I.ok.stk,I.ok.exf,I.ok.bs,I.ok.bsz,I.ok.noex,I.ok.exfs,I.ok.funs,I.ok.frf⟩,I.os,I.bare,I.base,I.loc,I.cell,I.free,I.freeC,
  fun p hp=>I.pin p (gU _ hp),I.hok,I.len⟩
theorem BY{h h':cu}{c:aa}{v:Option ae}(x:h.IsCell c v)(sm:h.UpToSlots h'):h'.IsCell c v:=by
 obtain⟨o,Y,Z⟩:=x;obtain⟨sl,e⟩:=sm c o Y (fun vs q=>by rw[Z]at q;cases q);exact{_,e,Z}
theorem Inv.landed{B h':cu}(I:Inv X pins σ H s)(W:B.StaysIn h')(Z:yt X pins H B s.heap)(sm:s.heap.UpToSlots h'):Inv X pins σ H {s with heap:=h'}:=by
 refine{I.ok,I.os,I.bare,{fun b o e n hb hx=>?_,fun b o e n hb hx=>?_,I.base.free,fun b o e hx=>?_,I.base.tups,I.base.frzs,I.base.tbls},?_,fun x c e=>?_,I.free,I.freeC,fun p hp=>?_,I.hok.left W (fun b o n e=>Z b o (.inl n) (I.ntr b n) e),I.len}
 ·exact W b o (Z b o (.inr (.inl ⟨hx,o,e⟩)) (fun z=>hb (I.oldfs b o e z)) (I.base.keep b o e n hb hx))
 ·obtain⟨M,e1⟩:=I.base.slot b o e n hb hx;obtain⟨s2,Y⟩:=I.slotsOf sm b hb _ e1;exact⟨s2,Y⟩
 ·obtain⟨o',V⟩:=I.base.there b o e hx
  by_cases hb:b∈frs X.stack
  ·obtain⟨s2,Y⟩:=I.slotsOf sm b (I.oldfs b o e hb) _ V;exact{_,Y}
  ·exact{o',W b o' (Z b o' (.inr (.inl ⟨hx,o,e⟩)) hb V)}
 ·obtain⟨m,O,U⟩:=I.loc;refine{m,sm.ns O,fun i x v e1 Y e3=>?_};obtain⟨u,r,l⟩:=U i x v e1 Y e3;refine{u,r,?_}
  rcases l with l|⟨k,c,e,l⟩
  ·exact .inl l
  ·exact .inr {k,c,e,BY l sm}
 ·obtain⟨v,q⟩:=I.cell x c e;exact{v,BY q sm}
 ·obtain⟨e,n,l,f,d⟩:=I.pin p hp;exact{W _ _ (Z p.1 p.2 (.inr (.inr ⟨p,hp,Z9⟩)) (fun z=>(ar.mp (I.stkSub _ z)).elim l f) e),n,l,f,d}
theorem yt.land{B h':cu}(I:Inv X pins σ H s)(V:B.StaysIn h')(Z:yt X pins H B s.heap):yt X pins H B h':=fun b o c n e=>by
 obtain⟨Y,e1⟩:∃Y,s.heap.get? b=Z8 Y:=by
  rcases c with c|⟨hx,o',c⟩|⟨p,hp,rfl⟩
  ·exact I.hok.has c
  ·exact I.base.there b o' c hx
  ·exact{_,(I.pin p hp).1}
 have W:=V b Y (Z b Y c n e1);rw[e]at W
 cases W;exact Z b _ c n e1
abbrev Cx.hdl(X:Cx)(Z:aa):Cx:={X with A:=X.A.mark (Z8 (.ref Z)),calm:=false,xe:=fun _ _=>False}
theorem Inv.hdl(I:Inv X pins σ H s)(Z:aa):Inv (X.hdl Z) pins σ H s:=
 ⟨{I.ok.mod,I.ok.kind,I.ok.glob,I.ok.blt,I.ok.above,I.ok.inj,I.ok.has,I.ok.cab,fun z=>uO z,I.ok.frames,I.ok.stk,I.ok.exf,I.ok.bs,I.ok.bsz,I.ok.noex,I.ok.exfs,I.ok.funs,I.ok.frf},I.os,I.bare,I.base,I.loc,I.cell,I.free,I.freeC,
  I.pin,I.hok,I.len⟩
theorem Inv.unhdl{Z:aa}(ok:X.Ok)(I:Inv (X.hdl Z) pins σ H s):Inv X pins σ H s:=⟨ok,I.os,I.bare,I.base,I.loc,I.cell,I.free,I.freeC,I.pin,I.hok,I.len⟩
abbrev TH:=aa->TS
def PHs(X:Cx)(hs:List uP)(th:TH):Prop:=
 ∀(pins:List (aa×Obj)) (s:ao) (σ:St) (H:Hp) (D:mJ) (Z C:aa) (B:cu),Inv X pins σ H s->Fly B X.stack Z C s.heap->yt X pins H B s.heap->th C D σ H ->
  aW (aX X.prog X.w) X.A (handleBy (.ref Z) X.env hs) (SP X pins D) X.xe s
def thNil:TH:=fun _ _ _ _=>False
theorem Jg:PHs X [] thNil:=fun _ _ _ _ _ _ _ _ _ _ _ h=>h.elim
def BZ(CX:CXT)(X:Cx)(E:St->XK):Prop:=∀(pins:List (aa×Obj)) (σ:St) (H:Hp) (s:ao) (e:ae) (s':ao),Inv X pins σ H s->CX X.stack H s (E σ) e s'->X.xe e s'
def tryE(T:aa->St->Hp->Prop):St->XK:=fun σ c _ H=>∃C,c=.ref C/\T C σ H
theorem A0:BZ (CXo X.prog X.w) (X.tr pins T) (tryE T):=fun Z σ H s e s' I h=>by
 obtain⟨U,C,H',B,rfl,⟨g,D,q⟩,O,Y,un,V,fl,W⟩:=h
 cases D;have J:Inv (X.tr pins T) Z σ H' s':=I.call' (ch:=[]) O un V Y (fun b z=>absurd z (by simp));refine{U,C,B,σ,H',Z9,J.untr,fl,fun b o c n e=>W b o ?_ n e,q}
 rcases c with c|⟨t,o',M⟩|⟨p,hp,rfl⟩
 ·exact .inl c
 ·exact .inr (I.base.there b o' M t)
 ·exact .inr {_,(I.pin p (gU _ hp)).1}
def Mr(sp:Sp)(E:St->XK)(t:TA):TE:=fun σ H Q=>t σ H fun vs H1=>sp vs H1 Q (E σ)
variable{CX:CXT}{k:Nat}{f:aa}{fd:bS}{ps:List Str}{sp:Sp}{E:St->XK}{x:Str}{p pos:Pos}{e:cL}{es:List cL}{t:TA}
theorem FG(F:bh X.prog X.w X.K X.mg X.base CX k f fd ps sp)(g:cZ k X.A)(M:Gl X x)(D:X.mg x=Z8 (.ref f))(hk:gz X.K (.ref f)=true)(hb:Binds X.K fd ps [])(hx:BZ CX X E)(ha:PA X (e::es) t)
  (V:(x==("__debug__":Str))=false:=by decide) (O:cw (e::es) X.env=(false,fy e X.env)::cw es X.env:=by rfl) (U:(jf pos (cw es X.env)).any (·.1)=false:=by rfl) :
  PE X (.Call (.Name x p) (e::es) [] pos) (Mr sp E t):=by
 intro pins s σ H Q I h;refine gR (rB I M D ?_ V);refine kT (h₀:=X.base) I.ok.mod.kin hk (thn (ha pos pins s σ H _ I h) fun us W z=>?_) O U;obtain⟨vs,H1,Z,r,q⟩:=z;refine{Z.kIn,?_};have J:(us++[]).length=ps.length:=by
  rw[cB,<- r.length];exact F.len _ _ _ _ q
 have Y:=hb W us Z.kIn J;rw[cB]at Y;refine AO (mO (F.run X.A X.stack W H1 {us,[]} us vs Q (E σ) g Z.env0 Y r q) fun r s' hq=>?_)
 cases r with
 |error e=>exact hx pins σ H1 W e s' Z hq
 |ok fl=>
  cases fl with
  |ret u=>exact Z.after hq
  |next=>exact cP hq
  |brk=>exact cP hq
  |cont=>exact cP hq
end
theorem Fun.okX{P:aL}{w:bA}{K:af}{mg:Str->Option ae}{base:cu}{x Z:Str}{st:cU}{f:aa}{fd:bS}{N ps:List Str}{k:Nat}{sp:Sp}(F:Fun K x Z st f fd)(S:bK N ps (aN st))(len:∀vs H Q E,sp vs H Q E->vs.length=ps.length)
  (W:∀(Y:ae) (A:bY) (outer:List Env) (s:ao) (H:Hp) (vs:List V) (Q:VK) (E:XK),cZ k (A.deeper (sY Z (aN st) s.heap.objs.size f Y))->sp vs H Q E ->
   ∃t,PSs (sX (CXo P w) P w K mg base N Z (aN st) f Y A outer s H E) (jb st) t/\t {nx:=fun _ H'=>Q .non H',rt:=Q} (start N vs) H):bh P w K mg base (CXo P w) (k+1) f fd ps sp:=by
 obtain⟨g,od,kV,I,z,an,Y,ct,M,rfl,J,U⟩:=F.ex;exact KI J U S len fun A outer s H vs Q E D O=>W Y A outer s H vs Q E D O
theorem yu{prog:aL}{w:bA}{A:bY}{R:Md->ao->Prop}{s:ao}{V Z W:cL}{U:List cL}{Y:lG}{pos:Pos}{it O:ae}{env:Env}(J:Nat->ao->Prop)
  (turn:∀n s,J n s->aW (aX prog w) A (pyNext it) (fun r M=>match r with
   |none=>R (.ok .next) M
   |some v=>aW (aX prog w) A (rp Z it v) (fun _ s2=>aW (aX prog w) A (ye Z env v) (fun _ H=>
     aW (aX prog w) A (forIn U true fun c r=>if r=true then do let ok <- E4 c env (fy c env);pure (ForInStep.yield ok) else pure (ForInStep.yield r)) (fun ok I=>
      if ok=true then aW (aX prog w) A (fy V env) (fun x g=>aW (aX prog w) A (vw (.builtin "list.append") [O,x]) (fun _ D=>∃m,m<n/\J m D) (fun _ _=>False) g) (fun _ _=>False) I
      else ∃m,m<n/\J m I) (fun _ _=>False) H) (fun _ _=>False) s2) (fun _ _=>False) M) (fun _ _=>False) s)
  (n:Nat) (h:J n s):o5 (aX prog w) A (.compLoop (.ListComp V [{Z,W,U,0}] Y pos) 0 it O env) R s:=by
 refine codeAny_loop rfl J (fun n s hI=>?_) n h;show aW _ A ((compTurn (.ListComp V [{Z,W,U,0}] Y pos) 0 it O env).onRaise
  (fun x=>do EX x env;theTreesLotGoes x)) _ _ s
 refine wpAny_noted ?_;rw[compTurn_list];refine au (Dv (au (eQ (turn n s hI) (fun r M h1=>?_) fun _ _ z=>z.elim)))
 cases r with
 |none=>exact bf h1
 |some v=>
  refine au (eQ h1 (fun _ s2 h2=>?_) fun _ _ z=>z.elim);refine au (eQ h2 (fun _ H h3=>?_) fun _ _ z=>z.elim);refine au (eQ h3 (fun ok I t=>?_) fun _ _ z=>z.elim)
  cases ok with
  |false=>exact bf ⟨Z9,t⟩
  |true=>
   refine au (au (eQ t (fun x g h5=>?_) fun _ _ z=>z.elim));exact au (eQ h5 (fun _ D h6=>bf (bf ⟨Z9,h6⟩)) fun _ _ z=>z.elim)
theorem zE{env:Env}:∀{names:List (Str×kD)} {x:Str},
  (names.map fun (n,k)=>if (k==NameKind.free&&env.scope.kind==.function&&env.kindOf n==Z8 .cell) then (n,NameKind.cell) else (n,k)).lookup x=Z8 .local->names.lookup x=Z8 .local
 | [],_,h=>by simp at h
 |(n,k)::r,x,h=>by
  have Z:=@zE env r x;rw[bU]at h;dsimp only at h
  by_cases hc:(k==NameKind.free&&env.scope.kind==.function&&env.kindOf n==Z8 .cell)=true
  ·rw[if_pos hc]at h
   cases hx:x==n with
   |true=>simp[cA,hx]at h
   |false=>
    simp only[cA,hx]at h |-;exact Z h
  ·rw[if_neg hc]at h
   cases hx:x==n with
   |true=>
    simp only[cA,hx]at h |-;exact h
   |false=>
    simp only[cA,hx]at h |-;exact Z h
theorem yv{env:Env}:∀{names:List (Str×kD)} {x:Str},
  ((names.map fun (n,k)=>if (k==NameKind.free&&env.scope.kind==.function&&env.kindOf n==Z8 .cell) then (n,NameKind.cell) else (n,k)).lookup x=Z8 .cell \/
   (names.map fun (n,k)=>if (k==NameKind.free&&env.scope.kind==.function&&env.kindOf n==Z8 .cell) then (n,NameKind.cell) else (n,k)).lookup x=Z8 .free)->names.lookup x=Z8 .cell\/names.lookup x=Z8 .free
 | [],_,h=>by simp at h
 |(n,k)::r,x,h=>by
  have Z:=@yv env r x;rw[bU]at h;dsimp only at h
  by_cases hc:(k==NameKind.free&&env.scope.kind==.function&&env.kindOf n==Z8 .cell)=true
  ·rw[if_pos hc]at h;have hk:k=.free:=by
    have z:=(qM.mp (qM.mp hc).1).1;exact eq_of_beq z
   cases hx:x==n with
   |true=>
    simp only[cA,hx];rw[hk];exact .inr rfl
   |false=>
    simp only[cA,hx]at h |-;exact Z h
  ·rw[if_neg hc]at h
   cases hx:x==n with
   |true=>
    simp only[cA,hx]at h |-;exact h
   |false=>
    simp only[cA,hx]at h |-;exact Z h
def pP(env:Env):List (Str×kD)->List (Str×aa)->List (Str×aa)
 | [],Z=>Z
 |(n,k)::r,Z=>pP env r (if k=.free then (match env.cells.lookup n with|some c=>(n,c)::Z|none=>Z) else Z)
theorem zF{env:Env}:∀(names:List (Str×kD)) (Z:List (Str×aa)),(∀y∈names,y.2=.free->∃c,env.cells.lookup y.1=Z8 c) ->
  (forIn names Z fun x r=>(do
   if (x.2==NameKind.free)=true then do
    let c <- cellOf env x.1
    pure (ForInStep.yield ((x.1,c)::r))
   else pure (ForInStep.yield r):Sem (ForInStep (List (Str×aa)))))=(pure (pP env names Z):Sem (List (Str×aa)))
 | [],Z,_=>rfl
 |(n,k)::r,Z,h=>by
  have V:=fun W=>zF r W (fun y hy=>h y (ah _ hy));rw[List.forIn_cons]
  by_cases hk:k=.free
  ·subst hk;obtain⟨c,hc⟩:=h _ ax rfl;have e1:cellOf env n=pure c:=by
    unfold cellOf;rw[show env.cells.lookup n=Z8 c from hc]
   have Y:pP env ((n,.free)::r) Z=pP env r ((n,c)::Z):=by
    show pP env r (if NameKind.free=.free then (match env.cells.lookup n with|some c=>(n,c)::Z|none=>Z) else Z)=_;rw[if_pos rfl,show env.cells.lookup n=Z8 c from hc]
   rw[Y,<- V];simp[e1]
  ·have Y:pP env ((n,k)::r) Z=pP env r Z:=by
    show pP env r (if k=.free then _ else Z)=_;rw[if_neg hk]
   rw[Y,<- V];have e3:(k==NameKind.free)=false:=by
    cases k<;>first|rfl|exact absurd rfl hk
   simp[e3]
theorem zG{env:Env}:∀{names:List (Str×kD)} {Y:List (Str×aa)} {n:Str} {c:aa},(∀n c,Y.lookup n=Z8 c->env.cells.lookup n=Z8 c)->(pP env names Y).lookup n=Z8 c->env.cells.lookup n=Z8 c
 | [],_,_,_,h,e=>h _ _ e
 |(m,k)::r,Y,n,c,h,e=>by
  refine zG (names:=r) (fun V W Z=>?_) e
  by_cases hk:k=.free
  ·rw[if_pos hk]at Z
   cases hm:env.cells.lookup m with
   |none=>
    rw[hm]at Z;exact h _ _ Z
   |some d=>
    rw[hm]at Z;dsimp only at Z;rw[cA]at Z
    split at Z
    ·rename_i z
     rw[eq_of_beq z,hm];exact Z
    ·exact h _ _ Z
  ·rw[if_neg hk]at Z;exact h _ _ Z
theorem xx{env:Env}:∀(names:List (Str×kD)) (Z:List (Str×aa)) (n:Str),(∃c,Z.lookup n=Z8 c)->∃c,(pP env names Z).lookup n=Z8 c
 | [],_,_,h=>h
 |(m,k)::r,Z,n,h=>by
  refine xx r _ n ?_
  by_cases hk:k=.free
  ·rw[if_pos hk]
   cases hm:env.cells.lookup m with
   |none=>exact h
   |some d=>
    dsimp only;rw[cA]
    split
    ·exact{_,Z9}
    ·exact h
  ·rw[if_neg hk];exact h
theorem zH{env:Env}:∀{names:List (Str×kD)} {Z:List (Str×aa)} {n:Str},(n,NameKind.free)∈names->(∃c,env.cells.lookup n=Z8 c)->∃c,(pP env names Z).lookup n=Z8 c
 | [],_,_,h,_=>by cases h
 |(m,k)::r,Z,n,h,hc=>by
  rcases ar.mp h with e|e
  ·obtain⟨e1,Y⟩:=Prod.mk.inj e;subst e1 Y;obtain⟨c,hc⟩:=hc;refine xx r _ n {c,?_};rw[if_pos rfl,hc];dsimp only;rw[cA,beq_self_eq_true]
  ·exact zH (names:=r) e hc
structure iC(X:Cx)(scope:lG)(NN:List Str):Prop where
 nocell:∀y∈scope.names,y.2≠.cell
 kind:scope.kind=.function
 names:∀y∈scope.names,y.2=.local->scope.names.lookup y.1=Z8 .local
 far:∀y∈scope.names,y.2=.free->X.env.kindOf y.1=Z8 .cell\/X.env.kindOf y.1=Z8 .free
 len:NN.length=X.N.length
 apart:∀(i:Nat) (n:Str),NN[i]?=Z8 n->scope.names.lookup n≠Z8 .local/\(X.N[i]?=Z8 n\/scope.names.lookup n=Z7)
theorem iC.closed{X:Cx}{Z:lG}(W:∀y∈Z.names,y.2≠.free)(hc:∀y∈Z.names,y.2≠.cell)(hk:Z.kind=.function)(Y:∀y∈Z.names,y.2=.local->Z.names.lookup y.1=Z8 .local)
  (ha:∀n∈X.N,Z.names.lookup n≠Z8 .local):iC X Z X.N where
 nocell:=hc
 kind:=hk
 names:=Y
 far:=fun y hy e=>absurd e (W y hy)
 len:=rfl
 apart:=fun i n e=>{ha n (bD e),.inl e}
theorem iC.open{X:Cx}{Z:lG}{NN N:List Str}{sc:lG}(V:X.N=N)(Y:X.env.scope=sc)(hc:∀y∈Z.names,y.2≠.cell)(hk:Z.kind=.function)(M:∀y∈Z.names,y.2=.local->Z.names.lookup y.1=Z8 .local)
  (O:∀y∈Z.names,y.2=.free->sc.names.lookup y.1=Z8 .cell) (U:NN.length=N.length) (ha:∀p∈NN.zip N,Z.names.lookup p.1≠Z8 .local/\(p.2=p.1\/Z.names.lookup p.1=Z7)):iC X Z NN where
 nocell:=hc
 kind:=hk
 names:=M
 far:=fun y hy e=>.inl (by have z:=O y hy e;rw[<- Y]at z;exact z)
 len:=by rw[V];exact U
 apart:=fun i n e=>by
  have lt:i<N.length:=by rw[<- U];exact (aF.mp e).1
  have W:N[i]?=Z8 N[i]:=aO lt;have z:=ha (n,N[i]) (bD (i:=i) (by rw[mI];exact⟨e,W⟩));refine{z.1,?_}
  rcases z.2 with z|z
  ·left
   rw[V,W];exact congrArg Z8 z
  ·exact .inr z
abbrev cxC(X:Cx)(Z:lG)(V:List Str)(fp:List aa)(W:ao)(Y:Hp)(C:aa):Cx:=
 {X with N:=V,s₀:=W,H₀:=Y,env:=compEnvC Z (pP X.env Z.names []) C X.env,outer:=X.stack,ex:=fp,fn:=fun _=>false,pn:=[],xe:=fun _ _=>False}
def PTs(X:Cx)(Z:List cL)(t:TT):Prop:=
 ∀(pins:List (aa×Obj)) (s:ao) (σ:St) (H:Hp) (Q:Bool->Hp->Prop),Inv X pins σ H s->t σ H Q ->
  aW (aX X.prog X.w) X.A (forIn Z true fun c r=>if r=true then do let ok <- E4 c X.env (fy c X.env);pure (ForInStep.yield ok) else pure (ForInStep.yield r)) (TP X pins σ Q) X.xe s
def w5:TT:=fun _ H Q=>Q true H
theorem jW{X:Cx}:PTs X [] w5:=fun pins s σ H Q I h=>wpAny_tests_nil ⟨H,I,h⟩
theorem Jh{X:Cx}{c:cL}{t:TT}(h:PT X c t):PTs X [c] t:=fun pins s σ H Q I q=>wpAny_tests_one (h pins s σ H Q I q)
def t9(n:Nat)(I:TI)(g:TG)(tc:TT)(te:TE):TE:=fun σ H Q=>I σ H fun J H1=>∃W:Nat->Nat->List V->Hp->Prop,(∃m,W 0 m [] H1)/\∀i m ys H,W i m ys H->ys.length<aC /\
 ((J.stop i H/\∀p,H p=Z7->Q (.ref p) (upd H p (.lst ys))) \/
  (J.go i H/\∃N:List V->Hp->Prop,(∀Y H',N Y H'->∃U,U<m/\W (i+1) U Y H')/\∀x H',J.yld i H x H'->g x (cz n Z7++σ) H' fun Z H2=>Z.drop n=σ/\tc Z H2 fun b O=>
   if b=true then te Z O fun y M=>N (ys++[y]) M else N ys O))
section
variable{X:Cx}
theorem zI{σ Z:St}{n:Nat}(h:Z.drop n=σ)(i:Nat)(v:V)(e:(cz n Z7++σ)[i]?=Z8 (Z8 v)):Z[i]?=Z8 (Z8 v):=by
 by_cases hi:i<n
 ·rw[eI (by simpa using hi),oO,if_pos hi]at e
  cases e
 ·rw[dP (by simpa using hi),j6]at e;rw[<- h,EY]at e;rw[show n+(i-n)=i by omega]at e;exact e
theorem zJ{fz O gM:cL}{fk:List cL}{Z:lG}{NN:List Str}{pos pos':Pos}{wi:TI}{g:TG}{tc:TT}{te:TE}{use:Option (ae->Sem Unit)}{Qv:ae->ao->Prop}(own:List Str)(ok:iC X Z NN)(hc:X.calm=true)(hi:PI X O gM wi)
  (hg:∀fp hh hf C,PG (cxC X Z (own++NN) fp hh hf C) O g) (ht:∀fp hh hf C,PTs (cxC X Z (own++NN) fp hh hf C) fk tc) (he:∀fp hh hf C,PE (cxC X Z (own++NN) fp hh hf C) fz te)
  (hs:∀x,o4 gM X.env x=pure x) {pins:List (aa×Obj)} {s:ao} {σ:St} {H:Hp} {Q:VK} (I:Inv X pins σ H s) (h:t9 own.length wi g tc te σ H Q)
  (fa:∀(s4:ao) (C D:aa) (H':Hp) (m:Str->Option ae),s4.heap.Ns C m->Inv X pins σ H' s4->H' C=Z7->C≠X.env.locals->X.s₀.heap.objs.size<=C->(∀x c,X.env.cells.lookup x=Z8 c->c≠C)->(∀p∈X.pn++pins,p.1≠C)->Q (.ref D) H' ->
   compPost (aX X.prog X.w) X.A X.xe use Qv (.ref D) C (.ok .next) s4) :
  aW (aX X.prog X.w) X.A (comprehension (.ListComp fz [{O,gM,fk,0}] Z pos) Z X.env pos' (newList []) false (fy gM X.env) use) Qv X.xe s:=by
 have ez:∀y∈Z.names,y.2=.free->∃c,X.env.cells.lookup y.1=Z8 c:=fun y hy e=>I.ok.has _ (ok.far y hy e);have gl:closureFor Z X.env=pure (pP X.env Z.names []):=by
  unfold closureFor;rw[<- zF Z.names [] ez];simp
 have Y:∀n c,(pP X.env Z.names []).lookup n=Z8 c->X.env.cells.lookup n=Z8 c:=fun n c e=>zG (fun n c e=>by simp at e) e;have gt:∀n,(Z.names.lookup n=Z8 .cell\/Z.names.lookup n=Z8 .free)->(∃c,(pP X.env Z.names []).lookup n=Z8 c)/\(X.env.kindOf n=Z8 .cell\/X.env.kindOf n=Z8 .free):=fun n e=>by
  rcases e with e|e
  ·exact absurd rfl (ok.nocell _ (gm e))
  ·have m:=gm e;exact{zH m (ez _ m rfl),ok.far _ m rfl}
 refine wpAny_comprehension_free (use:=use) rfl hs gl ok.kind ok.names (thn (hi pins s σ H _ I h) fun xv s1 h1=>thn h1 fun eb s2 h2=>?_);obtain⟨it,fp,tn,J,H2,e,t,T,fo,f2,W,⟨m0,w0⟩,turn⟩:=h2;subst e;have gr:∀b∈fp,b<s2.heap.objs.size:=fun b hb=>by
  obtain⟨o,e,_⟩:=T.obj _ _ fo b hb;exact aQ e
 refine Oh (wpAny_newFunctionEnv ok.nocell (by intro y hy;simp at hy) (fun h1 ft gg=>?_) ok.kind);dsimp only at ft gg |-;generalize hP:s2.heap.push {cls:=.type "list",dict:=Z7,data:=.seq ([]:List ae).toArray}=P at ft gg |-;have hC:P.objs.size=s2.heap.objs.size+1:=by rw[<- hP,qJ]
 have eA:s2.heap.objs.size≠P.objs.size:=by rw[hC];exact aR (vE _)
 have gw:s2.heap.objs.size<=P.objs.size:=by rw[hC];exact gc _
 have old:∀b o,s2.heap.get? b=Z8 o->h1.get? b=Z8 o:=fun b o e=>
  gg.extBut b o (by rw[hC];exact aR (iM (aQ e))) (aK _ (hP ▸ aK _ e))
 have fx:h1.get? s2.heap.objs.size=Z8 {cls:=.type "list",data:=.seq ([]:List ae).toArray 0}:=gg.extBut _ _ eA (aK _ (hP ▸ cj _ rfl))
 -- the block's context is well made
 have ff:(cxC X Z (own++NN) fp s2 H2 P.objs.size).Ok:=by
  refine⟨I.ok.mod,ok.kind,I.ok.glob,I.ok.blt,by show s2.heap.objs.size<=P.objs.size;omega,fun y z c a b=>I.ok.inj y z c (Y _ _ a) (Y _ _ b),fun y hy=>(gt y (yv hy)).1,fun y c z _=>uO z,I.ok.hd,I.ok.frames,.inl rfl,
   fun b hb=>{fun z=>?_,fun y c e=>(f2 b hb).2.2.2.2.1 y c (Y _ _ e)},t.bs,cY I.ok.bsz t.sz,fun b o e hb=>?_,fun b hb z=>?_,t.stack,t.stkFree⟩
  ·exact aR (aZ (gr b hb) gw) z
  ·rcases (f2 b hb).2.2.2.1 with q|q
   ·exact I.ok.noex b o e q
   ·exact absurd (aZ (aQ e) (cY I.ok.bsz q)) (hU _)
  ·rcases ar.mp (t.stkSub b z) with q|q
   ·exact (f2 b hb).2.1 q
   ·exact (f2 b hb).2.2.1 q
 have fpOk:∀{H':Hp} {o:Obj},(∀b∈fp,H' b=Z7)->∀b∈fp,yg (cxC X Z (own++NN) fp s2 H2 P.objs.size) [(s2.heap.objs.size,o)] H' b:=fun {H' o} hn b hb=>by
  have lt:=gr b hb;refine{hn b hb,fun z=>?_,fun z=>ff.exfs b hb z,.inl hb,fun y c e=>(ff.exf b hb).2 y c e,fun p hp z=>?_}
  ·exact aR (aZ lt gw) z
  ·have fw:p=(s2.heap.objs.size,o):=by simpa using hp
   subst fw;exact aR lt (Eq.symm z)
 have gn:∀y c,(pP X.env Z.names []).lookup y=Z8 c->c<s2.heap.objs.size:=fun y c e=>by
  obtain⟨v,q⟩:=t.cell y c (Y _ _ e);exact q.lt
 have start:Inv (cxC X Z (own++NN) fp s2 H2 P.objs.size) [] (cz own.length Z7++σ) H2 {s2 with heap:=h1,toks:=s2.toks+([]:List (Str×ae)).length}:=by
  refine{ff,Z9,t.bare,Un.kept old,{_,ft,fun i y v e1 e2 e3=>?_},fun y c e=>?_,t.hok.fresh (by show s2.heap.objs.size<=P.objs.size;omega),fun y c e=>t.freeC y c (Y _ _ e),fun p hp=>absurd (show p∈([]:List (aa×Obj)) from by simpa using hp) (by simp),t.hok.kept old,?_}
  ·by_cases hi:i<own.length
   ·rw[eI (by simpa using hi),oO,if_pos hi]at e2
    cases e2
   ·have ed:NN[i-own.length]?=Z8 y:=by
     have z:(own++NN)[i]?=Z8 y:=e1;rw[dP (by omega)]at z;exact z
    rw[dP (by simpa using hi),j6]at e2;obtain⟨em,eh⟩:=ok.apart _ y ed
    rcases e3 with e3|e3
    ·exact absurd (zE e3) em
    ·obtain⟨⟨c,et⟩,kc⟩:=gt y (yv e3);have ek:X.N[i-own.length]?=Z8 y:=by
      rcases eh with z|z
      ·exact z
      ·rcases yv e3 with q|q<;>(rw[z]at q;cases q)
     obtain⟨m,hn,hl⟩:=t.loc;obtain⟨u,r,l⟩:=hl (i-own.length) y v ek e2 (.inr kc);refine{u,r,.inr {e3,c,et,?_}}
     rcases l with⟨l,_⟩|⟨_,c',e',q⟩
     ·rcases kc with kc|kc<;>(rw[l]at kc;cases kc)
     ·rw[Y _ _ et]at e'
      cases e';exact q.keeps old
  ·obtain⟨v,q⟩:=t.cell y c (Y _ _ e);exact{v,q.keeps old}
  ·show (cz own.length Z7++σ).length=(own++NN).length;rw[ay,ay,j6,t.len,ok.len]
 have gh:s2.heap.objs.size≠P.objs.size:=eA;have ei:s2.heap.objs.size∉frs X.stack:=fun z=>by
  rcases ar.mp (t.stkSub _ z) with q|q
  ·exact aR t.lt (Eq.symm q)
  ·exact t.nofs (aB _) q
 have gd:∀s₃:ao,s₃={s2 with heap:=h1,toks:=s2.toks+([]:List (Str×ae)).length} ->
   o5 (aX X.prog X.w) X.A (.compLoop (.ListComp fz [{O,gM,fk,0}] Z pos) 0 (.ref it) (.ref s2.heap.objs.size) (compEnvC Z (pP X.env Z.names []) P.objs.size X.env))
    (compPost (aX X.prog X.w) X.A X.xe use Qv (.ref s2.heap.objs.size) P.objs.size) s₃:=by
  rintro s₃ rfl;refine yu (fun n s'=>∃(i:Nat) (ys:List V) (H':Hp) (U:List ae) (k:Nat),Inv (cxC X Z (own++NN) fp s2 H2 P.objs.size) [] (cz own.length Z7++σ) H' s'/\tn i s'.heap/\(∀b∈fp,H' b=Z7)/\H' s2.heap.objs.size=Z7/\cS ys U /\
   s'.heap.get? s2.heap.objs.size=Z8 {cls:=.type "list",data:=.seq U.toArray k}/\W i n ys H') ?_ m0
   {0,[],H2,[],0,start,T.keep _ _ _ fo (fun b _ o e=>old b o e),fun b hb=>(f2 b hb).1,t.hok.fresh (aB _),.nil,fx,w0}
  rintro n s3 ⟨i,ys,H3,U,k,I3,eL,eF,nD,rv,hD,w3⟩;have Ip:Inv (cxC X Z (own++NN) fp s2 H2 P.objs.size) [(s2.heap.objs.size,{cls:=.type "list",data:=.seq U.toArray k})] (cz own.length Z7++σ) H3 s3:=I3.pins_of fun p hp=>by
   have fw:p=(s2.heap.objs.size,{cls:=.type "list",data:=.seq U.toArray k}):=by simpa using hp
   subst fw;exact{hD,nD,gh,ei,fun v z=>by cases z}
  obtain⟨hl,hw⟩:=turn i n ys H3 w3
  rcases hw with⟨eH,fin⟩|⟨go,N,hN,step⟩
  ·refine thn (T.done (cxC X Z (own++NN) fp s2 H2 P.objs.size) rfl rfl rfl hc i _ s3 _ H3 _ Ip (fpOk eF) eL eH) fun r s4 z=>?_;obtain⟨hr,I4⟩:=z;subst hr;obtain⟨m,hn,_⟩:=I4.loc;have er:s4.heap.get? s2.heap.objs.size=Z8 {cls:=.type "list",data:=.seq U.toArray k}:=(I4.pin _ (bC _ ax)).1;obtain⟨h',ey⟩:∃h',h'=s4.heap:={_,Z9};have gq:∀b o,b≠P.objs.size->s4.heap.get? b=Z8 o->h'.get? b=Z8 o:=fun b o hb e=>by rw[ey];exact e
   have hj:∀b o,s2.heap.get? b=Z8 o->b≠P.objs.size/\b≠s2.heap.objs.size:=fun b o e=>by
    have lt:=aQ e;exact{aR (aZ lt gw),aR lt}
   have M:∀b u,H3 b=Z8 u->b≠P.objs.size/\b≠s2.heap.objs.size:=fun b u e=>by
    refine{fun z=>?_,fun z=>?_}
    ·have q:H3 P.objs.size=Z7:=I4.free;rw[<- z,e]at q
     cases q
    ·rw[z,nD]at e
     cases e
   have un:Un (frs X.stack) fp H2 (upd H3 s2.heap.objs.size (.lst ys)) s2.heap h':=by
    have B:=I4.base;refine{fun b o e q hb hx=>gq b o (hj b o e).1 (B.keep b o e q hb hx),fun b o e q hb hx=>?_,fun b o e q hx=>?_,fun b o e hx=>?_,fun b xs e=>?_,fun b o u e=>?_,fun b ps e=>?_}
    ·obtain⟨sl,e1⟩:=B.slot b o e q hb hx;exact{sl,gq _ _ (hj b o e).1 e1}
    ·rw[aJ (hj b o e).2];exact B.free b o e q hx
    ·obtain⟨o',e1⟩:=B.there b o e hx;exact{o',gq _ _ (hj b o e).1 e1}
    ·have q:=B.tups b xs e;rw[aJ (M _ _ q).2];exact q
    ·have q:=B.frzs b o u e;rw[aJ (M _ _ q).2];exact q
    ·obtain⟨more,q⟩:=B.tbls b ps e;refine{more,?_};rw[aJ (M _ _ q).2];exact q
   have ej:HOk X.prog X.w (upd H3 s2.heap.objs.size (.lst ys)) h':=fun b u e=>by
    by_cases hb:b=s2.heap.objs.size
    ·subst hb;rw[ag]at e
     cases e;exact{jM hl,U,k,rv,gq _ _ gh er}
    ·rw[aJ hb]at e;refine (I4.hok b u e).stay (fun c v hc q=>gq c v ?_ q) (fun c q=>?_) fun c xs q=>?_
     ·rcases hc with z|z
      ·rw[z];exact (M _ _ e).1
      ·exact (M _ _ z).1
     ·rw[aJ (M _ _ q).2];exact q
     ·rw[aJ (M _ _ q).2];exact q
   have J:=t.call' (s':={s4 with heap:=h'}) (ch:=fp) I4.os un ej I4.bare fun b hb=>{(f2 b hb).2.2.2.1,(f2 b hb).2.1,(f2 b hb).2.2.2.2.1,(f2 b hb).2.2.2.2.2};subst ey;refine fa s4 P.objs.size s2.heap.objs.size (upd H3 s2.heap.objs.size (.lst ys)) m hn J ?_ ?_ ?_ (fun y c e=>?_) (fun q hq=>?_) (fin _ nD)
   ·rw[aJ gh.symm];exact I4.free
   ·exact pf (aZ t.lt gw)
   ·exact cY t.sz gw
   ·obtain⟨v,z⟩:=t.cell y c e;exact aR (aZ z.lt gw)
   ·exact aR (aZ (aQ (t.pin q hq).1) gw)
  ·refine thn (T.item (cxC X Z (own++NN) fp s2 H2 P.objs.size) rfl rfl rfl hc i _ s3 _ H3 _ Ip (fpOk eF) eL go) fun r s4 z=>?_;obtain⟨u,hr,h4⟩:=z;subst hr;refine thn h4 fun _ s5 z=>?_;obtain⟨x,H5,I5,r5,y5,fe,ef⟩:=z;have ec:=I5.pinned (fpOk ef) (T.obj _ _ fe);refine thn (hg fp s2 H2 P.objs.size _ s5 _ H5 x u _ ec r5 (step x H5 y5)) fun _ s6 z=>?_;obtain⟨ha,H6,I6,ew,q6⟩:=z;refine thn (ht fp s2 H2 P.objs.size _ s6 ha H6 _ I6 q6) fun ee s7 z=>?_;obtain⟨H7,I7,q7⟩:=z;have ge:∀{H8:Hp} {s8:ao},Inv (cxC X Z (own++NN) fp s2 H2 P.objs.size) ([(s2.heap.objs.size,{cls:=.type "list",data:=.seq U.toArray k})]++sP fp s5.heap) ha H8 s8 ->
     s8.heap.get? s2.heap.objs.size=Z8 {cls:=.type "list",data:=.seq U.toArray k}/\H8 s2.heap.objs.size=Z7:=fun I8=>by
    have z:=I8.pin (s2.heap.objs.size,{cls:=.type "list",data:=.seq U.toArray k}) (bC _ (gU _ ax));exact⟨z.1,z.2.1⟩
   have fG:∀{H8:Hp} {s8:ao},Inv (cxC X Z (own++NN) fp s2 H2 P.objs.size) ([(s2.heap.objs.size,{cls:=.type "list",data:=.seq U.toArray k})]++sP fp s5.heap) ha H8 s8 ->
     tn (i+1) s8.heap/\∀b∈fp,H8 b=Z7:=fun {H8 s8} I8=>by
    refine{T.keep _ _ _ fe fun b hb o e=>(I8.pin (b,o) (bC _ (bC _ (nU hb e)))).1,fun b hb=>?_};obtain⟨o,e,_⟩:=T.obj _ _ fe b hb;exact (I8.pin (b,o) (bC _ (bC _ (nU hb e)))).2.1
   have ga:(cz own.length Z7++σ).length=ha.length:=by rw[I6.len,start.len]
   cases ee with
   |false=>
    have el:N ys H7:=q7;obtain⟨m',lt,w'⟩:=hN _ _ el;obtain⟨d1,d2⟩:=ge I7;obtain⟨p1,p2⟩:=fG I7;have J7:Inv (cxC X Z (own++NN) fp s2 H2 P.objs.size) [] ha H7 s7:=I7.pins_of (fun p hp=>absurd hp (by simp));exact{m',lt,i+1,ys,H7,U,k,J7.weak ga (zI ew),p1,p2,d2,rv,d1,w'}
   |true=>
    refine thn (he fp s2 H2 P.objs.size _ s7 ha H7 _ I7 q7) fun v8 s8 z=>?_;obtain⟨y,H8,I8,r8,n8⟩:=z;obtain⟨m',lt,w'⟩:=hN _ _ n8;obtain⟨d1,d2⟩:=ge I8;obtain⟨p1,p2⟩:=fG I8;refine append_at (hsz:=by rw[aG,<- rv.length];exact jM hl) d1 fun h9 sb eo=>?_;have J8:Inv (cxC X Z (own++NN) fp s2 H2 P.objs.size) [] ha H8 s8:=I8.pins_of (fun p hp=>absurd hp (by simp));have J9:Inv (cxC X Z (own++NN) fp s2 H2 P.objs.size) [] ha H8 {s8 with heap:=h9}:=J8.turned (t':=s8.toks) (it:=s2.heap.objs.size) (fun b o hb e=>sb.extBut b o hb e) d2 gh (.inr (aB _)) (fun y c e=>aR (gn y c e)) (fun p hp=>absurd hp (by simp));refine{m',lt,i+1,ys++[y],H8,U++[v8],k+1,J9.weak ga (zI ew),T.keep _ _ _ p1 (fun b hb o e=>sb.extBut b o (aR (gr b hb)) e),p2,d2,rv.append (.cons r8 .nil),?_,w'};show h9.get? _=_;rw[eo,List.push_toArray]
 exact codeAny_compStart_list (gd _ rfl) (T.self X.A 0 _ _ _ (T.keep _ _ _ fo (fun b _ o e=>old b o e)) (gd _ rfl))
theorem lS{O Y U:cL}{M:List cL}{Z:lG}{NN:List Str}{pos:Pos}{z:TI}{g:TG}{tc:TT}{te:TE}(own:List Str)(ok:iC X Z NN)(hc:X.calm=true)(hi:PI X Y U z)
  (hg:∀fp W V C,PG (cxC X Z (own++NN) fp W V C) Y g) (ht:∀fp W V C,PTs (cxC X Z (own++NN) fp W V C) M tc) (he:∀fp W V C,PE (cxC X Z (own++NN) fp W V C) O te)
  (hs:∀x,o4 U X.env x=pure x:=by intro _;rfl):PE X (.ListComp O [{Y,U,M,0}] Z pos) (t9 own.length z g tc te):=by
 intro pins s σ H Q I h;rw[eval_ListComp];refine zJ (use:=Z7) own ok hc hi hg ht he hs I h fun s4 C D H' m hn J n1 n2 n3 n4 t q=>?_;exact{m,hn,fun h' sb=>{.ref D,H',J.turned (t':=s4.toks) (it:=C) (fun b o hb e=>sb.extBut b o hb e) n1 n2 (.inr n3) n4 t,Z9,q}}
theorem yw{O Y W:cL}{M:List cL}{Z:lG}{NN:List Str}{pos pos' t:Pos}{wi:TI}{g:TG}{tc:TT}{te:TE}{i:Nat}{x:Str}(own:List Str)(ok:iC X Z NN)(hc:X.calm=true)(hN:X.N.Nodup)(bG:X.N[i]?=Z8 x)(hx:Loc X.env.scope x)(hi:PI X Y W wi)
  (hg:∀fp U V C,PG (cxC X Z (own++NN) fp U V C) Y g) (ht:∀fp U V C,PTs (cxC X Z (own++NN) fp U V C) M tc) (he:∀fp U V C,PE (cxC X Z (own++NN) fp U V C) O te)
  (hs:∀x,o4 W X.env x=pure x:=by intro _;rfl) (hf:X.fn x=true\/X.env.scope.names.lookup x=Z8 .local:=by first|exact .inl rfl|exact .inr rfl|assumption)
  (bF:tV (.ListComp O [{Y,W,M,0}] Z pos) (Z8 (.Name x pos')) t.line X.env=pure true:=by rfl):PS X (.Assign [.Name x pos'] (.ListComp O [{Y,W,M,0}] Z pos) t) (II (t9 own.length wi g tc te) (BH i)):=by
 intro pins s σ H D I h;rw[exec_Assign_Name_used _ _ _ _ bF];refine au (Dv (au ?_));show aW _ X.A (do let _ <- comprehension (.ListComp O [{Y,W,M,0}] Z pos) Z X.env _ (newList []) false (fy W X.env) (Z8 (ye (.Name x pos') X.env))) _ _ s;refine au (eQ (zJ (use:=Z8 (ye (.Name x pos') X.env)) (Qv:=fun _ s'=>SP X pins D .next s') own ok hc hi hg ht he hs I h fun s4 C DD H' m hn J n1 n2 n3 n4 n5 q=>?_) (fun _ s' hq=>bf (bf hq)) fun _ _ e=>e);show aW _ X.A (ye (.Name x pos') X.env (.ref DD)) _ _ s4;refine Ob (xi J hN bG hx (show RelV (.ref DD) (.ref DD) from rfl) (fun s' J' z=>?_) hf);obtain⟨a,sb,ha⟩:=z;have na:C≠a:=by
  rcases ha with ha|ha
  ·rw[ha];exact n2
  ·exact (n4 x a ha).symm
 refine{m,hn.at' fun o e=>sb.extBut C o na e,fun h' bH=>{_,H',J'.turned (t':=s'.toks) (it:=C) (fun b o hb e=>bH.extBut b o hb e) n1 n2 (.inr n3) n4 n5,q}}
end
section
variable{K:af}{a:aa}{xs:List V}{n:Nat}{g:TG}{tc:TT}{te:TE}{σ:St}{H:Hp}{Q:VK}
theorem tj(Y:Nat->List V->Hp->Prop)(h0:Y 0 [] H)(hl:∀i ys H,i<=xs.length->Y i ys H->SqL K H a xs/\ys.length<aC)
  (hs:∀i x ys H,xs[i]?=Z8 x->Y i ys H->g x (cz n Z7++σ) H fun Z H2=>Z.drop n=σ/\tc Z H2 fun b O=>if b=true then te Z O fun y J=>Y (i+1) (ys++[y]) J else Y (i+1) ys O)
  (t:∀ys H,Y xs.length ys H->∀p,H p=Z7->Q (.ref p) (upd H p (.lst ys))) :
  ∃W:Nat->Nat->List V->Hp->Prop,(∃m,W 0 m [] H)/\∀i m ys H,W i m ys H->ys.length<aC/\(((Itl K a).stop i H/\∀p,H p=Z7->Q (.ref p) (upd H p (.lst ys))) \/
   ((Itl K a).go i H/\∃N:List V->Hp->Prop,(∀U H',N U H'->∃I,I<m/\W (i+1) I U H')/\∀x H',(Itl K a).yld i H x H'->g x (cz n Z7++σ) H' fun Z H2=>Z.drop n=σ/\tc Z H2 fun b O=>
    if b=true then te Z O fun y J=>N (ys++[y]) J else N ys O)):=by
 refine{fun i m ys H=>m=xs.length-i/\i<=xs.length/\Y i ys H,{xs.length,by simp,bO _,h0},?_};rintro i m ys H ⟨rfl,hi,p⟩;obtain⟨q,z⟩:=hl i ys H hi p;refine{z,?_}
 by_cases M:i<xs.length
 ·refine .inr {{xs,xs[i],q,by simp[M]},Y (i+1),fun U H' D=>{xs.length-(i+1),by omega,Z9,M,D},fun x H' y=>?_};obtain⟨e,y⟩:=y;subst e;exact hs i x ys _ (y xs q) p
 ·have e:i=xs.length:=by omega
  subst e;exact .inl {{xs,q,aB _},t ys H p}
theorem FH(Y:Nat->List V->Hp->Prop)(h0:Y 0 [] H)(hl:∀i ys H,i<=xs.length->Y i ys H->SqT K H a xs/\ys.length<aC)
  (hs:∀i x ys H,xs[i]?=Z8 x->Y i ys H->g x (cz n Z7++σ) H fun Z H2=>Z.drop n=σ/\tc Z H2 fun b O=>if b=true then te Z O fun y J=>Y (i+1) (ys++[y]) J else Y (i+1) ys O)
  (t:∀ys H,Y xs.length ys H->∀p,H p=Z7->Q (.ref p) (upd H p (.lst ys))) :
  ∃W:Nat->Nat->List V->Hp->Prop,(∃m,W 0 m [] H)/\∀i m ys H,W i m ys H->ys.length<aC/\(((Itt K a).stop i H/\∀p,H p=Z7->Q (.ref p) (upd H p (.lst ys))) \/
   ((Itt K a).go i H/\∃N:List V->Hp->Prop,(∀U H',N U H'->∃I,I<m/\W (i+1) I U H')/\∀x H',(Itt K a).yld i H x H'->g x (cz n Z7++σ) H' fun Z H2=>Z.drop n=σ/\tc Z H2 fun b O=>
    if b=true then te Z O fun y J=>N (ys++[y]) J else N ys O)):=by
 refine{fun i m ys H=>m=xs.length-i/\i<=xs.length/\Y i ys H,{xs.length,by simp,bO _,h0},?_};rintro i m ys H ⟨rfl,hi,p⟩;obtain⟨q,z⟩:=hl i ys H hi p;refine{z,?_}
 by_cases M:i<xs.length
 ·refine .inr {{xs,xs[i],q,by simp[M]},Y (i+1),fun U H' D=>{xs.length-(i+1),by omega,Z9,M,D},fun x H' y=>?_};obtain⟨e,y⟩:=y;subst e;exact hs i x ys _ (y xs q) p
 ·have e:i=xs.length:=by omega
  subst e;exact .inl {{xs,q,aB _},t ys H p}
end
end L2
namespace PySem
theorem yy:Mf (.type "list") "keys"=pure Z7:=by rw[typeLookup_type,builtinLookup_eq_fast];kernel_rfl
theorem zK:entryFor table "dict.update.loop"=Z8 gW.«dict.update.loop»:=entryFor_of_tree (by kernel_rfl)
section
variable{prog:aL}{w:bA}{A:bY}{E:ae->ao->Prop}{s:ao}
theorem Ji{a:aa}{xs:Array ae}{k:Nat}{sl:Array (Option ae)}{Q:Option ae->ao->Prop}(hx:s.heap.get? a=Z8 {cls:=.type "list",dict:=Z7,data:=.seq xs k,slots:=sl})(U:A.handled=Z7)
  (h:∀h' tk,(∀b o,s.heap.get? b=Z8 o->h'.get? b=Z8 o)->Q Z7 {s with heap:=h',toks:=tk}):aW (aX prog w) A (getAttr? (.ref a) "keys") Q E s:=by
 obtain⟨hp,g,d,tk,W⟩:=s;have V:∀Z,(⟨hp,g,d,Z,W⟩:ao).TypeIs (.ref a) "list":=fun _=>{_,hx,Z9};have f1:=sub_AttributeError;have I:=F.slot_list_getattribute.lookup;have H:=F.slot_list_getattribute.bind (.ref a);have J:=am_list_getattr_none;unfold getAttr? getAttrBy? getAttrBy;have O:∀(u:Tok) (tk:Nat) (Q:ae->ao->Prop) (E:ae->ao->Prop),(∀h' Z e,Heap.NewAttrErr hp h' e (.ref a) "keys"->E (.ref e) ⟨h',g,d,Z,W⟩)->aW (aX prog w) A (vw (Value.builtin "list.__getattribute__") [.ref a,.str "keys" u]) Q E ⟨hp,g,d,tk,W⟩:=fun u tk Q E k1=>
  oa F.slot_list_getattribute (V _) am_entry_list_getattribute (F.args_list_getattribute_2 _ _) (meets_getattribute_miss_list a xs k sl "keys" _ yy (by decide +kernel)) {hx,U,fun h' Z e Y=>k1 h' Z e Y}
 repeat (any_goals (first|assumption|exact V _|refine O _ _ _ _ (fun h' Z e Y=>?_)|wp_step))
 obtain⟨t',D,M⟩:=Y.there
 repeat (any_goals (first|assumption|wp_step))
 exact h _ _ Y.keeps
def A1{prog:aL}{w:bA}{K:Type}[DecidableEq K](knd:KeyKind prog w K)(h:cu)(p:K×ae)(x:ae):Prop:=
 ∃(a:aa) (Z:ae) (o:Obj) (n:Nat),x=.ref a/\h.get? a=Z8 o/\o.cls=.type "tuple"/\o.data=.seq #[Z,p.2] n/\knd.is p.1 Z=true
variable{K:Type}[DecidableEq K]{knd:KeyKind prog w K}
theorem FJ{a:aa}{o:Obj}{n:Nat}{k v:ae}{Q:List ae->ao->Prop}(Z:s.heap.get? a=Z8 o)(hc:o.cls=.type "tuple")(Y:o.data=.seq #[k,v] n)(h:Q [k,v] s):aW (aX prog w) A (uQ (.ref a)) Q E s:=by
 unfold uQ;have W:s.TypeIs (.ref a) "tuple":=⟨o,Z,hc⟩;refine au (wpAny_typeOf W ?_);rw[if_pos (by decide)];refine au (wpAny_seqItems Z Y (bf ?_));exact h
theorem B0{R:Md->ao->Prop}{it l d:aa}{items:Array ae}{Z:ae}(hA:A.handled=Z7)(hl:l≠d)(hi:it≠d)(J:it≠l):∀(ps:List (K×ae)) (i:Nat) (kvs:List (K×ae)) (s:ao) (t:Tok) (z:Int),
  s.heap.IsListIter it l i->s.heap.IsList l items->s.heap.DictOf knd d kvs->aH (fun p x=>A1 knd s.heap p x/\x≠.ref d/\x≠.ref it) ps (items.toList.drop i)->kvs.length+ps.length<=aC ->
  (∀h' tk,h'.DictOf knd d (ps.foldl (fun m p=>vF m p.1 p.2) kvs)->(∀b o,b≠d->b≠it->s.heap.get? b=Z8 o->h'.get? b=Z8 o)->R (.ok (.ret Z)) {s with heap:=h',toks:=tk}) ->
  o5 (aX prog w) A (.builtin "dict.update.loop" {[.ref d,.ref it,.int z t,Z],[]}) R s
 | [],i,kvs,s,t,z,W,Y,hd,hp,hz,h=>by
  have D:items.toList.drop i=[]:=by
   have e:=hp.length;exact List.length_eq_zero_iff.mp e.symm
  have hx:items[i]?=Z7:=by
   have e:=List.drop_eq_nil_iff.mp D;simp only[fu]at e;exact Array.getElem?_eq_none e
  refine jJ zK ?_;unfold gW.«dict.update.loop»;dsimp only;refine au (Iu hA W Y hx fun h' eb=>?_);dsimp only;refine au ?_;unfold Builtin.Dict.addKeywords;refine bf ?_;refine bf (h h' _ (hd.extBut eb hi.symm) fun b o _ hb e=>eb b o hb e)
 |p::ps,i,kvs,s,t,z,W,Y,hd,hp,hz,h=>by
  cases e0:items.toList.drop i with
  |nil=>
   rw[e0]at hp
   cases hp
  |cons x r=>
   rw[e0]at hp
   cases hp with
   |cons h1 h2=>
    obtain⟨⟨a,kv,o,n,rfl,ho,hc,da,hk⟩,nd,ni⟩:=h1;have hx:items[i]?=Z8 (.ref a):=by
     have e:=congrArg (fun l=>l[0]?) e0;simpa using e
    have hr:items.toList.drop (i+1)=r:=by
     have e:=congrArg List.tail e0;simpa using e
    refine jJ zK ?_;unfold gW.«dict.update.loop»;dsimp only;refine au (Fb W Y hx fun dl O sb=>?_);dsimp only;refine au (eU (au (wpAny_tryCatch ?_)));have cs:a≠it:=fun q=>ni (by rw[q]);have cp:a≠d:=fun q=>nd (by rw[q]);refine FJ (s:={s with heap:=dl}) ((sb.2 a cs).trans ho) hc da ?_;dsimp only;refine eU (wpAny_dictSet_pairs (s:={s with heap:=dl}) hk (hd.extBut sb.extBut hi.symm) (fun I dc H=>?_) (by simp only[aU]at hz;omega));refine bf {EZ _ (by decide +kernel),?_};have keep:∀b M,b≠d->b≠it->s.heap.get? b=Z8 M->I.get? b=Z8 M:=fun b M V U e=>H.extBut b M V (sb.extBut b M U e);refine B0 (items:=items) hA hl hi J ps (i+1) (vF kvs p.1 p.2) {s with heap:=I,toks:=s.toks+1} _ _ ?_ ?_ dc ?_ ?_ ?_
    ·obtain⟨oi,ei,ci,di⟩:=O;exact{oi,H.extBut it oi hi ei,ci,di}
    ·obtain⟨ol,el,cl⟩:=Y;exact{ol,keep l ol hl J.symm el,cl}
    ·rw[hr];clear e0 hr h hz hd W O Y
     induction h2 with
     |nil=>exact .nil
     |cons q1 q2 ih=>
      refine .cons ?_ ih;obtain⟨⟨a',de,o',n',rfl,dg,cx,g,db⟩,dj,dk⟩:=q1;exact{{a',de,o',n',Z9,keep a' o' (fun q=>dj (by rw[q])) (fun q=>dk (by rw[q])) dg,cx,g,db},dj,dk}
    ·have hs:(vF kvs p.1 p.2).length<=kvs.length+1:=by
      unfold vF
      split
      ·rw[aq];omega
      ·simp
     simp only[aU]at hz;omega
    ·intro h' tk cr k';exact h h' tk cr fun b M V U e=>k' b M V U (keep b M V U e)
theorem Jj{l:aa}{items:Array ae}{k:Nat}{sl:Array (Option ae)}{ps:List (K×ae)}{Q:ae->ao->Prop}(D:A.handled=Z7)(hx:s.heap.get? l=Z8 {cls:=.type "list",dict:=Z7,data:=.seq items k,slots:=sl})
  (hp:aH (A1 knd s.heap) ps items.toList) (I:ps.length<=aC)
  (h:∀h' tk,h'.DictOf knd s.heap.objs.size (ps.foldl (fun m p=>vF m p.1 p.2) [])->(∀b o,s.heap.get? b=Z8 o->h'.get? b=Z8 o)->Q (.ref s.heap.objs.size) {s with heap:=h',toks:=tk}) :
  aW (aX prog w) A (vw (.type "dict") [.ref l]) Q E s:=by
 refine callType_codes (Q₁:=fun obj H=>obj=.ref s.heap.objs.size/\H={s with heap:=s.heap.push {cls:=.type "dict",data:=.dict #[]}}) F.kt_called_dict (F.kt_typeCall_dict_1 _) F.entry_dict_init (kt_code_dict_new _ ⟨Z9,Z9⟩) ?_;rintro obj H ⟨rfl,rfl⟩;have Z:(s.heap.push {cls:=.type "dict",data:=.dict #[]}).DictOf knd s.heap.objs.size []:=Au s.heap;have up:∀b o,s.heap.get? b=Z8 o->(s.heap.push {cls:=.type "dict",data:=.dict #[]}).get? b=Z8 o:=fun b o e=>aK _ e;have V:=aQ hx;refine{Z.typeIs,F.args_dict_init_2 _ _,?_};unfold gW.«dict.__init__»;refine au ?_;unfold Builtin.Dict.selfAndRest;refine au (wpAny_notOrdered_dict Z.typeIs ?_);show aW _ _ (pure (s.heap.objs.size,[Value.ref l])) _ _ _;refine bf ?_;show aW _ _ (ux "dict.__init__" s.heap.objs.size (.ref l) [] .none) _ _ _;unfold ux;have hT:({s with heap:=s.heap.push {cls:=.type "dict",data:=.dict #[]}}:ao).TypeIs (.ref l) "list":={_,up _ _ hx,Z9};refine au (wpAny_typeOf hT ?_);rw[if_pos (by decide)];refine au (Ji (s:={s with heap:=s.heap.push {cls:=.type "dict",data:=.dict #[]}}) (up _ _ hx) D fun h1 O k1=>?_);rw[if_pos (by rfl)];refine au (A2 (au ?_));have W:h1.IsList l items:={_,k1 _ _ (up _ _ hx),Z9,k,Z9};refine Oc (s:={s with heap:=h1,toks:=O}) W ?_;have Y:s.heap.objs.size<h1.objs.size:=by
  obtain⟨o,_,_,e,_⟩:=Z;exact aQ (k1 _ _ e)
 have U:∀b o,s.heap.get? b=Z8 o->(h1.push {cls:=.type "list_iterator",data:=.fields #[.ref l,.int 0 0]}).get? b=Z8 o:=fun b o e=>aK _ (k1 _ _ (up _ _ e));refine bf {EZ _ (by decide +kernel),?_};refine B0 (A:=A.in1) (knd:=knd) (items:=items) D (l:=l) (aR V) (pf Y) (pf (pJ V Y)) ps 0 [] _ _ _ ?_ ?_ ?_ ?_ ?_ ?_
 ·exact{_,cj _ rfl,Z9,Z9}
 ·exact W.push _
 ·obtain⟨o,es,ep,e,r⟩:=Z;exact{o,es,ep,aK _ (k1 _ _ e),r}
 ·rw[xy];clear h I;generalize items.toList=xs at hp
  induction hp with
  |nil=>exact .nil
  |cons q1 q2 ih=>
   refine .cons ?_ ih;obtain⟨a,g,o,n,rfl,J,hc,M,hk⟩:=q1;have z:=aQ J;refine{{a,g,o,n,Z9,U _ _ J,hc,M,hk},fun q=>?_,fun q=>?_}
   ·injection q with q;exact aR z q
   ·injection q with q;exact aR (pJ z Y) q
 ·simpa using I
 ·intro h' tk M t;refine{Z9,h h' tk M fun b o e=>t b o ?_ ?_ (U b o e)}
  ·exact aR (aQ e)
  ·exact aR (pJ (aQ e) Y)
end
end PySem
namespace L2
open PySem PySem.Spec PyProof.Rows
section
variable{X:Cx}
theorem xA{n:Nat}(h:n<2^64):n.log2<9000:=by
 by_cases z:n=0
 ·subst z;decide
 ·exact pJ ((Nat.log2_lt z).mpr h) (by decide)
def KM(_ j:Int):Prop:=0<j/\j<2^64
theorem vK:OpR X (iB .FloorDiv) (rI KM fun i j=>.int (i/j)):=opI fun i j _ _ _ _ _ hc q=>by
 have h1:(0:Int)<j:=hc.1;have h2:j<2^64:=hc.2;have Z:j.natAbs<2^64:=by omega
 exact Fg (by omega) (by rw[yh i (by omega)];exact q) (.inl (w6 (xA Z)))
def CDivM(_ j:Int):Prop:=j≠0/\j.natAbs<2^64
theorem FK:OpR X (iB .FloorDiv) (rI CDivM fun i j=>.int (i.fdiv j)):=opI fun _ _ _ _ _ _ _ hc q=>Fg hc.1 q (.inl (w6 (xA hc.2)))
theorem Jk:OpR X (iB .Mult) (rI IntMulOk fun i j=>.int (i*j)):=opI fun _ _ _ _ _ _ _ hc q=>mul_int q hc
theorem lT:kR X (.builtin "isinstance") (fun xs H Q=>∃x n t b,xs=[x,.ty n]/\sU X.K H x t/\gA X.K t (.type n)=Z8 b/\Q (.bl b) H):=by
 intro pins s σ H xs us Q I r h;obtain⟨x,n,t,b,rfl,ty,e,q⟩:=h;obtain⟨u,Y,rfl,Z,rt⟩:=vals2 r
 cases (show Y=Value.type n from rt);exact DK I Z ty e fun tk=>{.bl b,H,I.tok _,Z9,q}
def uR(H:Hp):List (Key×V)->List V->Prop:=aH fun (p:Key×V) x=>∃a,x=V.ref a/\H a=Z8 (.tup [kV p.1,p.2])
theorem FL{P:aL}{w:bA}{H:Hp}{h:cu}(ok:HOk P w H h):∀{ps:List (Key×V)} {vs:List V} {us:List ae},uR H ps vs->cS vs us->∃qs:List (Key×ae),KV ps qs/\aH (A1 (eN P w) h) qs us:=by
 intro ps vs us r;unfold uR at r
 induction r generalizing us with
 |nil=>
  intro v
  cases v;exact{[],.nil,.nil}
 |@cons p x ps vs D g t=>
  intro v
  cases v with
  |cons M z=>
   obtain⟨a,rfl,ha⟩:=D;obtain⟨qs,k1,k2⟩:=t z
   cases M;obtain⟨_,I,J,o,Y,hc,n,O⟩:=(show eB P w H h a (.tup [kV p.1,p.2]) from ok a _ ha);obtain⟨U,W,rfl,rk,Z⟩:=vals2 J;exact{(p.1,W)::qs,.cons ⟨Z9,Z⟩ k1,.cons {a,U,o,n,Z9,Y,hc,O,vG rk} k2}
theorem Jl{ps:List (Key×V)}{qs:List (Key×ae)}(r:KV ps qs):∀{m:List (Key×V)} {n:List (Key×ae)},KV m n->KV (ps.foldl (fun m p=>iW m p.1 p.2) m) (qs.foldl (fun m p=>vF m p.1 p.2) n):=by
 unfold KV at r
 induction r with
 |nil=>
  intro m n k;exact k
 |@cons p q ps qs h t Z=>
  intro m n k;obtain⟨h1,h2⟩:=h;rw[wN,wN,<- h1];exact Z (k.put p.1 h2)
theorem zL(ps:List (Key×V)):∀m:List (Key×V),(ps.foldl (fun m p=>iW m p.1 p.2) m).length<=m.length+ps.length:=by
 induction ps with
 |nil=>
  intro m;exact aB _
 |cons p ps Z=>
  intro m;rw[wN,aU];have h1:=Z (iW m p.1 p.2);have h2:=lR m p.1 p.2;omega
theorem A3(hc:X.calm=true):kR X (.type "dict") (fun xs H Q=>∃p vs ps,xs=[V.ref p]/\H p=Z8 (.lst vs)/\uR H ps vs/\ps.length<=aC/\∀d,H d=Z7->Q (.ref d) (upd H d (.dK (ps.foldl (fun m p=>iW m p.1 p.2) [])))):=by
 intro pins s σ H xs us Q I r h;obtain⟨p,vs,ps,rfl,hp,U,Y,q⟩:=h;obtain⟨u,rfl,O⟩:=vals1 r
 cases O;obtain⟨_,D,n,z,Z⟩:=(show eB X.prog X.w H s.heap p (.lst vs) from I.hok p _ hp);obtain⟨qs,k1,k2⟩:=FL I.hok U z;refine Jj (knd:=eN X.prog X.w) (I.ok.hd hc) Z k2 (by rw[<- k1.length];exact Y) fun h' tk W kk=>?_;have M:=Jl k1 (m:=[]) (n:=[]) .nil;have J:=zL ps [];refine{.ref s.heap.objs.size,_,I.laid (a:=s.heap.objs.size) (o:=.dK (ps.foldl (fun m p=>iW m p.1 p.2) [])) (t':=tk) kk (aB _) ?_,Z9,q _ (I.hok.fresh (aB _))};exact vI (by simp only[cH]at J;omega) (beq_eq_false_iff_ne.mpr (fX (aR I.big))) M W
end
end L2
namespace Att
open PySem PySem.W PySem.Calls PyProof.Rows
theorem weight_mem:∀(xs:List WData) (x:WData),x∈xs->kX x<=vL xs
 | [],_,h=>by cases h
 |y::r,x,h=>by
  unfold vL
  rcases ar.mp h with e|e
  ·subst e;omega
  ·have:=weight_mem r x e;omega
theorem bits_of_lay{ns:List Int}(h:WData.layableAll [WData.list (ns.map WData.int)]=true):∀n∈ns,eX n<=1048576:=fun n Z=>by
 have h1:(WData.list (ns.map WData.int)).layable=true:=(layW_cons h).1;unfold WData.layable at h1;have h2:kX (WData.list (ns.map WData.int))<=2^20:=of_decide_eq_true (qM.mp h1).2;have Y:=weight_mem (ns.map WData.int) (WData.int n) (cq.mpr ⟨n,Z,Z9⟩);have W:kX (WData.list (ns.map WData.int))=vL (ns.map WData.int):=by
  rw[kX]
 have V:kX (WData.int n)=eX n:=by
  rw[kX];rfl
 have e:(2:Nat)^20=1048576:=by decide
 omega
theorem attach_callB{l:OpenLaw}{n:Nat}{q:aL}{W:List Str}{XP:(Str->Option ae)->cu->Prop}{g:bA->cu->Prop}{d:DefRec}
  (hn:l.most=Z8 n) (D:d.params.defaults=[])
  (vw:∀(w:bA) (s₀ Z:ao) (mg z:Str->Option ae) (I:aa) (a:aa) (vs:List ae) (ns:List Int),
   Ground q W [] XP w s₀ mg z Z.heap->g w Z.heap->mg d.name=Z8 (.ref I) ->
   Z.heap.get? a=Z8 {cls:=.type "list",data:=.seq vs.toArray}->eM vs ns->ns.length<=n->(∀x∈ns,eX x<=1048576)->Z.gens=#[] ->
   o5 (aX l.prog w) wZ (.call (.ref I) {[.ref a],[]}) (fun r s'=>r=.ok (.ret (.bool true))/\OldK Z.heap s'.heap/\s'.os=Z.os/\oZ s'.gens) Z) :
  WalkO q W XP g l.row.toRowW d [] (fun f vs=>Ec f vs):=by
 intro w s₀ Z mg z G Y I o pm cd bW dV kV ho hd ca hD t hg args cc as J U bH H bI;obtain rfl:dV=.none:=Dflts.none hD D;obtain rfl:kV=.none:=Dflts.noKw hD;obtain⟨a,vs,ns,rfl,rfl,O,V,M⟩:=script_of hn J H;refine enter_call (mO (vw w s₀ Z mg z I a vs ns G Y t O V M (bits_of_lay U) hg) fun r s' hq=>?_);obtain⟨rfl,h2,h3,h4⟩:=hq;exact{.inl {.bool true,.bool true,[],Z9,fun _=>rfl,.bool true,post_true l _,fun _=>{List.Pairwise.nil,fun _ hm=>(nomatch hm)}},h2,h3,h4}
end Att
namespace L2
open PySem PySem.Spec PyProof.Rows
theorem walk_ofB{l:uy}{n k:Nat}{q:aL}{W:List Str}{XP:(Str->Option ae)->cu->Prop}{YP:bA->cu->Prop}{d:DefRec}{K:Params->af}{CX:bA->CXT}{sp:bA->Sp}{x:Str}
  (hn:l.most=Z8 n) (z:n<=aC) (t:d.params.defaults=[]) (hr:cZ k wZ)
  (hY:∀(w:bA) (h:cu),YP w h->(K w.params).In h)
  (F:∀(w:bA) (mg:Str->Option ae) (I:aa) (h:cu),(K w.params).In h->h.Ns bj mg->mg d.name=Z8 (.ref I) ->
   ∃fd:bS,(∀(s:ao) (u:ae),tY s fd {[u],[]} [(x,u)]) /\
    ∀base:cu,(K w.params).In base->base.Ns bj mg->bh l.prog w (K w.params) mg base (CX w) k I fd [x] (sp w))
  (D:∀(w:bA) (H:Hp) (a:aa) (ns:List Int),ns.length<=n->(∀x∈ns,eX x<=1048576)->SqL (K w.params) H a (ns.map V.int)->sp w [.ref a] H (fun v _=>v=.bl true) fun _ _ _=>False)
  (bw:∀(w:bA) (H:Hp) (s:ao) (e:ae) (s':ao),CX w [] H s (fun _ _ _=>False) e s'->False) :
  Iy q W XP YP l.row.toRowW d [] (fun f vs=>Ec f vs):=by
 refine Att.attach_callB hn t fun w s₀ J mg mb I a vs ns G Y bz M O Z U hg=>?_;have KX:=hY w _ Y;obtain⟨fd,hb,hF⟩:=F w mg I _ KX G.T.g bz;exact FA KX G.T.g G.T.b G.T.builtins G.T.nolimit hg M O (cY Z z) hr hF hb (fun H hO hS=>D w H a ns Z U hS) fun H e s'=>bw w H J e s'
end L2
namespace PySem
open SeqAt MeetsSeq MeetsSeq2 MeetsSeq3 SeqRoads2
open AutoSeq1 (wpAny_loadPart')
def ju(prog:aL)(w:bA)(A:bY)(s:ao)(y x:ae):Prop:=
 ∀(E:ae->ao->Prop) (Q:Bool->ao->Prop),Q true s->aW (aX prog w) A (eqBool y x) Q E s
def RcIn(prog:aL)(w:bA)(A:bY)(s:ao)(y x:ae):Prop:=
 ∀(E:ae->ao->Prop) (Q:ae->ao->Prop),Q (.bool true) s->aW (aX prog w) A (o6 .Eq y x) Q E s
section
variable{prog:aL}{w:bA}{A:bY}{s:ao}
theorem ju.of_at{y x:ae}(h:EqAt A s y x true):ju prog w A s y x:=fun E Q q=>h prog w E Q q
theorem ju.self(v:ae):ju prog w A s v v:=ju.of_at (EqAt.same v)
theorem ju.refs{l b:aa}(h:RcIn prog w A s (.ref l) (.ref b)):ju prog w A s (.ref l) (.ref b):=by
 by_cases e:l=b
 ·rw[e];exact ju.self _
 ·intro E Q q;unfold eqBool;refine eU (wpAny_ite_split (fun z=>?_) (fun _=>?_))
  ·exact absurd (by have Z:=eq_of_beq z;injection Z) e
  ·exact au (h E _ (kC q))
theorem Jm(l b:aa)(xs ys:Array ae)(n m:Nat)(dd M:Option aa)(sl sm:Array (Option ae))(hsz:xs.size=ys.size):∀k i:Nat,xs.size-i=k ->
  Av prog w (gW.«list.__eq__.loop» {[.ref l,.ref b,pj i,pj 2],[]}) (fun A R s=>
   s.heap.get? l=Z8 {cls:=.type "list",dict:=dd,data:=.seq xs n,slots:=sl}/\s.heap.get? b=Z8 {cls:=.type "list",dict:=M,data:=.seq ys m,slots:=sm} /\
   (∀j (h1:j<xs.size) (h2:j<ys.size),ju prog w A.in1 s xs[j] ys[j])/\R (.ok (.ret (.bool true))) s):=by
 intro k
 induction k with
 |zero=>
  intro i hk A R s q;obtain⟨hp,g,d,tk,J⟩:=s;obtain⟨Z,Y,V,W⟩:=q;have a1:xs[((i:Nat):Int).toNat]?=Z7:=by simp;omega
  have a2:ys[((i:Nat):Int).toNat]?=Z7:=by simp;omega
  wp_walk using b8 Z,b8 Y
  rw[a1,a2]
  wp_walk using b8 Z,b8 Y
  show R (.ok (.ret (.bool (xs.size==ys.size)))) _;rw[hsz,beq_self_eq_true];exact W
 |succ k I=>
  intro i hk A R s q;obtain⟨hp,g,d,tk,J⟩:=s;obtain⟨Z,Y,V,W⟩:=q;have O:i<xs.size:=by omega
  have U:i<ys.size:=by omega
  have a1:xs[((i:Nat):Int).toNat]?=Z8 xs[i]:=by simp[O]
  have a2:ys[((i:Nat):Int).toNat]?=Z8 ys[i]:=by simp[U]
  have e1:((i:Int)+1)=((i+1:Nat):Int):=by push_cast;rfl
  wp_walk using b8 Z,b8 Y
  rw[a1,a2];refine au (V i O U _ _ ?_)
  wp_walk
  rw[e1];refine{uS plain_eq_loop _,jJ entry_eq_loop ?_};rw[kA plain_eq_loop _];exact I (i+1) (by omega) A R _ ⟨Z,Y,V,W⟩
theorem Jn(l b:aa)(xs ys:Array ae)(n m:Nat)(dd Z:Option aa)(sl sm:Array (Option ae))(hsz:xs.size=ys.size) :
  Av prog w (gW.«list.__eq__» {[.ref l,.ref b],[]}) (fun A R s=>
   s.heap.get? l=Z8 {cls:=.type "list",dict:=dd,data:=.seq xs n,slots:=sl}/\s.heap.get? b=Z8 {cls:=.type "list",dict:=Z,data:=.seq ys m,slots:=sm} /\
   (∀j (h1:j<xs.size) (h2:j<ys.size),ju prog w A.in1 s xs[j] ys[j])/\R (.ok (.ret (.bool true))) s):=by
 intro A R s q;obtain⟨hp,g,d,tk,M⟩:=s;obtain⟨Y,W,U,V⟩:=q;have f1:=xB;have O:¬(xs.size != ys.size)=true:=by simp[hsz]
 wp_walk using b8 Y,b8 W
 refine{uS plain_eq_loop _,jJ entry_eq_loop ?_};rw[kA plain_eq_loop _];exact Jm l b xs ys n m dd Z sl sm hsz _ 0 rfl A R _ ⟨Y,W,U,V⟩
theorem RcIn.lists{l b:aa}{xs ys:Array ae}(O:s.heap.IsList l xs)(hb:s.heap.IsList b ys)(hsz:xs.size=ys.size)(U:A.units<d8)
  (V:∀j (h1:j<xs.size) (h2:j<ys.size),ju prog w A.in1 s xs[j] ys[j]):RcIn prog w A s (.ref l) (.ref b):=fun E Q q=>by
 obtain⟨⟨I,dd,t1,sl⟩,Z,rfl,n,rfl⟩:=id O;obtain⟨⟨J,W,M,sm⟩,Y,rfl,m,rfl⟩:=id hb;refine i0 (op:=.Eq) {_,Z,Z9} {_,Y,Z9} F.slot_list_eq (mQ F.slot_list_eq {_,Z,Z9} F.entry_list_eq (F.args_list_eq_2 _ _) (Jn l b xs ys n m dd W sl sm hsz) {Z,Y,V,?_}) U;exact{fun z=>(nomatch z),q}
variable{K:Type}[DecidableEq K]{knd:KeyKind prog w K}
theorem pairs_at{es:List DictEntry}{kvs:List (K×ae)}(h:Pairs knd es kvs):∀{i:Nat} {e:DictEntry},es[i]?=Z8 e->∃Z,kvs[i]?=Z8 Z/\knd.is Z.1 e.key=true/\e.val=Z.2:=by
 induction h with
 |nil=>
  intro i e q;simp at q
 |cons a b _ Y=>
  intro i e q
  cases i with
  |zero=>
   simp at q;subst q;exact{_,Z9,a,b}
  |succ i=>
   obtain⟨Z,z⟩:=Y (i:=i) (by simpa using q);exact{Z,by simpa using z.1,z.2}
theorem FM{nm:String}{d b:aa}{kvs kws:List (K×ae)}{Q:Bool->ao->Prop}{E:ae->ao->Prop}(hd:(d==eY)=false)(hb:(b==eY)=false)(m1:s.heap.DictOf knd d kvs)(M:s.heap.DictOf knd b kws)
  (hl:kvs.length=kws.length) (he:∀W∈kvs,∃O,o7 kws W.1=Z8 O/\ju prog w A s W.2 O) (q:Q true s):aW (aX prog w) A (uT nm d b) Q E s:=by
 obtain⟨o1,es,ep,h1,x1,t1,k1,H,n1⟩:=id m1;obtain⟨o2,fs,fp,h2,x2,U,k2,p2,n2⟩:=id M;have D:es.size=kvs.length:=by rw[<- H.length,fu]
 have z2:fs.size=kws.length:=by rw[<- p2.length,fu]
 unfold uT;unfold Builtin.Dict.showsAll;rw[if_neg (by rw[hd];exact bR),if_neg (by rw[hb];exact bR)];refine au (bf (au (bf ?_)));refine au (o8 h1 t1 (au (o8 h2 U ?_)));rw[if_neg (by rw[D,z2,hl];simp)];refine au (wpAny_dictEpoch h1 t1 (au ?_));rw[KN];simp only[KO,Nat.sub_zero,FN,Nat.div_one];refine kW _ (fun rest r s'=>s'=s/\r.1=Z7/\∃i,rest=List.range' i (es.size-i)/\i<=es.size) _ ?_ ?_ _ _ {Z9,Z9,0,by simp,bO _}
 ·rintro x rest ⟨I,r2⟩ s' ⟨rfl,e1,i,V,hi⟩;have lt:i<es.size:=by
   rcases uz i es.size with z|z
   ·exact z
   ·rw[Nat.sub_eq_zero_of_le z]at V;simp at V
  obtain⟨rfl,Z⟩:x=i/\rest=List.range' (i+1) (es.size-(i+1)):=by
   rw[show es.size-i=(es.size-(i+1))+1 by omega,List.range'_succ]at V;injection V with a1 a2;exact⟨a1,a2⟩
  obtain⟨W,y1,J,y3⟩:=pairs_at H (i:=x) (e:=es[x]) (by simp[lt]);obtain⟨kk,y4,y5⟩:=k1 es[x] (Array.getElem_mem lt);have y6:kk=W.1:=knd.inj _ _ _ y4 J;subst y6;obtain⟨O,Y,g2⟩:=he W (bD y1);obtain⟨o3,fs',t,a1,_,a2,a3,g⟩:=M.mapOf;rw[h2]at a1
  cases a1;rw[U]at a2
  cases a2;rw[<- g W.1,findBy_of_findIdx?]at Y;refine au (o8 h1 t1 ?_);rw[Array.getElem?_eq_getElem lt];dsimp only;refine au (eU (au ?_));rw[y5];refine wpAny_dictFind_of J h2 U k2 ?_
  cases hj:fs.findIdx? fun e=>knd.is W.1 e.key with
  |none=>
   rw[hj]at Y
   cases Y
  |some j=>
   rw[hj]at Y;dsimp only at Y |-;refine au (o8 h2 U ?_)
   cases hx:fs[j]? with
   |none=>
    simp[hx]at Y
   |some fe=>
    have g3:fe.val=O:=by simpa[hx] using Y
    dsimp only;refine eU ?_;rw[y3,g3];refine g2 _ _ ?_;rw[if_neg (by decide)];refine au (wpAny_dictEpoch h1 t1 ?_);rw[if_neg (by simp)];exact bf {Z9,Z9,x+1,Z,lt}
 ·rintro⟨I,r2⟩ s' ⟨rfl,e1,_⟩;have e1:I=Z7:=e1;subst e1;exact bf q
theorem Ed(d b:aa)(O:(d==eY)=false)(hb:(b==eY)=false) :
  Av prog w (gW.«dict.__eq__» {[.ref d,.ref b],[]}) (fun A R s=>∃kvs kws,s.heap.DictOf knd d kvs/\s.heap.DictOf knd b kws/\kvs.length=kws.length /\
   (∀Z∈kvs,∃Y,o7 kws Z.1=Z8 Y/\ju prog w A.in1 s Z.2 Y)/\R (.ok (.ret (.bool true))) s):=
 .of_wp fun A R s h=>by
  obtain⟨kvs,kws,V,W,M,U,q⟩:=h;unfold gW.«dict.__eq__»;show aW _ _ (tu "__eq__" {[.ref d,.ref b],[]} >>= _) _ _ s;refine au ?_;unfold tu;unfold Builtin.Dict.notOrdered;rw[if_neg (by decide)];refine au (bf ?_);show aW _ _ (pure (Value.ref d,Value.ref b)) _ _ s;refine bf ?_;dsimp only;refine au (wpAny_isInstance W.typeIs isSubtype_dict_dict ?_);rw[if_neg (by decide)];refine au (bf (au (bf (au (FM O hb V W M U ?_)))));exact bf {_,Z9,q}
theorem RcIn.dicts{d b:aa}{kvs kws:List (K×ae)}(O:(d==eY)=false)(hb:(b==eY)=false)(Z:s.heap.DictOf knd d kvs)(V:s.heap.DictOf knd b kws)(J:kvs.length=kws.length)(M:A.units<d8)
  (U:∀Y∈kvs,∃W,o7 kws Y.1=Z8 W/\ju prog w A.in1 s Y.2 W):RcIn prog w A s (.ref d) (.ref b):=fun E Q q=>
 i0 (op:=.Eq) Z.typeIs V.typeIs F.slot_dict_eq (mQ F.slot_dict_eq Z.typeIs F.entry_dict_eq (F.args_dict_eq_2 _ _) (Ed (knd:=knd) d b O hb) {kvs,kws,Z,V,J,U,{fun z=>(nomatch z),q}}) M
end
end PySem
namespace L2
open PySem PySem.Spec PyProof.Rows PySem.SeqAt
def sc0:V->Prop
 |.int _=>True
 |.str _=>True
 |.bl _=>True
 |.non=>True
 |_=>False
def TEq(H:Hp):Nat->V->V->Prop
 |0,x,y=>sc0 x/\x=y
 |n+1,x,y=>(sc0 x/\x=y)\/(∃p q xs ys,x=.ref p/\y=.ref q/\H p=Z8 (.lst xs)/\H q=Z8 (.lst ys)/\aH (TEq H n) xs ys) \/
   ∃p q xs ys,x=.ref p/\y=.ref q/\H p=Z8 (.tup xs)/\H q=Z8 (.tup ys)/\aH (TEq H n) xs ys
def DEq(H:Hp):Nat->V->V->Prop
 |0,x,y=>∃n,n<=20/\TEq H n x y
 |n+1,x,y=>(∃n,n<=20/\TEq H n x y)\/(∃p q xs ys,x=.ref p/\y=.ref q/\H p=Z8 (.lst xs)/\H q=Z8 (.lst ys)/\aH (DEq H n) xs ys) \/
   ∃p q kvs kws,x=.ref p/\y=.ref q/\H p=Z8 (.dK kvs)/\H q=Z8 (.dK kws)/\aH (fun (a b:Key×V)=>a.1=b.1/\DEq H n a.2 b.2) kvs kws
section
variable{P:aL}{w:bA}{H:Hp}{s:ao}
theorem jP{R:V->V->Prop}:∀{xs ys:List V} {us vs:List ae},aH R xs ys->cS xs us->cS ys vs->us.length=vs.length/\∀j (h1:j<us.length) (h2:j<vs.length),∃x y,R x y/\RelV x us[j]/\RelV y vs[j]:=by
 intro xs ys us vs p
 induction p generalizing us vs with
 |nil=>
  intro a b
  cases a
  cases b;exact{Z9,fun j h1=>absurd h1 (gX _)}
 |cons r W Y=>
  intro a b
  cases a with
  |cons a Z=>
  cases b with
  |cons b bs=>
  obtain⟨e,z⟩:=Y Z bs;refine{by rw[aU,aU,e],fun j h1 h2=>?_}
  cases j with
  |zero=>exact{_,_,r,a,b}
  |succ j=>exact z j (pQ h1) (pQ h2)
theorem B1{A:bY}{x:V}{u v:ae}(h:sc0 x)(Y:RelV x u)(Z:RelV x v):EqAt A s u v true:=by
 cases x with
 |non=>cases Y;cases Z;exact EqAt.same _
 |bl b=>cases Y;cases Z;exact EqAt.same _
 |int i=>
  obtain⟨t,rfl⟩:=Y;obtain⟨t',rfl⟩:=Z;have z:=EqAt.int_int (A:=A) (s:=s) i t i t';rw[beq_self_eq_true]at z;exact z
 |str i=>
  obtain⟨t,rfl⟩:=Y;obtain⟨t',rfl⟩:=Z;have z:=EqAt.str_str (A:=A) (s:=s) i t i t';rw[beq_self_eq_true]at z;exact z
 |byt b=>exact h.elim
 |flt b=>exact h.elim
 |ref a=>exact h.elim
 |ty a=>exact h.elim
theorem gK(ok:HOk P w H s.heap){p:aa}{xs:List V}(h:H p=Z8 (.lst xs)):∃us:List ae,cS xs us/\s.heap.IsList p us.toArray:=by
 obtain⟨_,us,n,r,e⟩:=(show eB P w H s.heap p (.lst xs) from ok p _ h);exact{us,r,_,e,Z9,n,Z9}
theorem iu(ok:HOk P w H s.heap){p:aa}{xs:List V}(h:H p=Z8 (.tup xs)):∃us:List ae,cS xs us/\s.heap.IsTuple p us.toArray:=by
 obtain⟨_,us,r,o,e,c,n,d⟩:=(show eB P w H s.heap p (.tup xs) from ok p _ h);exact⟨us,r,o,e,c,n,d⟩
theorem rK(n:Nat):((eT n).all fun _=>true)=true:=by simp
theorem zM(ok:HOk P w H s.heap){R:V->V->Prop}{A:bY}{p q:aa}{xs ys:List V}(O:A.units<d8)(h1:H p=Z8 (.lst xs))(h2:H q=Z8 (.lst ys))(r:aH R xs ys)
  (W:∀x y u v,R x y->RelV x u->RelV y v->EqAt A.in1 s u v true):RcAt A s (.ref p) (.ref q) true:=by
 obtain⟨us,D,U⟩:=gK ok h1;obtain⟨vs,I,M⟩:=gK ok h2;obtain⟨e,z⟩:=jP r D I;have k:=RcAt.lists (e:=fun _=>true) U M (by simpa using e) O (fun j a b=>by
  obtain⟨x,y,J,Z,Y⟩:=z j (by simpa using a) (by simpa using b);simpa using W _ _ _ _ J Z Y)
 rw[rK]at k;exact k
theorem B2(ok:HOk P w H s.heap){R:V->V->Prop}{A:bY}{p q:aa}{xs ys:List V}(O:A.units<d8)(h1:H p=Z8 (.tup xs))(h2:H q=Z8 (.tup ys))(r:aH R xs ys)
  (W:∀x y u v,R x y->RelV x u->RelV y v->EqAt A.in1 s u v true):RcAt A s (.ref p) (.ref q) true:=by
 obtain⟨us,D,U⟩:=iu ok h1;obtain⟨vs,I,M⟩:=iu ok h2;obtain⟨e,z⟩:=jP r D I;have k:=RcAt.tuples (e:=fun _=>true) U M O (fun j a b=>by
  obtain⟨x,y,J,Z,Y⟩:=z j (by simpa using a) (by simpa using b);simpa using W _ _ _ _ J Z Y)
 rw[rK,Mu,aG,aG,e,beq_self_eq_true]at k;exact k
theorem EqAt.of_rc{A:bY}{l b:aa}(h:RcAt A s (.ref l) (.ref b) true):EqAt A s (.ref l) (.ref b) true:=by
 by_cases e:l=b
 ·rw[e];exact EqAt.same _
 ·exact EqAt.of_refs e h
theorem pT(ok:HOk P w H s.heap):∀{n:Nat} {A:bY} {x y:V} {u v:ae},A.units+n<d8->TEq H n x y->RelV x u->RelV y v->EqAt A s u v true
 |0,A,x,y,u,v,U,h,Y,Z=>by
  obtain⟨h1,rfl⟩:=h;exact B1 h1 Y Z
 |n+1,A,x,y,u,v,U,h,Y,Z=>by
  have W:A.in1.units+n<d8:=by
   show A.units+1+n<d8;omega
  rcases h with⟨h1,rfl⟩|⟨p,q,xs,ys,rfl,rfl,h1,h2,r⟩|⟨p,q,xs,ys,rfl,rfl,h1,h2,r⟩
  ·exact B1 h1 Y Z
  ·cases Y
   cases Z;exact EqAt.of_rc (zM ok (by omega) h1 h2 r fun _ _ _ _ z a b=>pT ok W z a b)
  ·cases Y
   cases Z;exact EqAt.of_rc (B2 ok (by omega) h1 h2 r fun _ _ _ _ z a b=>pT ok W z a b)
theorem vM(ok:HOk P w H s.heap){R:V->V->Prop}{A:bY}{p q:aa}{xs ys:List V}(O:A.units<d8)(h1:H p=Z8 (.lst xs))(h2:H q=Z8 (.lst ys))(r:aH R xs ys)
  (W:∀x y u v,R x y->RelV x u->RelV y v->ju P w A.in1 s u v):RcIn P w A s (.ref p) (.ref q):=by
 obtain⟨us,D,U⟩:=gK ok h1;obtain⟨vs,I,M⟩:=gK ok h2;obtain⟨e,z⟩:=jP r D I;exact RcIn.lists U M (by simpa using e) O (fun j a b=>by
  obtain⟨x,y,J,Z,Y⟩:=z j (by simpa using a) (by simpa using b);simpa using W _ _ _ _ J Z Y)
theorem Jo{κ:Type}{R:κ×V->κ×V->Prop}:∀{kvs kws:List (κ×V)} {us vs:List (κ×ae)},aH R kvs kws->KV kvs us->KV kws vs->us.length=vs.length/\∀(i:Nat) (q:κ×ae),us[i]?=Z8 q->∃Z a b,vs[i]?=Z8 Z/\R a b/\a.1=q.1/\b.1=Z.1/\RelV a.2 q.2/\RelV b.2 Z.2:=by
 intro kvs kws us vs p
 induction p generalizing us vs with
 |nil=>
  intro a b
  cases a
  cases b;exact{Z9,fun i q h=>by simp at h}
 |cons r U W=>
  intro a b
  cases a with
  |cons a Y=>
  cases b with
  |cons b bs=>
  obtain⟨e,z⟩:=W Y bs;refine{by rw[aU,aU,e],fun i q h=>?_}
  cases i with
  |zero=>
   simp at h;subst h;exact{_,_,_,Z9,r,a.1,b.1,a.2,b.2}
  |succ i=>
   obtain⟨Z,x,y,h1,h2⟩:=z i q (by simpa using h);exact{Z,x,y,by simpa using h1,h2}
theorem vN(ok:HOk P w H s.heap){R:V->V->Prop}{A:bY}{p q:aa}{kvs kws:List (Key×V)}(hu:A.units<d8)(h1:H p=Z8 (.dK kvs))(h2:H q=Z8 (.dK kws))(r:aH (fun (a b:Key×V)=>a.1=b.1/\R a.2 b.2) kvs kws)
  (D:∀x y u v,R x y->RelV x u->RelV y v->ju P w A.in1 s u v):RcIn P w A s (.ref p) (.ref q):=by
 obtain⟨_,n1,us,k1,M⟩:=(show eB P w H s.heap p (.dK kvs) from ok p _ h1);obtain⟨_,n2,vs,k2,U⟩:=(show eB P w H s.heap q (.dK kws) from ok q _ h2);obtain⟨e,z⟩:=Jo r k1 k2;refine RcIn.dicts n1 n2 M U e hu fun W Z=>?_;obtain⟨i,hi⟩:=dB Z;obtain⟨Y,a,b,J,⟨O,g⟩,g4,I,g6,g7⟩:=z i W hi;obtain⟨_,_,_,_,_,_,_,_,t⟩:=id U;have g8:vs[i]?=Z8 (W.1,Y.2):=by
  rw[J,<- g4,O,I]
 exact{Y.2,valueAt_of_get t g8,D _ _ _ _ g g6 g7}
theorem vO(ok:HOk P w H s.heap):∀{n:Nat} {A:bY} {x y:V} {u v:ae},A.units+n+20<d8->DEq H n x y->RelV x u->RelV y v->ju P w A s u v
 |0,A,x,y,u,v,U,h,Y,Z=>by
  obtain⟨m,h0,h1⟩:=h;exact ju.of_at (pT ok (by omega) h1 Y Z)
 |n+1,A,x,y,u,v,U,h,Y,Z=>by
  have W:A.in1.units+n+20<d8:=by
   show A.units+1+n+20<d8;omega
  rcases h with⟨m,h0,h1⟩|⟨p,q,xs,ys,rfl,rfl,h1,h2,r⟩|⟨p,q,kvs,kws,rfl,rfl,h1,h2,r⟩
  ·exact ju.of_at (pT ok (by omega) h1 Y Z)
  ·cases Y
   cases Z;exact ju.refs (vM ok (by omega) h1 h2 r fun _ _ _ _ z a b=>vO ok W z a b)
  ·cases Y
   cases Z;exact ju.refs (vN ok (by omega) h1 h2 r fun _ _ _ _ z a b=>vO ok W z a b)
end
section
variable{X:Cx}
theorem Mv(hu:X.A.units+50<d8):OpR X (dI .Eq) (fun x y H Q=>∃n p q,n<=20/\x=.ref p/\y=.ref q/\DEq H n x y/\Q (.bl true) H):=by
 intro pins s σ H x y v u Q I rx ry h;obtain⟨n,p,q,hn,rfl,rfl,d,k⟩:=h
 cases rx
 cases ry;have fin:EP X pins σ Q (.bool true) s:={.bl true,H,I,Z9,k};have Z:X.A.units<d8:=by omega
 have V:RcIn X.prog X.w X.A s (.ref p) (.ref q):=by
  have O:∀m,m<=20->X.A.in1.units+m<d8:=fun m U=>by
   show X.A.units+1+m<d8;omega
  have tq:∀m,m<=20->TEq H m (.ref p) (.ref q)->RcIn X.prog X.w X.A s (.ref p) (.ref q):=fun m U t=>by
   cases m with
   |zero=>exact t.1.elim
   |succ m=>
    rcases t with⟨h1,_⟩|⟨J,g,xs,ys,e1,W,h1,h2,r⟩|⟨J,g,xs,ys,e1,W,h1,h2,r⟩
    ·exact h1.elim
    ·cases e1
     cases W;intro E D M;exact zM I.hok Z h1 h2 r (fun _ _ _ _ z a b=>pT I.hok (O m (by omega)) z a b) X.prog X.w E D M
    ·cases e1
     cases W;intro E D M;exact B2 I.hok Z h1 h2 r (fun _ _ _ _ z a b=>pT I.hok (O m (by omega)) z a b) X.prog X.w E D M
  cases n with
  |zero=>
   obtain⟨m,U,t⟩:=d;exact tq m U t
  |succ n=>
   have Y:X.A.in1.units+n+20<d8:=by
    show X.A.units+1+n+20<d8;omega
   rcases d with⟨m,U,t⟩|⟨J,g,xs,ys,e1,W,h1,h2,r⟩|⟨J,g,kvs,kws,e1,W,h1,h2,r⟩
   ·exact tq m U t
   ·cases e1
    cases W;exact vM I.hok Z h1 h2 r fun _ _ _ _ z a b=>vO I.hok Y z a b
   ·cases e1
    cases W;exact vN I.hok Z h1 h2 r fun _ _ _ _ z a b=>vO I.hok Y z a b
 exact V _ _ fin
theorem FO(hu:X.A.units+50<d8):OpR X (dI .NotEq) (fun x y H Q=>∃n p q,n<=20/\x=.ref p/\y=.ref q/\TEq H n x y/\Q (.bl false) H):=by
 intro pins s σ H x y v u Q I Z W h;obtain⟨n,p,q,hn,rfl,rfl,d,k⟩:=h
 cases Z
 cases W;have fin:EP X pins σ Q (.bool false) s:={.bl false,H,I,Z9,k};have Y:X.A.units<d8:=by omega
 cases n with
 |zero=>exact d.1.elim
 |succ m=>
  have V:X.A.in1.units+m<d8:=by
   show X.A.units+1+m<d8;omega
  rcases d with⟨h1,_⟩|⟨g,q',xs,ys,e1,U,h1,h2,r⟩|⟨g,q',xs,ys,e1,U,h1,h2,r⟩
  ·exact h1.elim
  ·cases e1
   cases U;obtain⟨us,M,O⟩:=gK I.hok h1;obtain⟨vs,t,J⟩:=gK I.hok h2;obtain⟨e,z⟩:=jP r M t;have k:=RcNeAt.lists (A:=X.A) (e:=fun _=>true) O J (by simpa using e) Y (fun j a b=>by
    obtain⟨x,y,D,Z,W⟩:=z j (by simpa using a) (by simpa using b);simpa using pT I.hok V D Z W)
   rw[rK]at k;exact k X.prog X.w _ _ fin
  ·cases e1
   cases U;obtain⟨us,M,O⟩:=iu I.hok h1;obtain⟨vs,t,J⟩:=iu I.hok h2;obtain⟨e,z⟩:=jP r M t;have k:=RcNeAt.tuples (A:=X.A) (e:=fun _=>true) O J Y (fun j a b=>by
    obtain⟨x,y,D,Z,W⟩:=z j (by simpa using a) (by simpa using b);simpa using pT I.hok V D Z W)
   rw[rK,Mu,aG,aG,e,beq_self_eq_true]at k;exact k X.prog X.w _ _ fin
theorem FP{A:bY}{k:Nat}(Z:cZ k A):A.units+50<d8:=by
 have:=Z.un;omega
end
end L2
namespace PySem
open Sem (wp)
section
variable{prog:aL}{w:bA}{A:bY}{E:ae->ao->Prop}{s:ao}
end
section
variable{prog:aL}{w:bA}{A:bY}{R:Md->ao->Prop}{I:aa}{fp wr:List aa}{n:Nat}{P:Nat->ae->Prop}{St:Nat->cu->Prop}{G:cu->Prop}
end
section
variable{prog:aL}{w:bA}{A:bY}{E:ae->ao->Prop}{s:ao}
end
section
variable{prog:aL}{w:bA}{K:Type}[DecidableEq K]{knd:HeapKind prog w K}{A:bY}{E:ae->ao->Prop}{s:ao}
end
section
variable{prog:aL}{w:bA}{A:bY}{E:ae->ao->Prop}{s:ao}
end
end PySem
namespace HT
theorem A4:∀a:List Int,lexLt a a=false
 | []=>rfl
 |x::r=>by rw[kU,if_pos rfl];exact A4 r
theorem lx_trans:∀{a b c:List Int},lexLt a b=true->lexLt b c=true->lexLt a c=true
 | [],[],_,h,_=>by cases h
 | [],_::_,[],_,h=>by cases h
 | [],_::_,_::_,_,_=>rfl
 |_::_,[],_,h,_=>by cases h
 |_::_,_::_,[],_,h=>by cases h
 |x::a,y::b,z::c,h,k=>by
  rw[kU]at h k |-
  by_cases e:x=y
  ·subst e;rw[if_pos rfl]at h
   by_cases f:x=z
   ·subst f;rw[if_pos rfl]at k |-;exact lx_trans h k
   ·rw[if_neg f]at k |-;exact k
  ·rw[if_neg e]at h;have h:=of_decide_eq_true h
   by_cases f:y=z
   ·subst f;rw[if_neg e];exact decide_eq_true h
   ·rw[if_neg f]at k;have k:=of_decide_eq_true k;rw[if_neg (by omega)];exact decide_eq_true (by omega)
theorem rL:∀{a b:List Int},lexLt a b=false->lexLt b a=false->a=b
 | [],[],_,_=>rfl
 | [],_::_,h,_=>by cases h
 |_::_,[],_,h=>by cases h
 |x::a,y::b,h,k=>by
  rw[kU]at h k
  by_cases e:x=y
  ·subst e;rw[if_pos rfl]at h k;rw[rL h k]
  ·rw[if_neg e]at h;rw[if_neg (fun z=>e z.symm)]at k;have h:=of_decide_eq_false h;have k:=of_decide_eq_false k;exact absurd (by omega) e
theorem lx_asym{a b:List Int}(h:lexLt a b=true):lexLt b a=false:=by
 cases e:lexLt b a with
 |false=>rfl
 |true=>
  have z:=lx_trans h e;rw[A4]at z
  cases z
theorem lx_of_not{a b:List Int}(h:lexLt a b=false)(n:a≠b):lexLt b a=true:=by
 cases e:lexLt b a with
 |true=>rfl
 |false=>exact absurd (rL h e) n
open PySem PyProof.Rows
open PySem.SeqAt
open PySem.AutoSeq1 (wpAny_loadPart')
open PySem.MeetsSeq PySem.MeetsSeq2 PySem.MeetsSeq3
theorem Jp(l b:aa)(xs ys:Array ae)(n m:Nat)(dd de:Option aa)(sl sm:Array (Option ae))(ns ms:List Int)(hi:eM xs.toList ns)(hj:eM ys.toList ms) :
  Meets (gW.«tuple.__gt__» {[.ref l,.ref b],[]})
   (fun _ R s=>s.heap.get? l=Z8 {cls:=.type "tuple",dict:=dd,data:=.seq xs n,slots:=sl}/\s.heap.get? b=Z8 {cls:=.type "tuple",dict:=de,data:=.seq ys m,slots:=sm}/\R (.ok (.ret (.bool (lexLt ms ns)))) s):=
 .of_wp fun prog w A R s h=>by
  obtain⟨hp,g,d,tk,H⟩:=s;obtain⟨hl,hb,h⟩:=h;have f2:=iZ;have z1:xs.size=ns.length:=by rw[<- hi.length];simp
  have z2:ys.size=ms.length:=by rw[<- hj.length];simp
  wp_walk using b8 hl,b8 hb,kW _ (fun rest b s'=>b.1=Z7/\s'=⟨hp,g,d,tk,H⟩/\∃(vs z:List ae) (W Y:List Int),rest=vs.zip z /\
   eM vs W/\eM z Y/\W.length+ys.size=Y.length+xs.size/\R (.ok (.ret (.bool (lexLt Y W)))) ⟨hp,g,d,tk,H⟩) _
  case turn=>
   rintro⟨y,x⟩ rest b s' ⟨J,rfl,vs,z,W,Y,V,I,hw,Z,U⟩
   cases I with
   |nil=>rw[Fs]at V;cases V
   |cons a t I=>
    cases hw with
    |nil=>rw[ET]at V;cases V
    |cons c u hw=>
     rw[gG]at V;injection V with bz M;injection bz with hy hx;subst hy hx;rw[kU]at U;simp only[aU]at Z;obtain⟨e,he,O⟩:=zw A.in1 ⟨hp,g,d,tk,H⟩ a t c u;refine au (he prog w _ _ ?_)
     cases e with
     |true=>
      rw[if_pos (O.mp rfl).symm]at U
      wp_walk
      exact{Z9,Z9,_,_,_,_,M,I,hw,by omega,U}
     |false=>
      rw[if_neg (fun q=>absurd (O.mpr q.symm) bR)]at U;have bB:∀(E:ae->ao->Prop) (Q:ae->ao->Prop),Q (.bool (decide (a>c))) ⟨hp,g,d,tk,H⟩->aW (aX prog w) A.in1 (o6 .Gt (.int a t) (.int c u)) Q E ⟨hp,g,d,tk,H⟩:=fun E Q q=>
       (PyProof.Rows.gt_int q:aW (aX prog w) A.in1 (dI .Gt (.int a t) (.int c u)) Q E _)
      wp_walk using bB
      exact{_,Z9,by simpa using U}
  case fin=>
   rintro⟨b1,b2⟩ s' ⟨J,rfl,vs,z,W,Y,V,bw,D,Z,U⟩;simp only at J;subst J;have I:lexLt Y W=decide (ys.size<xs.size):=by
    cases bw with
    |nil=>
     cases D with
     |nil=>
      simp only[cH]at Z;rw[qK];exact (decide_eq_false (by omega)).symm
     |cons c u hw=>
      simp only[cH,aU]at Z;rw[pE];exact (decide_eq_false (by omega)).symm
    |cons a t I=>
     cases D with
     |nil=>
      simp only[cH,aU]at Z;rw[pC];exact (decide_eq_true (by omega)).symm
     |cons c u hw=>
      rw[gG]at V
      cases V
   rw[I]at U
   wp_walk
   exact{_,Z9,by simpa[jh] using U}
  case h=>
   exact{Z9,Z9,xs.toList,ys.toList,ns,ms,Z9,hi,hj,by omega,h}
theorem gt_tup{prog:aL}{w:bA}{A:bY}{E:ae->ao->Prop}{s:ao}{l b:aa}{xs ys:Array ae}{ns ms:List Int}{Q:ae->ao->Prop}(O:uE s.heap l xs)(hb:uE s.heap b ys)(hi:eM xs.toList ns)(U:eM ys.toList ms)
  (V:A.units<d8) (h:Q (.bool (lexLt ms ns)) s):aW (aX prog w) A (dI .Gt (.ref l) (.ref b)) Q E s:=by
 obtain⟨⟨I,dd,t1,sl⟩,Z,rfl,n,rfl⟩:=id O;obtain⟨⟨J,W,M,sm⟩,Y,rfl,m,rfl⟩:=id hb;exact qW (op:=.Gt) {_,Z,Z9} {_,Y,Z9} zj yz (xC _ _) (Jp l b xs ys n m dd W sl sm ns ms hi U)
  {Z,Y,show Value.bool (lexLt ms ns)≠Value.notImplemented/\Q (.bool (lexLt ms ns)) s from{(fun x=>nomatch x),h}} V
end HT
namespace L2
open PySem PySem.Spec PyProof.Rows
theorem uc:∀{ns ms:List Int},ns.map V.int=ms.map V.int->ns=ms
 | [],[],_=>rfl
 | [],_::_,h=>by cases h
 |_::_,[],h=>by cases h
 |x::a,y::b,h=>by
  injection h with h1 h2;injection h1 with h1;rw[h1,uc h2]
section
variable{X:Cx}
theorem xE{P:aL}{w:bA}{H:Hp}{s:ao}(ok:HOk P w H s.heap){A:bY}{a b:aa}{ns ms:List Int}(M:A.units<d8)(ha:H a=Z8 (.tup (ns.map V.int)))(hb:H b=Z8 (.tup (ms.map V.int))) :
  SeqAt.EqAt A s (.ref a) (.ref b) (decide (ns=ms)):=by
 by_cases e:a=b
 ·subst e;rw[ha]at hb;injection hb with hb;injection hb with hb;rw[uc hb,decide_eq_true rfl];exact SeqAt.EqAt.same _
 ·obtain⟨us,O,U⟩:=iu ok ha;obtain⟨vs,r2,I⟩:=iu ok hb;have k1:eM us ns:=intsAre_of O;have k2:eM vs ms:=intsAre_of r2;have at_:∀{us:List ae} {ns:List Int},eM us ns->∀(j:Nat) (h:j<us.length),∃(z:Int) (t:Tok),us[j]=.int z t/\ns[j]?=Z8 z:=by
   intro us ns k
   induction k with
   |nil=>intro j h;exact absurd h (gX _)
   |cons z t _ D=>
    intro j h
    cases j with
    |zero=>exact⟨z,t,Z9,Z9⟩
    |succ j=>exact D j (pQ h)
  have Z:=SeqAt.RcAt.tuples (A:=A) (e:=fun j=>decide (ns[j]?=ms[j]?)) U I M fun j h1 h2=>by
   obtain⟨x,t,e1,Y⟩:=at_ k1 j (by simpa using h1);obtain⟨y,t',e3,e4⟩:=at_ k2 j (by simpa using h2);rw[Y,e4];have z:=zf (A:=A.in1) (s:=s) x t y t';have q:(x==y)=decide (Z8 x=Z8 y):=by
    by_cases e:x=y
    ·subst e;simp
    ·have e':¬Z8 x=Z8 y:=fun q=>e (cI q);rw[decide_eq_false e',beq_eq_false_iff_ne.mpr e]
   rw[q]at z;simpa[e1,e3] using z
  have fin:((eT (min us.toArray.size vs.toArray.size)).all (fun j=>decide (ns[j]?=ms[j]?))&&us.toArray.size==vs.toArray.size)=decide (ns=ms):=by
   have J:us.toArray.size=ns.length:=by rw[aG];exact k1.length
   have W:vs.toArray.size=ms.length:=by rw[aG];exact k2.length
   rw[J,W]
   by_cases c:ns=ms
   ·subst c;simp
   ·rw[decide_eq_false c,Bool.and_eq_false_iff]
    by_cases l:ns.length=ms.length
    ·left
     rw[List.all_eq_false];refine uU fun g=>c (FQ fun j=>?_)
     by_cases hj:j<ns.length
     ·refine uU fun ne=>g {j,xh.mpr (by omega),?_};rw[decide_eq_false ne];simp
     ·rw[gI (by omega),gI (by omega)]
    ·right
     exact beq_eq_false_iff_ne.mpr l
  rw[fin]at Z;exact SeqAt.EqAt.of_refs e Z
open Classical in
def Jq:V->List V->Hp->VK->Prop:=fun x vs H Q=>∃l xs i y,x=.ref l/\vs=[.int (i:Nat),y]/\H l=Z8 (.lst xs)/\i<=xs.length/\xs.length<aC/\Q .non (upd H l (.lst (xs.take i++y::xs.drop i)))
theorem Ee:MtM X "list.insert" Jq:=by
 intro pins s σ H x vs v us Q I J rv h;obtain⟨l,xs,i,y,rfl,rfl,M,hi,hz,q⟩:=h
 cases J;obtain⟨u,W,rfl,g,U⟩:=rv.two;obtain⟨t,rfl⟩:=g;obtain⟨z,Z,n,r,hl,e⟩:=I.lstM M;have O:Z.toArray.size<=aC:=by rw[aG];omega
 generalize hx:((i:Nat):Int)=x;have V:sI x=true:=by
  have D:aC=16777216:=lH;exact fitsIndex_both (by omega) (by omega)
 have Y:¬(!sI x)=true:=by rw[V];exact bR
 refine oa F.slot_list_insert {_,e,Z9} F.entry_list_insert (F.args_list_insert_3 _ _ _) (Oj l Z.toArray n x t W Y O) {e,?_};refine{.non,_,I.lset (its':=Z.take i++W::Z.drop i) M e ?_ ((r.take i).append (.cons U (r.drop i))) ?_,Z9,q}
 ·have k:(if x<0 then (x+(Z.toArray.size:Int)).toNat else min x.toNat Z.toArray.size)=i:=by
   rw[if_neg (by omega),aG];omega
  show (Z.toArray.extract 0 (if x<0 then (x+(Z.toArray.size:Int)).toNat else min x.toNat Z.toArray.size)).push W++Z.toArray.extract (if x<0 then (x+(Z.toArray.size:Int)).toNat else min x.toNat Z.toArray.size)=_;rw[k];apply Array.toList_inj.mp;simp[List.extract_eq_take_drop];exact Aw (by rw[oP];exact aB _)
 ·rw[ay,aU,cK,oP];omega
theorem B3{z:V}(h:sc0 z):scal z z=true:=by
 cases z with
 |non=>rfl
 |bl b=>rfl
 |int i=>rfl
 |str x=>rfl
 |byt b=>exact cP h
 |flt b=>exact cP h
 |ref a=>exact cP h
 |ty a=>exact cP h
theorem Mw(M:X.A.units+50<d8):OpR X (dI .Eq) (fun x y H Q=>∃n,n<=20/\TEq H n x y/\Q (.bl true) H):=by
 intro pins s σ H x y v u Q I W U h;obtain⟨n,J,d,q⟩:=h;have sc:∀z,sc0 z->x=z->y=z->aW (aX X.prog X.w) X.A (dI .Eq v u) (EP X pins σ Q) X.xe s:=by
  rintro z O rfl rfl;refine eW pins s σ H _ _ v u Q I W U {B3 O,?_};rw[decide_eq_true rfl];exact q
 have V:∀p Z,x=.ref p->y=.ref Z->aW (aX X.prog X.w) X.A (dI .Eq v u) (EP X pins σ Q) X.xe s:=fun p Z e1 Y=>
  Mv M pins s σ H x y v u Q I W U {0,p,Z,by omega,e1,Y,⟨n,J,d⟩,q}
 cases n with
 |zero=>exact sc x d.1 rfl d.2.symm
 |succ n=>
  rcases d with⟨h1,h2⟩|⟨p,Z,_,_,e1,Y,_⟩|⟨p,Z,_,_,e1,Y,_⟩
  ·exact sc x h1 rfl h2.symm
  ·exact V p Z e1 Y
  ·exact V p Z e1 Y
theorem tw(M:X.A.units+50<d8):OpR X (dI .NotEq) (fun x y H Q=>∃n,n<=20/\TEq H n x y/\Q (.bl false) H):=by
 intro pins s σ H x y v u Q I W U h;obtain⟨n,J,d,q⟩:=h;have sc:∀z,sc0 z->x=z->y=z->aW (aX X.prog X.w) X.A (dI .NotEq v u) (EP X pins σ Q) X.xe s:=by
  rintro z O rfl rfl;refine KF pins s σ H _ _ v u Q I W U {B3 O,?_};rw[decide_eq_true rfl];exact q
 have V:∀p Z,x=.ref p->y=.ref Z->aW (aX X.prog X.w) X.A (dI .NotEq v u) (EP X pins σ Q) X.xe s:=fun p Z e1 Y=>
  FO M pins s σ H x y v u Q I W U ⟨n,p,Z,J,e1,Y,d,q⟩
 cases n with
 |zero=>exact sc x d.1 rfl d.2.symm
 |succ n=>
  rcases d with⟨h1,h2⟩|⟨p,Z,_,_,e1,Y,_⟩|⟨p,Z,_,_,e1,Y,_⟩
  ·exact sc x h1 rfl h2.symm
  ·exact V p Z e1 Y
  ·exact V p Z e1 Y
end
section
variable{X:Cx}{pins:List (aa×Obj)}{σ:St}{H:Hp}{s:ao}{d:aa}
theorem Inv.swap{o o':HO}(I:Inv X pins σ H s)(e:H d=Z8 o)(t:∀xs,o≠.tup xs)(M:∀ps,o≠.tbl ps)(O:∀a,o≠.own a)(D:∀Z u,X.H₀ d≠Z8 (.frz Z u))(ok:eB X.prog X.w (upd H d o') s.heap d o'):Inv X pins σ (upd H d o') s:=by
 have Y:∀b,H b=Z7->upd H d o' b=Z7:=fun b z=>by
  rw[aJ (av e z).symm];exact z
 have W:∀b xs,H b=Z8 (.tup xs)->upd H d o' b=Z8 (.tup xs):=fun b xs z=>by
  rw[aJ (oK z e (fun q=>t xs q.symm))];exact z
 have U:∀b a,H b=Z8 (.own a)->upd H d o' b=Z8 (.own a):=fun b a z=>by
  rw[aJ (oK z e (fun q=>O a q.symm))];exact z
 refine{I.ok,I.os,I.bare,{I.base.keep,I.base.slot,fun b Z q n hx=>Y b (I.base.free b Z q n hx),I.base.there,fun b xs q=>W b xs (I.base.tups b xs q),fun b Z u q=>?_,fun b ps q=>?_},I.loc,I.cell,Y _ I.free,fun x c q=>Y c (I.freeC x c q),fun p hp=>?_,fun b u q=>?_,I.len}
 ·have z:=I.base.frzs b Z u q;have J:b≠d:=fun y=>D Z u (by rw[<- y];exact q);rw[aJ J];exact z
 ·obtain⟨more,z⟩:=I.base.tbls b ps q;refine{more,?_};rw[aJ (oK z e (fun y=>M _ y.symm))];exact z
 ·obtain⟨h1,h2,V⟩:=I.pin p hp;exact{h1,Y _ h2,V}
 ·by_cases z:b=d
  ·subst z;rw[ag]at q
   cases q;exact ok
  ·rw[aJ z]at q;exact (I.hok b u q).stay (fun c v _ y=>y) (fun c y=>U c b y) W
theorem Inv.freeze{kvs:List (Key×V)}(I:Inv X pins σ H s)(e:H d=Z8 (.dK kvs))(W:∀Z u,X.H₀ d≠Z8 (.frz Z u)):∃od,s.heap.get? d=Z8 od/\Inv X pins σ (upd H d (.frz od (.dK kvs))) s:=by
 obtain⟨h1,h2,vs,r,Z,es,ep,Y,U⟩:=(show eB X.prog X.w H s.heap d (.dK kvs) from I.hok d _ e);exact{Z,Y,I.swap e (fun xs z=>by cases z) (fun ps z=>by cases z) (fun a z=>by cases z) W ⟨Y,h1,h2,vs,r,Z,es,ep,Y,U⟩}
theorem Inv.thaw{kvs:List (Key×V)}{od:Obj}(I:Inv X pins σ H s)(e:H d=Z8 (.frz od (.dK kvs)))(Y:∀Z u,X.H₀ d≠Z8 (.frz Z u)):Inv X pins σ (upd H d (.dK kvs)) s:=by
 obtain⟨_,h1⟩:=(show eB X.prog X.w H s.heap d (.frz od (.dK kvs)) from I.hok d _ e);exact I.swap e (fun xs z=>by cases z) (fun ps z=>by cases z) (fun a z=>by cases z) Y h1
end
def Iti(d:aa)(od:Obj)(kvs:List (Key×V)):It:=
 {fun i H=>H d=Z8 (.frz od (.dK kvs))/\i<kvs.length,fun i H x H'=>∃t Z,x=.ref t/\H t=Z7/\kvs[i]?=Z8 Z/\H'=upd H t (.tup [kV Z.1,Z.2]),fun i H=>H d=Z8 (.frz od (.dK kvs))/\kvs.length<=i}
theorem KV.at_{kvs:List (Key×V)}{vs:List (Key×ae)}(r:KV kvs vs):∀{i:Nat} {Z:Key×V},kvs[i]?=Z8 Z->∃u,vs[i]?=Z8 (Z.1,u)/\RelV Z.2 u:=by
 induction r with
 |nil=>intro i Z h;simp at h
 |cons a _ Y=>
  intro i Z h
  cases i with
  |zero=>
   simp at h;subst h;exact{_,by rw[List.getElem?_cons_zero,a.1],a.2}
  |succ i=>
   obtain⟨u,h1,h2⟩:=Y (by simpa using h);exact{u,by simpa using h1,h2}
theorem Mx{P:aL}{w:bA}{k:Key}{u:ae}(h:(eN P w).is k u=true):RelV (kV k) u:=by
 rcases gu h with⟨i,t,rfl,rfl⟩|⟨x,t,rfl,rfl⟩
 ·exact⟨t,Z9⟩
 ·exact⟨t,Z9⟩
theorem tD:entryFor table "dict_itemiterator.__iter__"=Z8 gW.«dict_keyiterator.__iter__»:=
 entryFor_alias (id':="dict_keyiterator.__iter__") (by kernel_rfl) rfl (by decide +kernel) (by kernel_rfl)
section
variable{P:aL}{w:bA}{K:af}
def Jr(o:Obj):Nat:=match o.data with|.dict _ ep=>ep|_=>0
theorem A5{X:Cx}{pins:List (aa×Obj)}{σ:St}{H:Hp}{s:ao}{d:aa}{od:Obj}{kvs:List (Key×V)}(I:Inv X pins σ H s)(e:H d=Z8 (.frz od (.dK kvs))):∃vs,KV kvs vs/\s.heap.DictAt (eN X.prog X.w) d vs (Jr od):=by
 obtain⟨Y,h1,h2,vs,r,J,es,ep,Z,M,W,O⟩:=(show eB X.prog X.w H s.heap d (.frz od (.dK kvs)) from I.hok d _ e);rw[Y]at Z
 cases Z;have U:Jr od=ep:=by
  unfold Jr;rw[W]
 rw[U];exact⟨vs,r,od,es,Y,M,W,O⟩
theorem A6{elts:List cL} {x1} {pos:Pos} (d it:aa) (od:Obj) (kvs:List (Key×V)) (ca:d≠it):Dw P w K (.Tuple elts x1 pos) (Iti d od kvs) [it] it (fun i h=>∃ok Y,IsItemIter h it d i kvs.length (Jr od) ok Y) where
 mem:=by simp
 obj:=fun i h st b hb=>by
  have e:b=it:=by simpa using hb
  subst e;obtain⟨ok,Y,e⟩:=st;exact{_,e,fun v z=>by cases z}
 keep:=fun i h h' ⟨ok,Y,st⟩ k=>{ok,Y,k it (by simp) _ st}
 item:=by
  intro X hP hw hK hc i pins s σ H E I hf st hg;subst hP hw hK;obtain⟨ok,Y,st⟩:=st;obtain⟨hd,hi⟩:=hg;obtain⟨vs,r,da⟩:=A5 I hd;have D:=r.length;have O:kvs[i]?=Z8 kvs[i]:=aO hi;obtain⟨u,hu,ru⟩:=r.at_ O;obtain⟨M,f1,f2,t,g,f5⟩:=hf it (by simp);rw[D]at st;refine wpAny_pyNext_items_item st da hu fun key h' hk U ce cc kp=>?_;have I1:Inv X pins σ H {s with heap:=h'}:=I.turned (t':=s.toks) (fun b o hb e=>kp b o hb e) M f1 t g f5;refine{_,Z9,wpAny_letOwnedTupleGo_items U fun h2 W sb=>?_};have Z:Inv X pins σ H {s with heap:=h2}:=I1.turned (t':=s.toks) (fun b o hb e=>sb.extBut b o hb e) M f1 t g f5;have fr:H s.heap.objs.size=Z7:=I.hok.fresh (aB _);have J:s.heap.objs.size≠it:=(aR (aQ st)).symm;have e2:h2.get? s.heap.objs.size=Z8 {cls:=.type "tuple",data:=.seq #[key,u]}:=sb.extBut _ _ J ce;have I3:Inv X pins σ (upd H s.heap.objs.size (.tup [kV kvs[i].1,kvs[i].2])) {s with heap:=h2}:=by
   have cd:∀b v,s.heap.get? b=Z8 v->b≠it->h2.get? b=Z8 v:=fun b v q n=>sb.extBut b v n (kp b v n q);exact⟨Z.ok,Z.os,Z.bare,⟨Z.base.keep,Z.base.slot,fun b ob q n hx=>by
     have z:=Z.base.free b ob q n hx
     by_cases y:b=s.heap.objs.size
     ·exfalso;have lt:b<s.heap.objs.size:=aZ (aQ q) I.sz;rw[y]at lt;exact absurd lt (hU _)
     ·rw[aJ y];exact z,Z.base.there,fun b xs q=>by
     rw[aJ (av (Z.base.tups b xs q) fr)];exact Z.base.tups b xs q,fun b ob v q=>by
     rw[aJ (av (Z.base.frzs b ob v q) fr)];exact Z.base.frzs b ob v q,fun b ps q=>by
     obtain⟨m,z⟩:=Z.base.tbls b ps q;exact{m,by rw[aJ (av z fr)];exact z}⟩,Z.loc,Z.cell,by
     rw[aJ (aR I.lt)];exact Z.free,fun x c q=>by
     obtain⟨v,y⟩:=I.cell x c q;rw[aJ (aR y.lt)];exact Z.freeC x c q,fun p hp=>by
     obtain⟨h1,ci,h3⟩:=Z.pin p hp;obtain⟨g1,_⟩:=I.pin p hp;refine{h1,?_,h3};rw[aJ (aR (aQ g1))];exact ci,fun b v q=>by
     by_cases y:b=s.heap.objs.size
     ·subst y;rw[ag]at q
      cases q;exact{(by show 2<=aC;decide),[key,u],.cons (Mx hk) (.cons ru .nil),_,e2,Z9,0,Z9}
     ·rw[aJ y]at q;exact (Z.hok b v q).stay (fun c v' _ z=>z) (fun c z=>by rw[aJ (av z fr)];exact z) fun c xs z=>by rw[aJ (av z fr)];exact z,Z.len⟩
  refine{.ref s.heap.objs.size,_,I3,Z9,{_,_,Z9,fr,O,Z9},{_,_,by rw[D];exact W},fun b hb=>?_};have e:b=it:=by simpa using hb
  subst e;rw[aJ (fX J)];exact M
 done:=by
  intro X hP hw hK hc i pins s σ H E I hf st hg;subst hP hw hK;obtain⟨ok,Y,st⟩:=st;obtain⟨hd,hi⟩:=hg;obtain⟨vs,r,da⟩:=A5 I hd;have D:=r.length;obtain⟨M,f1,f2,t,g,f5⟩:=hf it (by simp);rw[D]at st;exact wpAny_pyNext_items_end (I.ok.hd hc) st da (gI (by omega)) fun h' eb=>{Z9,I.turned (t':=s.toks) (fun b o hb e=>eb b o hb e) M f1 t g f5}
 self:=fun A i s Q E ⟨ok,Y,st⟩ h=>by
  have ty:s.TypeIs (.ref it) "dict_itemiterator":={_,st,Z9};refine w8 ty F.slot_dict_itemiterator_iter (qF F.slot_dict_itemiterator_iter ty tD ?_ (F.args_dict_itemiterator_iter_1 _));show aW _ _ (ret (.ref it)) _ _ s;exact bf {_,Z9,"dict_itemiterator",_,ty,F.slot_dict_itemiterator_next.lookup,h}
end
section
variable{X:Cx}{o:cL}{to:TE}{apos cpos:Pos}{elts:List cL}{x1:Nat}{pos:Pos}
def Mz(X:Cx)(to:TE):TI:=fun σ H R=>to σ H fun x H1=>∃d kvs,x=.ref d/\H1 d=Z8 (.dK kvs)/\(∀Z u,X.H₀ d≠Z8 (.frz Z u))/\∀od,R (Iti d od kvs) (upd H1 d (.frz od (.dK kvs)))
theorem zN(ho:PE X o to)(Y:lF o "items" X.env (fy o X.env)=fy o X.env:=by rfl)(Z:(apos.endLine==cpos.line)=true:=by rfl):PI X (.Tuple elts x1 pos) (.Call (.Attribute o "items" apos) [] [] cpos) (Mz X to):=by
 intro pins s σ H R I h;refine EV Y Z (thn (ho pins s σ H _ I h) fun v W ⟨x,H1,J,r1,d,kvs,ex,M,nf,q⟩=>?_);subst ex
 cases r1;obtain⟨hz,D,z,k1,V⟩:=(show eB X.prog X.w H1 W.heap d (.dK kvs) from J.hok d _ M);obtain⟨O,_,_,t,g2,_⟩:=id V;refine{"dict","dict.items",mT,xH,PySem.F.type_dict_items,V.typeIs,fun a e=>?_,oV rfl (BP ?_)}
 ·cases e;exact⟨O,t,g2.2.1⟩
 refine mQ xH V.typeIs PySem.F.entry_dict_items (PySem.F.args_dict_items_1 _) (meets_dict_items (eN X.prog X.w) d D) {⟨z,V⟩,?_};have g:Inv X pins σ H1 {W with heap:=W.heap.push {cls:=.type "dict_items",data:=.fields #[.ref d]}}:=J.kept (t':=W.toks) fun b O q=>aK _ q;obtain⟨od,g3,U⟩:=g.freeze M nf;obtain⟨vs,r,da⟩:=A5 U (ag:upd H1 d (.frz od (.dK kvs)) d=_);refine wpAny_pyIter_items {_,cj _ rfl,Z9,Z9} da ?_;have lt:=aQ g3;refine{_,[_],_,_,_,Z9,U.kept (t':=W.toks) fun b O q=>aK _ q,A6 d _ od kvs (aR lt),{.none,.none,?_},fun b hb=>?_,q od}
 ·rw[r.length];exact cj _ rfl
 ·have e:b=_:=aE.mp hb;subst e;exact U.fpOk (aB _) (U.hok.fresh (aB _))
end
theorem xI{d:aa}{od:Obj}{kvs:List (Key×V)}{g:TG}{tb:TS}{D:mJ}{σ:St}{H:Hp}(Z:Nat->St->Hp->Prop)(h0:Z 0 σ H)(z:∀i σ H,i<=kvs.length->Z i σ H->H d=Z8 (.frz od (.dK kvs)))
  (hs:∀i O t σ H,kvs[i]?=Z8 O->Z i σ H->H t=Z7->g (.ref t) σ (upd H t (.tup [kV O.1,O.2])) fun U H2=>tb {D with nx:=Z (i+1),ct:=Z (i+1),bk:=D.nx} U H2) (J:∀σ H,Z kvs.length σ H->D.nx σ H) :
  ∃W:Nat->Nat->St->Hp->Prop,(∃m,W 0 m σ H)/\∀i m σ H,W i m σ H ->
   ((Iti d od kvs).stop i H/\D.nx σ H)\/((Iti d od kvs).go i H/\∃N:St->Hp->Prop,(∀Y H',N Y H'->∃M,M<m/\W (i+1) M Y H')/\∀x H',(Iti d od kvs).yld i H x H'->g x σ H' fun U H2=>tb {D with nx:=N,ct:=N,bk:=D.nx} U H2):=by
 refine{fun i m σ H=>m=kvs.length-i/\i<=kvs.length/\Z i σ H,{kvs.length,by simp,bO _,h0},?_};rintro i m σ H ⟨rfl,hi,p⟩;have q:=z i σ H hi p
 by_cases lt:i<kvs.length
 ·refine .inr {⟨q,lt⟩,Z (i+1),fun Y H' I=>{kvs.length-(i+1),by omega,Z9,lt,I},fun x H' y=>?_};obtain⟨t,O,rfl,ht,hk,rfl⟩:=y;exact hs i O t σ H hk p ht
 ·have e:i=kvs.length:=by omega
  subst e;exact .inl {{q,aB _},J σ H p}
def KP(X:Cx)(D:mJ):mJ where
 nx:=fun σ H=>∃d od kvs,H d=Z8 (.frz od (.dK kvs))/\(∀Z u,X.H₀ d≠Z8 (.frz Z u))/\D.nx σ (upd H d (.dK kvs))
 rt:=D.rt
 bk:=D.bk
 ct:=D.ct
theorem B4{X:Cx}{st:cU}{t:TS}(h:PS X st t):PS X st (fun D σ H=>t (KP X D) σ H):=by
 intro pins s σ H D I q;refine thn (h pins s σ H (KP X D) I q) fun fl V z=>?_
 cases fl with
 |next=>
  obtain⟨Z,H',W,d,od,kvs,e,Y,y⟩:=z;exact{Z,_,W.thaw e Y,y}
 |brk=>exact z
 |cont=>exact z
 |ret u=>exact z
end L2
namespace L2
open PySem PySem.Spec PyProof.Rows PySem.SeqAt
section
variable{P:aL}{w:bA}{H:Hp}{s:ao}
end
section
variable{X:Cx}
end
end L2
namespace L2
open PySem PySem.Spec PyProof.Rows
section
variable{prog:aL}{w:bA}{A:bY}{E:ae->ao->Prop}{s:ao}
end
section
variable{X:Cx}
end
structure w9(K:af)(C:aa):Prop where
 ga:aS K (.ref C) "__getattribute__"=Z8 (Z8 (.builtin "BaseException.__getattribute__"))
 gh:aS K (.ref C) "__getattr__"=Z8 Z7
 cl:aS K (.ref C) "__class__"=Z8 (Z8 (.builtin "object.__class__"))
 cn:BM K (.builtin "object.__class__") "__get__"=Z8 (Z8 (.builtin "getset_descriptor.__get__"))
 ck:EM K (.builtin "object.__class__")=Z8 true
 ob:wU K C (.type "object")=Z8 true
 be:wU K C (.type "BaseException")=Z8 true
theorem A7:Manifest.canonical "BaseException.__getattribute__"="object.__getattribute__":=by decide +kernel
section
variable{prog:aL}{w:bA}{A:bY}{E:ae->ao->Prop}{s:ao}{K:af}{x C:aa}{ox:Obj}
theorem FR{f:aa}{name:Str}{pl:Sem Bool}{Q:ae×List ae->ao->Prop}(X:K.In s.heap)(I:vB s.heap x ox C Z7)(c:w9 K C)(Y:aS K (.ref C) name=Z8 (Z8 (.ref f)))(ht:Fn K (.ref f)=Z8 (.type "function"))
  (h:Q (.ref f,[.ref x]) s):aW (aX prog w) A (nI (.ref x) name pl) Q E s:=by
 unfold nI specialOf;refine au (au (I.type.here ((j0 X c.ga).here ?_)));dsimp only;rw[A7,if_neg (by decide)];refine au (au (I.type.here ((j0 X c.gh).here ?_)));refine au (au (I.type.here ((j0 X Y).here (au ((PySem.W.looks_typeIn X ht).here ?_)))));rw[if_neg (by decide +kernel)];refine au (wpAny_loadPart I.at_ ?_);have Z:=I.dict
 cases e:ox.dict with
 |none=>exact au (A2 (bf h))
 |some dx=>rw[e]at Z;exact Z.elim
end
def XOk(a C:aa)(h:cu):Prop:=∃Z,h.get? a=Z8 Z/\Z.cls=.ref C/\Z.dict=Z7/\FS Z=true
def XO(a C:aa):HO:=.ext (XOk a C)
theorem XOk.obj{P:aL}{w:bA}{H:Hp}{h:cu}{a C:aa}(x:XOk a C h):eB P w H h a (XO a C):=by
 obtain⟨Z,e,r⟩:=x;refine{⟨Z,e,r⟩,⟨Z,e⟩,fun h1 h2 y k=>?_};obtain⟨o,e1,Y⟩:=y;exact{o,k o e1,Y}
theorem XOk.inst{h:cu}{a C:aa}(x:XOk a C h):∃ox,vB h a ox C Z7:=by
 obtain⟨Z,e,c,d,n⟩:=x;exact{Z,e,c,n,by rw[d];trivial}
theorem MA{P:aL}{w:bA}{H:Hp}{h:cu}{a C:aa}(ok:HOk P w H h)(e:H a=Z8 (XO a C)):XOk a C h:=(ok a _ e).1
section
variable{X:Cx}{pins:List (aa×Obj)}{σ:St}{H:Hp}{s:ao}
end
section
variable{P:aL}{w:bA}{H:Hp}{h h':cu}{a:aa}{o:HO}{fs ex:List aa}
end
section
variable{X:Cx}{pins:List (aa×Obj)}{σ:St}{H:Hp}{s:ao}{C:aa}{x:Str}{p pos:Pos}{e:cL}{es:List cL}{t:TA}
end
section
variable{X:Cx}{CX:CXT}{k:Nat}{f C:aa}{fd:bS}{ps:List Str}{sp:Sp}{E:XK}{m:Str}{pos apos:Pos}{o:cL}{ta:TE}
end
section
variable{X:Cx}{pins:List (aa×Obj)}{σ:St}{H:Hp}{s:ao}
theorem Inv.adopt{B:cu}{Z C:aa}{fl:ae}(I:Inv X pins σ H s)(f:FlD B X.stack Z (.ref C) fl s.heap)(U:yt X pins H B s.heap):H Z=Z7/\Inv X pins σ (upd H Z (XO Z C)) s:=by
 obtain⟨hB,hn,hl,O,vs,T,oT,ts,W,hc,D,M,_⟩:=f;have t:Z∉frs X.stack:=fun z=>by
  obtain⟨_,o,V,q⟩:=hl.mem z;rw[W]at V
  cases V;exact q vs M
 have J:∀o,B.get? Z≠Z8 o:=fun o z=>by rw[hn]at z;cases z
 have g:H Z=Z7:=by
  cases z:H Z with
  |none=>rfl
  |some u=>exact absurd (U Z O (.inl (by rw[z];simp)) t W) (J O)
 have ne:∀{b:aa} {o:HO},H b=Z8 o->b≠Z:=fun {b o} z=>av z g;refine{g,I.ok,I.os,I.bare,{I.base.keep,I.base.slot,fun b o e n hx=>?_,I.base.there,fun b xs e=>?_,fun b o u e=>?_,fun b ps e=>?_},I.loc,I.cell,?_,fun x c e=>?_,fun p hp=>?_,fun b u e=>?_,I.len}
 ·rw[aJ]
  ·exact I.base.free b o e n hx
  ·rintro rfl;exact J O (U _ O (.inr (.inl ⟨hx,o,e⟩)) t W)
 ·have z:=I.base.tups b xs e;rw[aJ (ne z)];exact z
 ·have z:=I.base.frzs b o u e;rw[aJ (ne z)];exact z
 ·obtain⟨more,z⟩:=I.base.tbls b ps e;exact{more,by rw[aJ (ne z)];exact z}
 ·rw[aJ]
  ·exact I.free
  ·intro z;obtain⟨m,⟨o,es,ep,V,Y,_⟩,_⟩:=I.loc;rw[z,W]at V
   cases V;rw[M]at Y
   cases Y
 ·rw[aJ]
  ·exact I.freeC x c e
  ·intro z;obtain⟨v,o,V,Y⟩:=I.cell x c e;rw[z,W]at V
   cases V;rw[M]at Y
   cases Y
 ·obtain⟨e1,e2,e3,e4,e5⟩:=I.pin p hp;refine{e1,?_,e3,e4,e5};rw[aJ]
  ·exact e2
  ·intro z;have e6:s.heap.get? Z=Z8 p.2:=by rw[<- z];exact e1
   rw[W]at e6
   cases e6;exact J _ (U Z _ (.inr (.inr ⟨p,hp,z⟩)) t W)
 ·by_cases hb:b=Z
  ·subst hb;rw[ag]at e
   cases e;refine XOk.obj {O,W,hc,D,?_};unfold FS;rw[M]
  ·rw[aJ hb]at e;exact (I.hok b u e).stay (fun _ _ _ q=>q) (fun c q=>by rw[aJ (ne q)];exact q) fun c xs q=>by rw[aJ (ne q)];exact q
theorem Ef{M:IG}{A:bY}{E:ae->ao->Prop}{i:Nat}{x:Str}{v:V}{Q:Unit->ao->Prop}(I:Inv X pins σ H s)(hN:X.N.Nodup)(hi:X.N[i]?=Z8 x)(hk:X.env.scope.names.lookup x=Z8 .local)(hv:σ[i]?=Z8 (Z8 v))
  (h:∀s',Inv X pins (σ.set i Z7) H s'->Q () s'):aW M A (unbindName X.env x) Q E s:=by
 obtain⟨m,hn,hl⟩:=id I.loc;have W:(X.env.scope.kind==.class||(X.env.scope.kind==.module&&X.env.locals != X.env.globals))=false:=by rw[I.ok.kind];rfl
 have Y:X.env.kindOf x=Z8 .local:=hk;have O:(m x).isSome=true:=by
  obtain⟨u,_,q⟩:=hl i x v hi hv (.inl hk)
  rcases q with⟨_,e⟩|⟨k,_⟩
  ·rw[e];rfl
  ·rw[Y]at k
   rcases k with k|k<;>cases k
 unfold unbindName;refine au (wpAny_point (au ?_));unfold deleteName;simp only[Y,W];rw[if_neg (by decide)];refine au (wpAny_nsDel_keeps hn fun h' v' t hs=>?_);rw[O];simp only[Bool.not_true,sJ,if_false];refine bf (wpAny_point (h _ ?_));obtain⟨oL,_,_,bw,_⟩:=id hn;have cne:=I.cne;have Z:∀b o,X.s₀.heap.get? b=Z8 o->b≠X.env.locals:=fun b o e=>aR (aZ (aQ e) I.ok.above);refine{I.ok,I.os,I.bare,{fun b o e n hb hx=>(hs.2 b (Z b o e)).trans (I.base.keep b o e n hb hx),fun b o e n hb hx=>?_,I.base.free,fun b o e hx=>?_,I.base.tups,I.base.frzs,I.base.tbls},{_,t,fun j y v2 e1 U e3=>?_},fun y c e=>?_,I.free,I.freeC,fun p hp=>?_,fun b ob e=>?_,by simpa using I.len}
 ·obtain⟨sl,e1⟩:=I.base.slot b o e n hb hx;exact{sl,(hs.2 b (Z b o e)).trans e1}
 ·obtain⟨o',e1⟩:=I.base.there b o e hx;exact{o',(hs.2 b (Z b o e)).trans e1}
 ·by_cases D:j=i
  ·subst D;have J:j<σ.length:=(aF.mp hv).1;rw[fq J]at U
   cases U
  ·rw[iU (fX D)]at U;obtain⟨u',r',q⟩:=hl j y v2 e1 U e3;refine{u',r',?_}
   rcases q with⟨k,e⟩|⟨k,c,e,z⟩
   ·refine .inl {k,?_};have g:y≠x:=fun e=>D (vn hN e1 (e ▸ hi));simp[g,e]
   ·exact .inr {k,c,e,z.sameBut hs (cne y c e)}
 ·obtain⟨w',z⟩:=I.cell y c e;exact{w',z.sameBut hs (cne y c e)}
 ·obtain⟨e,n,ne,nf,d⟩:=I.pin p hp;exact{(hs.2 p.1 ne).trans e,n,ne,nf,d}
 ·refine (I.hok b ob e).stay (fun c w' hc q=>(hs.2 c ?_).trans q) (fun _ q=>q) fun _ _ q=>q;rintro rfl
  rcases hc with rfl|hc
  ·rw[I.free]at e;cases e
  ·rw[I.free]at hc;cases hc
def KQ(i:Nat)(D:mJ):mJ:={nx:=fun σ H=>D.nx (σ.set i Z7) H,rt:=D.rt,bk:=fun σ H=>D.bk (σ.set i Z7) H,ct:=fun σ H=>D.ct (σ.set i Z7) H}
def thAs(K:af)(Y:aa)(i:Nat)(t:TS)(th:TH):TH:=fun C D σ H=>
 (dh K (.ref C) (.ref Y)=Z8 true/\∀Z,H Z=Z7->t (KQ i D) (σ.set i (Z8 (.ref Z))) (upd H Z (XO Z C)))\/(dh K (.ref C) (.ref Y)=Z8 false/\th C D σ H)
theorem uV{M:IG}{A:bY}{E:ae->ao->Prop}{i:Nat}{x:Str}{pos:Pos}{Q:Unit->ao->Prop}(I:Inv X pins σ H s)(W:X.N.Nodup)(hi:X.N[i]?=Z8 x)(hk:X.env.scope.names.lookup x=Z8 .local)
  (h:∀s',Inv X pins (σ.set i Z7) H s'->Q () s'):aW M A (do bindName X.env x .none;tE X.env x pos) Q E s:=by
 have Z:i<σ.length:=by
  rw[I.len];exact (aF.mp hi).1
 refine au (wpAny_bindName (rA (v:=.non) I W hi (.inl hk) rfl (fun U V=>?_) (.inr hk)));unfold tE;refine wpAny_onRaise (Ef (v:=.non) V W hi hk (fq Z) fun s2 Y=>h s2 ?_);rw[List.set_set]at Y;exact Y
theorem MH{x n:Str}{Ci:aa}{np pos:Pos}{V:cU}{Y:List cU}{rest:List uP}{t:TS}{th:TH}(i:Nat)(hg:Gl X x)(hm:X.mg x=Z8 (.ref Ci))(hN:X.N.Nodup)(hi:X.N[i]?=Z8 n)(hk:X.env.scope.names.lookup n=Z8 .local)
  (bB:∀Z,PSs (X.hdl Z) (V::Y) t) (hr:PHs X rest th) (hd:(x==("__debug__":Str))=false:=by decide):PHs X (.ExceptHandler (Z8 (.Name x np)) (Z8 n) (V::Y) pos::rest) (thAs X.K Ci i t th):=by
 intro pins s σ H D Z C B I fl M h;refine wpAny_handleBy_cons (codeAny_handlers_test ?_) (by intro q;cases q);refine rB (X:=X.hdl Z) (I.hdl Z) hg hm ?_ hd;obtain⟨ob,bG,hc⟩:=fl.there;have LT:PySem.W.Looks (aX X.prog X.w) s.heap (typeOf (.ref Z)) (.ref C):=by
  rw[<- hc];exact (PySem.W.Looks.ld bG).andThen .now
 rcases h with⟨hx,q⟩|⟨hx,q⟩
 ·refine (E1 I.kIn LT hx).here ?_;refine codeAny_handlers_suite_as (rJ fl fun h6 g bF=>?_);have I6:=I.landed g.1 M bF;obtain⟨hz,J⟩:=I6.adopt g (yt.land I g.1 M);refine rA (X:=X.hdl Z) (v:=.ref Z) (J.hdl Z) hN hi (.inl hk) rfl (fun s2 I2=>?_) (.inr hk);refine eQ (bB Z pins _ _ _ (KQ i D) I2 (q Z hz)) (fun f s3 z=>?_) (fun _ _ z=>cP z);show aW _ X.A (do bindName X.env n .none;tE X.env n pos) (fun _ s₃=>SP X pins D f s₃) X.xe s3
  cases f with
  |next=>obtain⟨bH,H',I3,U⟩:=z;exact uV (I3.unhdl I.ok) hN hi hk fun s4 O=>{_,_,O,U}
  |brk=>obtain⟨bH,H',I3,U⟩:=z;exact uV (I3.unhdl I.ok) hN hi hk fun s4 O=>{_,_,O,U}
  |cont=>obtain⟨bH,H',I3,U⟩:=z;exact uV (I3.unhdl I.ok) hN hi hk fun s4 O=>{_,_,O,U}
  |ret u=>obtain⟨v,bH,H',I3,r3,U⟩:=z;exact uV (I3.unhdl I.ok) hN hi hk fun s4 O=>{v,_,_,O,r3,U}
 ·refine (E1 I.kIn LT hx).here ?_;exact hr pins s σ H D Z C B I fl M q
end
section
variable{X:Cx}{pins:List (aa×Obj)}{σ:St}{H:Hp}{s s2:ao}{h':cu}
theorem Inv.turned2{t':Nat}{e it:aa}(I:Inv X pins σ H s)(k:∀b o,b≠e->b≠it->s.heap.get? b=Z8 o->h'.get? b=Z8 o)(f:yg X pins H e)(g:yg X pins H it):Inv X pins σ H {s with heap:=h',toks:=t'}:=by
 have Z:∀b u,H b=Z8 u->b≠e:=fun b u q z=>by rw[z,f.1]at q;cases q
 have Y:∀b u,H b=Z8 u->b≠it:=fun b u q z=>by rw[z,g.1]at q;cases q
 obtain⟨f0,f1,f2,f3,f4,D⟩:=f;obtain⟨g0,W,g2,M,J,U⟩:=g;refine I.step (g':=s.gens) (d':=s.drawn) (ch:=[e,it]) (fun b hb=>?_) (fun b o _ _ hc q _=>k b o (fun z=>hc (by simp[z])) (fun z=>hc (by simp[z])) q) (fun b o _ _ hc q _=>{o.slots,k b o (fun z=>hc (by simp[z])) (fun z=>hc (by simp[z])) q}) (fun _ _ _ _ n=>n)
  (fun b o hc q=>{o,k b o (fun z=>hc (by simp[z])) (fun z=>hc (by simp[z])) q}) (fun _ _ q=>q) (fun _ _ _ q=>q) (fun b ps q=>{#[],by rw[q];simp}) (fun m t=>?_) (fun b u q=>?_) I.bare
 ·rcases ar.mp hb with z|z
  ·subst z;exact⟨f3,f1,f4,D⟩
  ·have z:=aE.mp z;subst z;exact⟨M,W,J,U⟩
 ·obtain⟨o,es,ep,V,r⟩:=t;exact{o,es,ep,k _ o (fX f1) (fX W) V,r}
 ·refine (I.hok b u q).stay (fun c v hc O=>k c v ?_ ?_ O) (fun _ q=>q) fun _ _ q=>q
  ·rcases hc with z|z
   ·rw[z];exact Z b u q
   ·exact Z c _ z
  ·rcases hc with z|z
   ·rw[z];exact Y b u q
   ·exact Y c _ z
theorem Inv.track{o:HO}(I:Inv X pins σ H s)(Z:Inv X pins σ H s2)(ok:eB X.prog X.w (upd H s.heap.objs.size o) s2.heap s.heap.objs.size o):Inv X pins σ (upd H s.heap.objs.size o) s2:=by
 have fr:H s.heap.objs.size=Z7:=I.hok.fresh (aB _);exact⟨Z.ok,Z.os,Z.bare,⟨Z.base.keep,Z.base.slot,fun b Y q n hx=>by
   have z:=Z.base.free b Y q n hx
   by_cases y:b=s.heap.objs.size
   ·exfalso;have lt:b<s.heap.objs.size:=aZ (aQ q) I.sz;rw[y]at lt;exact absurd lt (hU _)
   ·rw[aJ y];exact z,Z.base.there,fun b xs q=>by
   rw[aJ (av (Z.base.tups b xs q) fr)];exact Z.base.tups b xs q,fun b Y v q=>by
   rw[aJ (av (Z.base.frzs b Y v q) fr)];exact Z.base.frzs b Y v q,fun b ps q=>by
   obtain⟨m,z⟩:=Z.base.tbls b ps q;exact{m,by rw[aJ (av z fr)];exact z}⟩,Z.loc,Z.cell,by
   rw[aJ (aR I.lt)];exact Z.free,fun x c q=>by
   obtain⟨v,y⟩:=I.cell x c q;rw[aJ (aR y.lt)];exact Z.freeC x c q,fun p hp=>by
   obtain⟨h1,W,V⟩:=Z.pin p hp;obtain⟨U,_⟩:=I.pin p hp;refine{h1,?_,V};rw[aJ (aR (aQ U))];exact W,fun b v q=>by
   by_cases y:b=s.heap.objs.size
   ·subst y;rw[ag]at q
    cases q;exact ok
   ·rw[aJ y]at q;exact (Z.hok b v q).stay (fun c O _ z=>z) (fun c z=>by rw[aJ (av z fr)];exact z) fun c xs z=>by rw[aJ (av z fr)];exact z,Z.len⟩
end
def Ite(K:af)(a:aa):It:=
 {fun i H=>∃xs x,SqL K H a xs/\xs[i]?=Z8 x,fun i H x H'=>∃t y,x=.ref t/\H t=Z7/\(∀xs,SqL K H a xs->xs[i]?=Z8 y)/\H'=upd H t (.tup [.int i,y]),fun i H=>∃xs,SqL K H a xs/\xs.length<=i}
section
variable{P:aL}{w:bA}{K:af}
theorem Eg{elts:List cL} {x1} {pos:Pos} (a e it:aa) (W:e≠it):Dw P w K (.Tuple elts x1 pos) (Ite K a) [e,it] e (fun i h=>∃old,IsEnum h e it (i:Int) old/\h.IsListIter it a i) where
 mem:=by simp
 obj:=fun i h st b hb=>by
  obtain⟨old,h1,h2⟩:=st
  rcases ar.mp hb with z|z
  ·subst z;exact{_,h1,fun v z=>by cases z}
  ·have z:=aE.mp z;subst z;obtain⟨o,e,c,d⟩:=h2;exact{o,e,fun v z=>by rw[d]at z;cases z}
 keep:=fun i h h' ⟨old,h1,h2⟩ k=>{old,k e (by simp) _ h1,h2.at fun o q=>k it (by simp) o q}
 item:=by
  intro X t hw g hc i pins s σ H E I V st D;subst t hw g;obtain⟨old,Z,Y⟩:=st;obtain⟨xs,x,hq,hx⟩:=D;obtain⟨M,rv,p,hz⟩:=I.list hq;obtain⟨u,hu,ru⟩:=rv.get hx;have F1:=V e (by simp);have F2:=V it (by simp);obtain⟨U,f1,f2,O,f4,f5⟩:=id F1;refine wpAny_pyNext_enum_item Z Y p.isList (x:=u) (by simpa using hu) W fun h' a1 a2 a3 a4 a5=>?_;have I1:Inv X pins σ H {s with heap:=h',toks:=s.toks+1}:=I.turned2 (t':=s.toks+1) (fun b o h1 h2 q=>a5 b o h1 h2 q) F1 F2;refine{_,Z9,wpAny_letOwnedTupleGo_enum a1 fun h2 e2 J=>?_};have I2:Inv X pins σ H {s with heap:=h2,toks:=s.toks+1}:=I1.turned (t':=s.toks+1) (fun b o hb q=>J.extBut b o hb q) U f1 O f4 f5;have fr:H s.heap.objs.size=Z7:=I.hok.fresh (aB _);have n1:s.heap.objs.size≠e:=(aR (aQ Z)).symm;have n2:s.heap.objs.size≠it:=by
   obtain⟨o,q,_⟩:=Y;exact (aR (aQ q)).symm
  have t2:=J.extBut _ _ n1 a3;have I3:=I.track I2 (o:=.tup [.int i,x]) {(by show 2<=aC;decide),[.int i s.toks,u],.cons {_,Z9} (.cons ru .nil),_,t2,Z9,0,Z9};refine{.ref s.heap.objs.size,_,I3,Z9,{_,x,Z9,fr,fun ys hy=>by rw[I.list_inj hy hq];exact hx,Z9},{u,e2,a2.extBut J.extBut (fX W)},fun b hb=>?_}
  rcases ar.mp hb with z|z
  ·rw[z,aJ (fX n1)];exact U
  ·rw[aE.mp z,aJ (fX n2)];exact F2.1
 done:=by
  intro X t hw g hc i pins s σ H E I V st D;subst t hw g;obtain⟨old,Z,Y⟩:=st;obtain⟨xs,hq,hx⟩:=D;obtain⟨M,rv,p,hz⟩:=I.list hq;obtain⟨U,f1,f2,O,f4,f5⟩:=V it (by simp);have hl:=rv.length;exact wpAny_pyNext_enum_end (I.ok.hd hc) Z Y p.isList (by simp;omega) fun h' eb=>{Z9,I.turned (t':=s.toks) (fun b o hb e=>eb b o hb e) U f1 O f4 f5}
 self:=fun A i s Q E ⟨old,st,_⟩ h=>by
  have ty:s.TypeIs (.ref e) "enumerate":={_,st,Z9};refine w8 ty F.slot_enumerate_iter (qF F.slot_enumerate_iter ty F.entry_enumerate_iter ?_ (F.args_enumerate_iter_1 _));show aW _ _ (ret (.ref e)) _ _ s;exact bf {_,Z9,"enumerate",_,ty,F.slot_enumerate_next.lookup,h}
end
section
variable{X:Cx}{elts:List cL}{x1:Nat}{tpos pos p:Pos}
def KS(K:af)(tl:TA):TI:=fun σ H R=>tl σ H fun vs H1=>∃a,vs=[.ref a]/\(∃xs,SqL K H1 a xs)/\R (Ite K a) H1
theorem Js{a:cL}{ta:TA}(M:Gl X "enumerate")(J:X.mg "enumerate"=Z7)(ha:PA X [a] ta)(hs:cw [a] X.env=[(false,fy a X.env)]:=by rfl):PI X (.Tuple elts x1 tpos) (.Call (.Name "enumerate" p) [a] [] pos) (KS X.K ta):=by
 intro pins s σ H R I h;refine Call_ (o9 I M J boot_enumerate (fY (thn (ha pos pins s σ H _ I h) fun us Z ⟨vs,H1,Y,U,t⟩=>?_) hs rfl));obtain⟨l,e,⟨xs,hq⟩,q⟩:=t;subst e;obtain⟨u,rfl,O⟩:=vals1 U
 cases O;obtain⟨D,rv,pl,hz⟩:=Y.list hq;refine call_enumerate_list pl.isList fun h' e1 W e3 g=>?_;have V:Inv X pins σ H1 {Z with heap:=h'}:=Y.kept (t':=Z.toks) g;have ty:({Z with heap:=h'}:ao).TypeIs (.ref (Z.heap.objs.size+1)) "enumerate":={_,e1,Z9};refine w8 ty F.slot_enumerate_iter (qF F.slot_enumerate_iter ty F.entry_enumerate_iter ?_ (F.args_enumerate_iter_1 _));show aW _ _ (ret (.ref (Z.heap.objs.size+1))) _ _ _;refine bf {_,Z9,"enumerate",_,ty,F.slot_enumerate_next.lookup,?_};refine{_,[_,_],_,_,H1,Z9,V,Eg l _ Z.heap.objs.size (Nat.succ_ne_self _),{.none,e1,W},fun b hb=>?_,q}
 rcases ar.mp hb with z|z
 ·rw[z];exact Y.fpOk (gc _) (Y.hok.fresh (gc _))
 ·rw[aE.mp z];exact Y.fpOk (aB _) (Y.hok.fresh (aB _))
theorem Eh{K:af}{a:aa}{xs:List V}{n:Nat}{g:TG}{tc:TT}{te:TE}{σ:St}{H:Hp}{Q:VK}(Y:Nat->List V->Hp->Prop)(h0:Y 0 [] H)(hl:∀i ys H,i<=xs.length->Y i ys H->SqL K H a xs/\ys.length<aC)
  (hs:∀i x t ys H,xs[i]?=Z8 x->Y i ys H->H t=Z7->g (.ref t) (cz n Z7++σ) (upd H t (.tup [.int i,x])) fun Z H2=>Z.drop n=σ/\tc Z H2 fun b O=>if b=true then te Z O fun y J=>Y (i+1) (ys++[y]) J else Y (i+1) ys O)
  (hd:∀ys H,Y xs.length ys H->∀p,H p=Z7->Q (.ref p) (upd H p (.lst ys))) :
  ∃W:Nat->Nat->List V->Hp->Prop,(∃m,W 0 m [] H)/\∀i m ys H,W i m ys H->ys.length<aC/\(((Ite K a).stop i H/\∀p,H p=Z7->Q (.ref p) (upd H p (.lst ys))) \/
   ((Ite K a).go i H/\∃N:List V->Hp->Prop,(∀U H',N U H'->∃I,I<m/\W (i+1) I U H')/\∀x H',(Ite K a).yld i H x H'->g x (cz n Z7++σ) H' fun Z H2=>Z.drop n=σ/\tc Z H2 fun b O=>
    if b=true then te Z O fun y J=>N (ys++[y]) J else N ys O)):=by
 refine{fun i m ys H=>m=xs.length-i/\i<=xs.length/\Y i ys H,{xs.length,by simp,bO _,h0},?_};rintro i m ys H ⟨rfl,hi,p⟩;obtain⟨q,z⟩:=hl i ys H hi p;refine{z,?_}
 by_cases M:i<xs.length
 ·refine .inr {{xs,xs[i],q,by simp[M]},Y (i+1),fun U H' p'=>{xs.length-(i+1),by omega,Z9,M,p'},fun x H' y=>?_};obtain⟨t,v,rfl,ht,D,rfl⟩:=y;exact hs i v t ys H (D xs q) p ht
 ·have e:i=xs.length:=by omega
  subst e;exact .inl {{xs,q,aB _},hd ys H p}
end
section
variable{prog:aL}{w:bA}{A:bY}{E:ae->ao->Prop}{s:ao}
theorem xa{a:aa}{vs:List ae}{n:Nat}{b:Bool}{P:Fin->ao->Prop}(U:s.heap.get? a=Z8 (dJ "list" vs.toArray n))(h2:vs.length<2)
  (h:P (.done (.ret .none)) {s with heap:=sortedHeap s.heap a vs vs.toArray}) :
  aW (aX prog w) A (gW.«list.sort» {[.ref a],[(lL "reverse",.bool b)]}) P E s:=by
 rw[list_sort_rev];have ha:a<s.heap.objs.size:=aQ U;refine au (listItems_at U rfl ?_);refine au (uW U rfl ?_);obtain⟨e1,W⟩:∃e1,(s.heap.update a (cV fun _=>#[])).get? a=Z8 (dJ "list" #[] e1):={_,get?_update_seq U (fun _=>#[])};refine au (zk W rfl ?_);refine au (wpAny_newTuple ?_);refine au (pU ?_);refine eU ?_;have Z:(((s.heap.update a (cV fun _=>#[])).push (dJ "tuple" vs.toArray 0)).push (dJ "list" #[] 0)).get? a=Z8 (dJ "list" #[] e1):=by
  rw[gi _ _ _ (by rw[vP,gF];exact aR (iM ha)),gi _ _ _ (by rw[gF];exact aR ha)];exact W
 have one:((if b=true then (if b=true then (vs.toArray.zip vs.toArray).reverse else vs.toArray.zip vs.toArray).map (·.2) |>.reverse else (if b=true then (vs.toArray.zip vs.toArray).reverse else vs.toArray.zip vs.toArray).map (·.2)):Array ae)=vs.toArray:=by
  match vs,h2 with
  | [],_=>cases b<;>simp
  | [v],_=>cases b<;>simp
 show aW (aX prog w) A _ P E {s with heap:=((s.heap.update a (cV fun _=>#[])).push (dJ "tuple" vs.toArray 0)).push (dJ "list" #[] 0)};dsimp only;have step:∀t:Sem Fin,aW (aX prog w) A t P E {s with heap:=((s.heap.update a (cV fun _=>#[])).push (dJ "tuple" vs.toArray 0)).push (dJ "list" #[] 0)} ->
   aW (aX prog w) A (if b=true then (do let _ <- IK "list.sort.reverse";t) else t) P E {s with heap:=((s.heap.update a (cV fun _=>#[])).push (dJ "tuple" vs.toArray 0)).push (dJ "list" #[] 0)}:=by
  intro t ht
  split
  ·exact au (A2 ht)
  ·exact ht
 refine step _ ?_;have V:vs.toArray.size<2:=by simpa using h2
 rw[if_pos V,if_pos V];refine au (bf ?_);rw[StateT.run_pure];refine au (bf ?_);dsimp only;refine au (zk Z rfl ?_);have Y:(if b=true then (Array.map (fun x=>x.snd) (arrOf (Ol general' (if b=true then (vs.toArray.zip vs.toArray).reverse else vs.toArray.zip vs.toArray) #[] 7 Z7))).reverse else Array.map (fun x=>x.snd) (arrOf (Ol general' (if b=true then (vs.toArray.zip vs.toArray).reverse else vs.toArray.zip vs.toArray) #[] 7 Z7)))=vs.toArray:=one;rw[Y];refine au (uW Z rfl ?_ (hsz2:=by rw[lH];omega));simp only[bne_self_eq_false,sJ,if_false];exact bf h
theorem A8{l:aa}{vs:List ae}{b:Bool}{Q:ae->ao->Prop}(Y:s.heap.IsList l vs.toArray)(h2:vs.length<2)
  (h:Q (.ref (s.heap.objs.size+1)) {s with heap:=E2 s.heap vs vs.toArray}) :
  aW (aX prog w) A (vw (.builtin "sorted") [.ref l] [(lL "reverse",.bool b)]) Q E s:=by
 refine FT Jt FU FV (args_sorted_rev _ _) ?_;unfold gW.«sorted»;refine au (m:=MI "sorted" 1 1 _) (bf ?_);refine au (collect_list Y ?_);refine au (pU ?_);have hsz:((s.heap.push (dJ "list" #[] 0)).update s.heap.objs.size (cV (·++vs.toArray))).objs.size=s.heap.objs.size+1:=by
  rw[gF,vP]
 have Z:(((s.heap.push (dJ "list" #[] 0)).update s.heap.objs.size (cV (·++vs.toArray))).push (dJ "list" vs.toArray 0)).get? (s.heap.objs.size+1)=Z8 (dJ "list" vs.toArray 0):=by
  rw[<- hsz];exact cj _ rfl
 show aW _ _ _ _ _ {s with heap:=((s.heap.push (dJ "list" #[] 0)).update s.heap.objs.size (cV (·++vs.toArray))).push (dJ "list" vs.toArray 0)};rw[hsz];refine au (eU (KU A9 {_,Z,Z9} zO (xa Z h2 {_,Z9,?_}) (MJ _ _)));exact bf {_,Z9,h}
end
section
variable{X:Cx}{e:cL}{t:TA}{p pos kp bp:Pos}{j:Nat}
end
section
variable{X:Cx}
def tTryE(T:aa->St->Hp->Prop)(tb:TS)(th:TH)(te:TS):TS:=fun D σ H=>tb {D with nx:=te D} σ H/\∀C Z H',Z.length=σ.length->T C Z H'->th C D Z H'
theorem Ju{V Y:List cU}{h₀:uP}{hs:List uP}{pos:Pos}{tb te:TS}{th:TH}(T:aa->St->Hp->Prop)(hb:∀pins,PSs (X.tr pins T) V tb)(hh:PHs X (h₀::hs) th)(ho:PSs X Y te)
  (U:X.stack=X.env::X.outer:=by rfl) (g:X.env.frame=Z8 X.env.locals:=by rfl):PS X (.Try V (h₀::hs) Y [] pos) (tTryE T tb th te):=by
 intro pins s σ H D I h;obtain⟨h1,h2⟩:=h;refine wpAny_Try_except (eQ (hb pins [] s σ H {D with nx:=te D} (I.tr T) h1) (fun f z q=>?_) (fun e z q=>?_))
 ·cases f with
  |next=>obtain⟨Z,H',J,q⟩:=q;exact ho pins z Z H' D J.untr q
  |ret v=>obtain⟨v,Z,H',J,r,q⟩:=q;exact⟨v,Z,H',J.untr,r,q⟩
  |brk=>obtain⟨Z,H',J,q⟩:=q;exact⟨Z,H',J.untr,q⟩
  |cont=>obtain⟨Z,H',J,q⟩:=q;exact⟨Z,H',J.untr,q⟩
 ·obtain⟨ea,C,B,Z,H',rfl,J,fl,O,t⟩:=q;have M:FlD B (X.env::X.outer) ea (.ref C) .none z.heap:=by
   rw[<- U];exact fl
  refine BX (by rw[J.ok.frames,U]) g M fun h4 x4 s4=>?_;refine rJ x4 fun h5 W s5=>?_;have J5:=J.landed W.1 O (s4.trans s5);rw[<- U]at W;exact hh pins _ Z H' D ea C B J5 W (yt.land J W.1 O) (h2 C Z H' (by rw[J.len,I.len]) t)
end
abbrev zP(A:bY):bY:={A with handled:=Z7}
structure pV(P:aL)(w:bA)(K:af)(mg:Str->Option ae)(base:cu)(CX:CXT)(k:Nat)(f:aa)(fd:bS)(ps:List Str)(sp:Sp):Prop where
 len:∀vs H Q E,sp vs H Q E->vs.length=ps.length
 run:∀(A:bY) (outer:List Env) (s:ao) (H:Hp) (args:Args) (us:List ae) (vs:List V) (Q:VK) (E:XK),cZ k (zP A)->yk P w K mg base A outer s H->tY s fd args (ps.zip us)->cS vs us->sp vs H Q E ->
  o5 (aX P w) A (.call (.ref f) args) (CR CX outer P w H s Q E) s
theorem MK{CX:CXT}{P:aL}{w:bA}{K:af}{mg:Str->Option ae}{base:cu}{k:Nat}{f:aa}{name W:Str}{O:Arguments}{D:List cU}{Z:lG}{dV kV bB pm U ct oc:ae}{an od:Option aa}
  {bv:Array (Option ae)} {N ps:List Str} {sp:Sp} (lk:K.lookup f=Z8 {oc,od,.func (e7 name W O D Z dV kV bB pm an U ct),bv}) (bz:jr K U W=true) (S:bK N ps Z)
  (len:∀vs H Q E,sp vs H Q E->vs.length=ps.length)
  (bG:∀(A:bY) (outer:List Env) (s:ao) (H:Hp) (vs:List V) (Q:VK) (E:XK),sp vs H Q E ->
   ∃t,PSs {sX CX P w K mg base N W Z f U A outer s H E with calm:=false} D t/\t {nx:=fun _ H'=>Q .non H',rt:=Q} (start N vs) H) :
  pV P w K mg base CX (k+1) f (e7 name W O D Z dV kV bB pm an U ct) ps sp:=by
 refine{len,fun A outer s H args us vs Q E hr M hb r bF=>?_};have hl:=len _ _ _ _ bF;have KX:K.In s.heap:=M.mod.kin.keeps fun b o e=>(M.bs b o e).1;have bw:s.heap.NoLimit:=M.mod.nolimit.keeps fun b o e=>(M.bs b o e).1;have bH:∀y∈ps.zip us,Z.names.lookup y.1=Z8 .local\/(Z.names.lookup y.1=Z8 .cell/\((ES (s.heap.objs.size+1) Z.names []).lookup y.1).isSome=true):=fun⟨n,v⟩ hy=>by
  rcases S.par n (pB hy).1 with q|q
  ·exact .inl q
  ·exact .inr {q,nZ _ _ _ (.inl q)}
 refine Iv (A:=A) hr.depth (KX _ _ lk) rfl S.co S.gen rfl (AQ KX bz) (hb _ _ _ _ ?_);refine AR S.kind bH fun env he s1 x=>?_;subst he;refine{bw.keeps x.toInCall.keep,codeAny_func ?_};obtain⟨t,ht,hq⟩:=bG A outer s H vs Q E bF;have e1:yk P w K mg base (zP A) outer s H:=⟨M.frames,M.mod,M.bs,M.bsz,M.funs,M.frf,M.hok,M.bare⟩;have Y:Inv (sX CX P w K mg base N W Z f U (zP A) outer s H E) [] (start N vs) H s1:=xq S rfl e1 hl r x;have I:Inv {sX CX P w K mg base N W Z f U A outer s H E with calm:=false} [] (start N vs) H s1:=
  {{Y.ok.mod,Y.ok.kind,Y.ok.glob,Y.ok.blt,Y.ok.above,Y.ok.inj,Y.ok.has,Y.ok.cab,fun z=>uO z,Y.ok.frames,Y.ok.stk,Y.ok.exf,Y.ok.bs,Y.ok.bsz,Y.ok.noex,Y.ok.exfs,Y.ok.funs,Y.ok.frf},Y.os,Y.bare,Y.base,Y.loc,Y.cell,Y.free,Y.freeC,Y.pin,Y.hok,Y.len}
 refine eQ (ht [] s1 (start N vs) H _ I hq) (fun fl s' hs=>?_) fun e s' hs=>hs;have fin:∀{g:St} {H':Hp} {v:V} {u:ae},Inv {sX CX P w K mg base N W Z f U A outer s H E with calm:=false} [] g H' s'->RelV v u->Q v H'->CE outer P w H s Q u s':=
  fun {g H' v u} J rv q=>⟨v,H',J.os,J.bare,J.base,J.hok,rv,q⟩
 cases fl with
 |ret u=>
  obtain⟨v,g,H',J,rv,q⟩:=hs;exact fin J rv q
 |next=>
  obtain⟨g,H',J,q⟩:=hs;exact fin (v:=V.non) (u:=Value.none) J rfl q
 |brk=>
  obtain⟨_,_,_,q⟩:=hs;exact cP q
 |cont=>
  obtain⟨_,_,_,q⟩:=hs;exact cP q
theorem Fun.okH{P:aL}{w:bA}{K:af}{mg:Str->Option ae}{base:cu}{x Z:Str}{st:cU}{f:aa}{fd:bS}{N ps:List Str}{k:Nat}{sp:Sp}(F:Fun K x Z st f fd)(S:bK N ps (aN st))(len:∀vs H Q E,sp vs H Q E->vs.length=ps.length)
  (W:∀(Y:ae) (A:bY) (outer:List Env) (s:ao) (H:Hp) (vs:List V) (Q:VK) (E:XK),sp vs H Q E ->
   ∃t,PSs {sX CX0 P w K mg base N Z (aN st) f Y A outer s H E with calm:=false} (jb st) t/\t {nx:=fun _ H'=>Q .non H',rt:=Q} (start N vs) H):pV P w K mg base CX0 (k+1) f fd ps sp:=by
 obtain⟨z,od,kV,I,D,g,Y,ct,M,rfl,J,U⟩:=F.ex;exact MK J U S len fun A outer s H vs Q E O=>W Y A outer s H vs Q E O
theorem Jv{X:Cx}{CX:CXT}{k:Nat}{f:aa}{fd:bS}{ps:List Str}{sp:Sp}{E:XK}{pins:List (aa×Obj)}{σ:St}{H:Hp}{s:ao}{Q:VK}{us:List ae}{vs:List V}(F:pV X.prog X.w X.K X.mg X.base CX k f fd ps sp)(W:cZ k (zP X.A))(hb:Binds X.K fd ps [])(hx:kS CX X E)
  (I:Inv X pins σ H s) (r:cS vs us) (h:sp vs H Q E):aW (aX X.prog X.w) X.A (vw (.ref f) us) (EP X pins σ Q) X.xe s:=by
 have Y:(us++[]).length=ps.length:=by rw[cB,<- r.length];exact F.len _ _ _ _ h
 have Z:=hb s us I.kIn Y;rw[cB]at Z;refine AO (mO (F.run X.A X.stack s H {us,[]} us vs Q E W I.env0 Z r h) fun r s' hq=>?_)
 cases r with
 |error e=>exact hx pins σ H s e s' I hq
 |ok fl=>
  cases fl with
  |ret u=>exact I.after hq
  |next=>exact cP hq
  |brk=>exact cP hq
  |cont=>exact cP hq
section
variable{X:Cx}{CX:CXT}{k:Nat}{ι:Type}{fm C:ι->aa}{fd:ι->bS}{ps:List Str}{sp:ι->Sp}{E:XK}{m:Str}{pos apos:Pos}{o:cL}{ta:TE}
def Jw(C:ι->aa)(sp:ι->Sp)(E:XK)(ta:TE):TE:=fun σ H Q=>ta σ H fun x H1=>∃a i,x=.ref a/\H1 a=Z8 (XO a (C i))/\sp i [.ref a] H1 Q E
theorem Ei{pl:Sem Bool}(O:PE X o ta)(c:∀i,w9 X.K (C i))(Y:∀i,yj X.K (C i) m (fm i))(F:∀i,pV X.prog X.w X.K X.mg X.base CX k (fm i) (fd i) ps (sp i))(M:cZ k (zP X.A))(hb:∀i,Binds X.K (fd i) ps [])(hx:kS CX X E)
  (ht:fy (.Call (.Attribute o m apos) [] [] pos) X.env=(do
   let W <- fy o X.env
   wR apos.atName
   let (f,first) <- qS [W] (nI W m pl)
   AI pos f first (jf pos (cw [] X.env)) (nY pos (jg [] X.env))):=by rfl) :
  PE X (.Call (.Attribute o m apos) [] [] pos) (Jw C sp E ta):=by
 intro pins s σ H Q I h;refine jI (pl:=pl) (thn (O pins s σ H _ I h) fun u D ⟨x,H1,Z,V,a,i,ex,U,q⟩=>?_) ht;subst ex;obtain rfl:u=Value.ref a:=V;obtain⟨ox,J⟩:=(MA Z.hok U).inst;refine FR Z.kIn J (c i) (Y i).at_ (beq_iff_eq.mp (Y i).fn) ?_;exact Aq (first:=[.ref a]) Z.kIn (Y i).kp (Jv (us:=[.ref a]) (vs:=[.ref a]) (F i) M (hb i) hx Z (.cons rfl .nil) q)
end
end L2
namespace HT
open PySem PyProof.Rows
open PySem.SeqAt
open PySem.AutoSeq1 (wpAny_loadPart')
open PySem.MeetsSeq PySem.MeetsSeq2 PySem.MeetsSeq3
def ML(A:bY)(s:ao)(x y:ae)(g:Bool):Prop:=∀(prog:aL) (w:bA) (E:ae->ao->Prop) (Q:ae->ao->Prop),Q (.bool g) s->aW (aX prog w) A (o6 .Gt x y) Q E s
theorem Jx(l b:aa)(x y:ae)(xs ys:List ae)(n m:Nat)(dd I:Option aa)(sl sm:Array (Option ae))(g:Bool) :
  Meets (gW.«tuple.__gt__» {[.ref l,.ref b],[]})
   (fun A R s=>s.heap.get? l=Z8 {cls:=.type "tuple",dict:=dd,data:=.seq (x::xs).toArray n,slots:=sl}/\s.heap.get? b=Z8 {cls:=.type "tuple",dict:=I,data:=.seq (y::ys).toArray m,slots:=sm}/\EqAt A.in1 s x y false/\ML A.in1 s x y g/\R (.ok (.ret (.bool g))) s):=
 .of_wp fun prog w A R s h=>by
  obtain⟨hp,V,d,tk,J⟩:=s;obtain⟨z,hb,H,D,h⟩:=h;have f2:=iZ
  wp_walk using b8 z,b8 hb,kW _ (fun rest b s'=>b.1=Z7/\s'=⟨hp,V,d,tk,J⟩/\∃Z,rest=(x,y)::Z) _
  case turn=>
   rintro⟨y',x'⟩ rest b s' ⟨U,rfl,Z,W⟩;injection W with M Y;injection M with hy hx;subst hy hx;refine au (H prog w _ _ ?_);have O:∀(E:ae->ao->Prop) (Q:ae->ao->Prop),Q (.bool g) ⟨hp,V,d,tk,J⟩->aW (aX prog w) A.in1 (o6 .Gt _ _) Q E ⟨hp,V,d,tk,J⟩:=fun E Q q=>D prog w E Q q
   wp_walk using O
   exact{_,Z9,by simpa using h}
  case fin=>
   rintro⟨b1,t⟩ s' ⟨U,rfl,Z,W⟩
   cases W
  case h=>
   exact{Z9,Z9,xs.zip ys,by simp}
theorem gtAt_heads{A:bY}{s:ao}{l b:aa}{x y:ae}{xs ys:List ae}{g:Bool}(M:uE s.heap l (x::xs).toArray)(hb:uE s.heap b (y::ys).toArray)(U:A.units<d8)(V:EqAt A.in1 s x y false)(O:ML A.in1 s x y g):ML A s (.ref l) (.ref b) g:=fun prog w E Q h=>by
 obtain⟨⟨H,dd,t1,sl⟩,Z,rfl,n,rfl⟩:=id M;obtain⟨⟨I,W,J,sm⟩,Y,rfl,m,rfl⟩:=id hb;exact qW (op:=.Gt) {_,Z,Z9} {_,Y,Z9} zj yz (xC _ _) (Jx l b x y xs ys n m dd W sl sm g)
  {Z,Y,V,O,show Value.bool g≠Value.notImplemented/\Q (.bool g) s from{(fun x=>nomatch x),h}} U
end HT
namespace L2
open PySem PySem.Spec PyProof.Rows
section
variable{X:Cx}
def rGtH:R2:=fun x y H Q=>∃a b Y Z ns ms W U,x=.ref a/\y=.ref b/\H a=Z8 (.tup (.ref Y::W))/\H b=Z8 (.tup (.ref Z::U))/\H Y=Z8 (.tup (ns.map V.int))/\H Z=Z8 (.tup (ms.map V.int))/\ns≠ms/\Q (.bl (HT.lexLt ms ns)) H
theorem MP(hu:X.A.units+1<d8):OpR X (dI .Gt) rGtH:=by
 intro pins s σ H x y v u Q I g z h;obtain⟨a,b,ka,kb,ns,ms,ra,rb,rfl,rfl,ha,hb,W,Z,ne,q⟩:=h
 cases g
 cases z;obtain⟨M,O,p1,_⟩:=I.tuple (SqT.of ha);obtain⟨V,U,p2,_⟩:=I.tuple (SqT.of hb);obtain⟨k1,s1,D,_⟩:=I.tuple (SqT.of W);obtain⟨k2,s2,t,_⟩:=I.tuple (SqT.of Z);have i1:eM k1.toArray.toList ns:=intsAre_of s1;have J:eM k2.toArray.toList ms:=intsAre_of s2;have Y:X.A.in1.units<d8:=hu;have e:=xE (A:=X.A.in1) I.hok Y W Z;rw[decide_eq_false ne]at e
 cases O with
 |cons w1 O=>
  cases U with
  |cons w2 U=>
   cases w1
   cases w2;exact HT.gtAt_heads p1 p2 (by omega) e (fun prog w E Q h=>HT.gt_tup D t i1 J Y h) _ _ _ _ {.bl (HT.lexLt ms ns),H,I,Z9,q}
end
end L2
namespace L2
open PySem PySem.W PyProof.Rows HT
def iP(a b:List Int):Prop:=lexLt b a=false
theorem iP.refl(a:List Int):iP a a:=A4 a
theorem iP.trans{a b c:List Int}(h1:iP a b)(h2:iP b c):iP a c:=by
 unfold iP at *
 cases e:lexLt c a with
 |false=>rfl
 |true=>
  cases f:lexLt a b with
  |true=>
   rw[lx_trans e f]at h2
   cases h2
  |false=>
   rw[rL f h1]at e;rw[e]at h2
   cases h2
theorem iP.of_lt{a b:List Int}(h:lexLt a b=true):iP a b:=lx_asym h
theorem FW{a b c:List Int}(h:lexLt a b=true)(h2:iP b c):lexLt a c=true:=by
 cases e:lexLt a c with
 |true=>rfl
 |false=>
  have z:iP c a:=e;have y:=h2.trans z;unfold iP at y;rw[h]at y
  cases y
theorem iP.anti{a b:List Int}(h1:iP a b)(h2:iP b a):a=b:=rL h2 h1
def KR{Z:Type}(r:Nat->List Int)(n:Nat):KasT Z->(Z->Prop)->Prop
 |.ret a,Q=>Q a
 |.ask i j k,Q=>(i<n/\j<n/\i≠j)/\KR r n (k (lexLt (r i) (r j))) Q
section
variable{r:Nat->List Int}{n:Nat}
theorem KR.bind{Y Z:Type}{f:Y->KasT Z}{Q:Z->Prop}:∀{t:KasT Y},KR r n t (fun a=>KR r n (f a) Q)->KR r n (t.bind f) Q
 |.ret _,h=>h
 |.ask _ _ k,⟨h1,W⟩=>{h1,KR.bind W}
theorem KR.sound{Y:Type}{Z:Nat->Nat->(Bool->ao->Prop)->ao->Prop}{s:ao}{Q:Y->Prop}(hc:∀i j (C:Bool->ao->Prop),i<n->j<n->i≠j->C (lexLt (r i) (r j)) s->Z i j C s):∀{t:KasT Y},KR r n t Q->t.kasWp Z (fun a s'=>s'=s/\Q a) s
 |.ret _,h=>⟨Z9,h⟩
 |.ask i j k,⟨⟨h1,h2,V⟩,W⟩=>hc i j _ h1 h2 V (KR.sound hc W)
theorem Jy{Z:Type}{a b:KasT Z}{Q:Z->Prop}(h:KR r n a Q):KR r n (if true=true then a else b) Q:=by
 rw[if_pos rfl];exact h
theorem Jz{Z:Type}{a b:KasT Z}{Q:Z->Prop}(h:KR r n b Q):KR r n (if false=true then a else b) Q:=by
 rw[if_neg (by simp)];exact h
def Rk(r:Nat->List Int)(p:Array Nat)(i:Nat):List Int:=r (p.getD i 0)
def Pm(n:Nat)(p:Array Nat):Prop:=p.Perm (eT n).toArray
theorem Pm.size{p:Array Nat}(h:Pm n p):p.size=n:=by
 have:=h.size_eq;simpa using this
theorem Pm.lt{p:Array Nat}(h:Pm n p){i:Nat}(hi:i<n):p.getD i 0<n:=by
 have hs:i<p.size:=by rw[h.size];exact hi
 have e:p.getD i 0=p[i]:=by simp[oX,hs]
 rw[e];have m:p[i]∈p.toList:=by simp
 have z:=(iQ.mp h).mem_iff.mp m;simpa using z
theorem Pm.two{p:Array Nat}(h:Pm n p){i j:Nat}(hi:i<n)(Z:j<n)(ne:i≠j):p.getD i 0<n/\p.getD j 0<n/\p.getD i 0≠p.getD j 0:=by
 refine{h.lt hi,h.lt Z,?_};have Y:p.toList.Nodup:=(iQ.mp h).nodup_iff.mpr (by simpa using List.nodup_range);have h1:i<p.size:=by rw[h.size];exact hi
 have h2:j<p.size:=by rw[h.size];exact Z
 have e1:p.getD i 0=p.toList[i]'(by simpa using h1):=by simp[oX,h1]
 have W:p.getD j 0=p.toList[j]'(by simpa using h2):=by simp[oX,h2]
 rw[e1,W];intro z
 rcases FX ne with c|c
 ·exact c9.mp Y i j _ _ c z
 ·exact c9.mp Y j i _ _ c z.symm
theorem qX(p:Array Nat)(i:Nat):p.getD i 0=(p[i]?).getD 0:=by
 by_cases h:i<p.size
 ·simp[oX,h]
 ·simp[oX,h]
theorem Pm.rev{p:Array Nat}(h:Pm n p)(i j:Nat):Pm n (Om p i j):=(mirror_perm _ _ _ _).trans h
theorem Pm.bub{p:Array Nat}(h:Pm n p)(i j:Nat):Pm n (bubble p i j):=(bubble_perm _ _ _).trans h
theorem Ba{p:Array Nat}{i j:Nat}(Z:j<=p.size)(k:Nat):Rk r (Om p i j) k=if i<=k/\k<j then Rk r p (i+j-1-k) else Rk r p k:=by
 unfold Rk Om;rw[qX,getElem?_mirror_all Z,qX,qX]
 split<;>rfl
theorem FY{p:Array Nat}{Z d:Nat}(hs:Z<p.size)(Y:d<=Z)(k:Nat):Rk r (bubble p Z d) k=if k=Z-d then Rk r p Z else if Z-d<k/\k<=Z then Rk r p (k-1) else Rk r p k:=by
 unfold Rk;rw[qX,getElem?_bubble hs d Y,qX,qX,qX]
 repeat' split
 all_goals rfl
theorem tF{p:Array Nat}{i j:Nat}(Y:j<=p.size)(Z:∀k,i<=k->k<j->Rk r p k=Rk r p (j-1))(k:Nat):Rk r (Om p i j) k=Rk r p k:=by
 rw[Ba Y]
 split
 ·rw[Z k (by omega) (by omega),Z _ (by omega) (by omega)]
 ·rfl
def Srt(r:Nat->List Int)(p:Array Nat)(m:Nat):Prop:=∀i j,i<=j->j<m->iP (Rk r p i) (Rk r p j)
def Fal(r:Nat->List Int)(p:Array Nat)(m:Nat):Prop:=∀i j,i<=j->j<m->iP (Rk r p j) (Rk r p i)
theorem Srt.one(p:Array Nat):Srt r p 1:=fun i j h1 h2=>by
 have:i=j:=by omega
 subst this;exact iP.refl _
theorem Srt.up{p:Array Nat}{x:Nat}(h1:1<=x)(h:Srt r p x)(l:iP (Rk r p (x-1)) (Rk r p x)):Srt r p (x+1):=fun i j Z Y=>by
 by_cases c:j<x
 ·exact h i j Z c
 ·have:j=x:=by omega
  subst this
  by_cases d:i=j
  ·subst d;exact iP.refl _
  ·exact (h i (j-1) (by omega) (by omega)).trans l
theorem Fal.up{p:Array Nat}{x:Nat}(h1:1<=x)(h:Fal r p x)(l:iP (Rk r p x) (Rk r p (x-1))):Fal r p (x+1):=fun i j Z Y=>by
 by_cases c:j<x
 ·exact h i j Z c
 ·have:j=x:=by omega
  subst this
  by_cases d:i=j
  ·subst d;exact iP.refl _
  ·exact l.trans (h i (j-1) (by omega) (by omega))
theorem Fal.eq{p Z:Array Nat}{m:Nat}(e:∀k,Rk r Z k=Rk r p k)(h:Fal r p m):Fal r Z m:=fun i j a b=>by
 rw[e,e];exact h i j a b
theorem Bb{p:Array Nat}(hp:Pm n p){N:Nat}(Y:N<=n){Q:Nat->Prop}(h:∀q,1<=q->q<=N->Srt r p q->(q=N\/lexLt (Rk r p q) (Rk r p (q-1))=true)->Q q):∀(f m:Nat),1<=m->m+f=N->Srt r p m->KR r n (kas_asc p f m) Q
 |0,m,h1,Z,hs=>h m h1 (by omega) hs (.inl (by omega))
 |f+1,m,h1,Z,hs=>by
  refine{hp.two (by omega) (by omega) (by omega),?_}
  cases e:lexLt (r (p.getD m 0)) (r (p.getD (m-1) 0)) with
  |true=>exact h m h1 (by omega) hs (.inr e)
  |false=>exact Bb hp Y h f (m+1) (by omega) (by omega) (hs.up h1 e)
theorem uX{N:Nat}(Y:N<=n){Q:Array Nat×Nat×Nat->Prop}{m0:Nat}(h:∀p m q,Pm n p->m0<=m->m<=N->Fal r p m->q+1<=m->(∀i,m-(q+1)<=i->i<m->Rk r p i=Rk r p (m-1))->Q (p,m,q)) :
  ∀(f:Nat) (p:Array Nat) (m q:Nat),Pm n p->1<=m->m0<=m->m+f=N->Fal r p m->q+1<=m->(∀i,m-(q+1)<=i->i<m->Rk r p i=Rk r p (m-1))->KR r n (kas_desc f p m q) Q
 |0,p,m,q,hp,h1,h0,W,hs,hq,Z=>h p m q hp h0 (by omega) hs hq Z
 |f+1,p,m,q,hp,h1,h0,W,hs,hq,Z=>by
  refine{hp.two (by omega) (by omega) (by omega),?_};have hsz:m<=p.size:=by rw[hp.size];omega
  cases e:lexLt (r (p.getD m 0)) (r (p.getD (m-1) 0)) with
  |true=>
   refine Jy ?_;have up:=hs.up h1 (iP.of_lt e)
   by_cases c:q>0
   ·rw[if_pos c];exact uX Y h f _ (m+1) 0 (hp.rev _ _) (by omega) (by omega) (by omega) (up.eq (tF hsz Z)) (by omega) (fun i a b=>by congr 1;omega)
   ·rw[if_neg c];exact uX Y h f p (m+1) 0 hp (by omega) (by omega) (by omega) up (by omega) (fun i a b=>by congr 1;omega)
  |false=>
   refine Jz ?_;refine{hp.two (by omega) (by omega) (by omega),?_}
   cases d:lexLt (r (p.getD (m-1) 0)) (r (p.getD m 0)) with
   |true=>
    refine Jy ?_;exact h p m q hp h0 (by omega) hs hq Z
   |false=>
    refine Jz ?_;have eq:Rk r p m=Rk r p (m-1):=rL e d;refine uX Y h f p (m+1) (q+1) hp (by omega) (by omega) (by omega) (hs.up h1 (by rw[eq];exact iP.refl _)) (by omega) (fun i a b=>?_);rw[show m+1-1=m by omega]
    by_cases c:i=m
    ·subst c;rfl
    ·rw[eq];exact Z i (by omega) (by omega)
theorem zQ{N:Nat}(Y:N<=n){Q:Nat×Array Nat->Prop}(h:∀m p,Pm n p->1<=m->m<=N->Srt r p m->Q (m,p)){p:Array Nat}{m:Nat}(hp:Pm n p)(h1:1<=m)(W:m<=N)(hs:Fal r p m):KR r n (kas_tail3 m N p) Q:=by
 unfold kas_tail3;have hsz:m<=p.size:=by rw[hp.size];omega
 refine KR.bind (Bb (hp.rev 0 m) Y (fun q a b c _=>?_) (N-m) m h1 (by omega) fun i j Z V=>?_)
 ·exact h q _ (hp.rev 0 m) a b c
 ·rw[Ba hsz,Ba hsz,if_pos (by omega),if_pos (by omega)];exact hs _ _ (by omega) (by omega)
theorem ue{N:Nat}(W:N<=n){Q:Nat×Array Nat->Prop}(h:∀m p,Pm n p->1<=m->m<=N->Srt r p m->Q (m,p)){p:Array Nat}{m:Nat}(hp:Pm n p)(M:m+1<=N)(hs:Fal r p (m+1)):KR r n (kas_descPart m N p) Q:=by
 unfold kas_descPart;refine KR.bind (uX (m0:=m+1) W (fun O V q Z a b Y hq U=>?_) (N-(m+1)) p (m+1) 0 hp (by omega) (aB _) (by omega) hs (by omega) (fun i a b=>by congr 1;omega));dsimp only;have hsz:V<=O.size:=by rw[Z.size];omega
 by_cases c:q>0
 ·rw[if_pos c];exact zQ W h (Z.rev _ _) (by omega) b (Y.eq (tF hsz U))
 ·rw[if_neg c];exact zQ W h Z (by omega) b Y
theorem FZ{Q:Nat×Array Nat->Prop}(h:∀m p,Pm n p->1<=m->m<=n->Srt r p m->Q (m,p)){p:Array Nat}(hp:Pm n p)(h1:1<=n):KR r n (kas_count n p) Q:=by
 unfold kas_count;refine KR.bind (Bb hp (aB n) (fun m V U hs W=>?_) (n-1) 1 (aB _) (by omega) (Srt.one p))
 by_cases c:m=n
 ·rw[if_pos (by simpa using c)];exact h m p hp V U hs
 ·rw[if_neg (by simpa using c)];have Y:=W.resolve_left c
  by_cases g:m>1
  ·rw[if_pos g];refine{hp.two (by omega) (by omega) (by omega),?_}
   cases e:lexLt (r (p.getD 0 0)) (r (p.getD (m-1) 0)) with
   |true=>
    refine Jy ?_;exact h m p hp V U hs
   |false=>
    refine Jz ?_;have hsz:m<=p.size:=by rw[hp.size];omega
    have Z:∀k,0<=k->k<m->Rk r p k=Rk r p (m-1):=fun k _ hk=>by
     have a1:=hs 0 k (by omega) hk;have a2:=hs k (m-1) (by omega) (by omega);exact a2.anti (iP.trans (show iP (Rk r p (m-1)) (Rk r p 0) from e) a1)
    refine ue (aB n) h (hp.rev _ _) (by omega) (Fal.eq (tF hsz Z) ?_);refine Fal.up (by omega) (fun i j M O=>?_) (iP.of_lt Y);rw[Z i (by omega) (by omega),Z j (by omega) O];exact iP.refl _
  ·rw[if_neg g];have:m=1:=by omega
   subst this;exact ue (aB n) h hp (by omega) (Fal.up (aB _) (fun i j a b=>by
    have:i=j:=by omega
    subst this;exact iP.refl _) (iP.of_lt Y))
theorem vQ{p:Array Nat}{k:Nat}(hp:Pm n p)(hk:k<n)(hs:Srt r p k){Q:Nat->Prop}(h:∀l,l<=k->(∀i,i<l->iP (Rk r p i) (Rk r p k))->(∀i,l<=i->i<k->lexLt (Rk r p k) (Rk r p i)=true)->Q l) :
  ∀(f l q:Nat),l<=q->q<=k->q-l<=f->(∀i,i<l->iP (Rk r p i) (Rk r p k))->(∀i,q<=i->i<k->lexLt (Rk r p k) (Rk r p i)=true)->KR r n (kas_place p k f l q) Q
 |0,l,q,a,b,c,lo,hi=>by
  have:l=q:=by omega
  subst this;exact h l b lo hi
 |f+1,l,q,a,b,c,lo,hi=>by
  unfold kas_place
  by_cases d:l≥q
  ·rw[if_pos d];have:l=q:=by omega
   subst this;exact h l b lo hi
  ·rw[if_neg d];refine{hp.two hk (by omega) (by omega),?_}
   cases e:lexLt (r (p.getD k 0)) (r (p.getD ((l+q)/2) 0)) with
   |true=>
    refine Jy ?_;exact vQ hp hk hs h f l _ (by omega) (by omega) (by omega) lo fun i h1 h2=>FW e (hs _ _ h1 h2)
   |false=>
    refine Jz ?_;exact vQ hp hk hs h f _ q (by omega) (by omega) (by omega) (fun i h1=>(hs i ((l+q)/2) (by omega) (by omega)).trans e) hi
theorem F0{Q:Array Nat->Prop}(h:∀p,Pm n p->Srt r p n->Q p):∀(f:Nat) (p:Array Nat) (k:Nat),Pm n p->k+f=n->Srt r p k->KR r n (kas_bin f p k) Q
 |0,p,k,hp,Y,hs=>h p hp (by rw[<- Y];exact hs)
 |f+1,p,k,hp,Y,hs=>by
  unfold kas_bin;refine KR.bind (vQ hp (by omega) hs (fun l U lo hi=>?_) k 0 k (bO _) (aB _) (by omega) (fun i h=>absurd h (by omega)) (fun i a b=>absurd b (by omega)));refine F0 h f _ (k+1) (hp.bub _ _) (by omega) fun i j W V=>?_;have Z:k<p.size:=by rw[hp.size];omega
  rw[FY Z (by omega),FY Z (by omega),show k-(k-l)=l by omega]
  repeat' split
  all_goals first
   |(exfalso;omega)
   |exact iP.refl _
   |exact lo _ (by omega)
   |exact iP.of_lt (hi _ (by omega) (by omega))
   |exact hs _ _ (by omega) (by omega)
theorem JA(h1:1<=n):KR r n (kas_sort n) (fun p=>Pm n p/\Srt r p n):=by
 unfold kas_sort;refine KR.bind (FZ (fun m p hp Y Z hs=>?_) (Array.Perm.refl _) h1);dsimp only
 by_cases c:m<n
 ·rw[if_pos c];refine F0 (fun p hp hs=>⟨hp,hs⟩) _ p (max m 1) hp (by omega) ?_;rw[show max m 1=m by omega];exact hs
 ·rw[if_neg c];have:m=n:=by omega
  subst this;exact⟨hp,hs⟩
end
end L2
namespace L2
open PySem PySem.W PySem.Spec PyProof.Rows HT
section
variable{prog:aL}{w:bA}{A:bY}{E:ae->ao->Prop}{s:ao}
theorem uA{h0:cu}{a:aa}{vs:List ae}{n:Nat}{b:Bool}{P:Fin->ao->Prop}{r:Nat->List Int}(I:s.heap.get? a=Z8 (dJ "list" vs.toArray n))(k0:∀c o,h0.get? c=Z8 o->s.heap.get? c=Z8 o)(H:h0.get? a=Z7)(h2:2<=vs.length)(M:vs.length<64)
  (hk:∀h':cu,(∀c o,h0.get? c=Z8 o->h'.get? c=Z8 o)->∀Q:SortKind->ao->Prop,Q (Ax false) {s with heap:=h'}->aW (aX prog w) A (keyKind' vs.toArray) Q E {s with heap:=h'})
  (hc:∀h':cu,(∀c o,h0.get? c=Z8 o->h'.get? c=Z8 o)->∀i j (C:Bool->ao->Prop),i<vs.length->j<vs.length->i≠j->C (lexLt (r i) (r j)) {s with heap:=h'}->kas_ask prog w A (Ax false) (kY b vs) i j C {s with heap:=h'})
  (h:∀p,Pm vs.length p->Srt r p vs.length->P (.done (.ret .none)) {s with heap:=sortedHeap s.heap a vs (uf (kY b (p.toList.map fun i=>(kY b vs).getD i Value.none)))}) :
  aW (aX prog w) A (gW.«list.sort» ⟨[.ref a],[(lL "reverse",.bool b)]⟩) P E s:=by
 rw[list_sort_rev];have ha:a<s.heap.objs.size:=aQ I;refine au (listItems_at I rfl ?_);refine au (uW I rfl ?_);obtain⟨e1,U⟩:∃e1,(s.heap.update a (cV fun _=>#[])).get? a=Z8 (dJ "list" #[] e1):=⟨_,get?_update_seq I (fun _=>#[])⟩;refine au (zk U rfl ?_);refine au (wpAny_newTuple ?_);refine au (pU ?_);refine eU ?_;have V:(((s.heap.update a (cV fun _=>#[])).push (dJ "tuple" vs.toArray 0)).push (dJ "list" #[] 0)).get? a=Z8 (dJ "list" #[] e1):=by
  rw[gi _ _ _ (by rw[vP,gF];exact aR (iM ha)),gi _ _ _ (by rw[gF];exact aR ha)];exact U
 have Y:∀c o,h0.get? c=Z8 o->(((s.heap.update a (cV fun _=>#[])).push (dJ "tuple" vs.toArray 0)).push (dJ "list" #[] 0)).get? c=Z8 o:=fun c o e=>by
  have lt:c<s.heap.objs.size:=aQ (k0 c o e);have ne:c≠a:=fun z=>by
   rw[z,H]at e
   cases e
  rw[gi _ _ _ (by rw[vP,gF];exact aR (iM lt)),gi _ _ _ (by rw[gF];exact aR lt),Ej _ _ _ _ ne];exact k0 c o e
 show aW (aX prog w) A _ P E {s with heap:=((s.heap.update a (cV fun _=>#[])).push (dJ "tuple" vs.toArray 0)).push (dJ "list" #[] 0)};dsimp only;have step:∀t:Sem Fin,aW (aX prog w) A t P E {s with heap:=((s.heap.update a (cV fun _=>#[])).push (dJ "tuple" vs.toArray 0)).push (dJ "list" #[] 0)} ->
   aW (aX prog w) A (if b=true then (do let _ <- IK "list.sort.reverse";t) else t) P E {s with heap:=((s.heap.update a (cV fun _=>#[])).push (dJ "tuple" vs.toArray 0)).push (dJ "list" #[] 0)}:=by
  intro t ht
  split
  ·exact au (A2 ht)
  ·exact ht
 refine step _ ?_;have J:¬vs.toArray.size<2:=by
  rw[aG];omega
 rw[if_neg J,if_neg J];refine au (hk _ Y _ ?_);rw[kat_pairs b rfl];have g:=kat_len b vs;refine au (eQ (kat_run (ks:=kY b vs) (vs:=kY b vs) (κ:=Ax false) (Q:=fun Z s'=>∃p:Array Nat,arrOf Z=p.map (kas_item ((kY b vs).toArray.zip (kY b vs).toArray))/\failedOf Z=Z7/\s'={s with heap:=((s.heap.update a (cV fun _=>#[])).push (dJ "tuple" vs.toArray 0)).push (dJ "list" #[] 0)}/\Pm vs.length p/\Srt r p vs.length) (G:=fun p s'=>s'={s with heap:=((s.heap.update a (cV fun _=>#[])).push (dJ "tuple" vs.toArray 0)).push (dJ "list" #[] 0)}/\Pm vs.length p/\Srt r p vs.length) rfl (by rw[g];exact h2) (by rw[g];exact M) (fun p Z s' hp W D hg=>⟨p,W,D,hg⟩) (by
  rw[g];exact KR.sound (hc _ Y) (JA (by omega)))) ?_ fun _ _ e=>e)
 rintro⟨⟨⟩,Z⟩ s' ⟨p,W,D,rfl,O,bn⟩;dsimp only;have out:=kat_snds (ks:=kY b vs) (vs:=kY b vs) rfl W;refine au (zk V rfl ?_);rw[out,kat_outs];have lp:(kY b (p.toList.map fun i=>(kY b vs).getD i Value.none)).length<64:=by
  rw[kat_len,aq,fu,O.size];exact M
 refine au (uW V rfl ?_ (hsz2:=by rw[aG,lH];omega));rw[D];simp only[bne_self_eq_false,sJ,if_false];exact bf (h p O bn)
theorem sorted_N{l:aa}{vs:List ae}{b:Bool}{Q:ae->ao->Prop}{r:Nat->List Int}(O:s.heap.IsList l vs.toArray)(h2:2<=vs.length)(W:vs.length<64)
  (hk:∀(Z:bY) (E:ae->ao->Prop) (h':cu),Z.units<=A.units+2->(∀c o,s.heap.get? c=Z8 o->h'.get? c=Z8 o)->∀Q:SortKind->ao->Prop,Q (Ax false) {s with heap:=h'}->aW (aX prog w) Z (keyKind' vs.toArray) Q E {s with heap:=h'})
  (hc:∀(Z:bY) (h':cu),Z.units<=A.units+2->(∀c o,s.heap.get? c=Z8 o->h'.get? c=Z8 o)->∀i j (C:Bool->ao->Prop),i<vs.length->j<vs.length->i≠j->C (lexLt (r i) (r j)) {s with heap:=h'}->kas_ask prog w Z (Ax false) (kY b vs) i j C {s with heap:=h'})
  (h:∀p,Pm vs.length p->Srt r p vs.length->Q (.ref (s.heap.objs.size+1)) {s with heap:=E2 s.heap vs (uf (kY b (p.toList.map fun i=>(kY b vs).getD i Value.none)))}) :
  aW (aX prog w) A (vw (.builtin "sorted") [.ref l] [(lL "reverse",.bool b)]) Q E s:=by
 refine FT Jt FU FV (args_sorted_rev _ _) ?_;unfold gW.«sorted»;refine au (m:=MI "sorted" 1 1 _) (bf ?_);refine au (collect_list O ?_);refine au (pU ?_);have hsz:((s.heap.push (dJ "list" #[] 0)).update s.heap.objs.size (cV (·++vs.toArray))).objs.size=s.heap.objs.size+1:=by
  rw[gF,vP]
 have Y:(((s.heap.push (dJ "list" #[] 0)).update s.heap.objs.size (cV (·++vs.toArray))).push (dJ "list" vs.toArray 0)).get? (s.heap.objs.size+1)=Z8 (dJ "list" vs.toArray 0):=by
  rw[<- hsz];exact cj _ rfl
 have k0:∀c o,s.heap.get? c=Z8 o->(((s.heap.push (dJ "list" #[] 0)).update s.heap.objs.size (cV (·++vs.toArray))).push (dJ "list" vs.toArray 0)).get? c=Z8 o:=fun c o e=>by
  have lt:c<s.heap.objs.size:=aQ e;rw[gi _ _ _ (by rw[hsz];exact aR (iM lt)),Ej _ _ _ _ (aR lt),gi _ _ _ (aR lt)];exact e
 have V:s.heap.get? (s.heap.objs.size+1)=Z7:=by
  cases e:s.heap.get? (s.heap.objs.size+1) with
  |none=>rfl
  |some o=>
   have:=aQ e;exact absurd this (Nat.not_lt.mpr (gc _))
 show aW _ _ _ _ _ {s with heap:=((s.heap.push (dJ "list" #[] 0)).update s.heap.objs.size (cV (·++vs.toArray))).push (dJ "list" vs.toArray 0)};rw[hsz];refine au (eU (KU A9 {_,Y,Z9} zO (uA (h0:=s.heap) (r:=r) Y k0 V h2 W (fun h' k Q q=>hk _ _ h' (aB _) k Q q) (fun h' k i j C hi U ne q=>hc _ h' (aB _) k i j C hi U ne q) fun p a1 a2=>{_,Z9,?_}) (MJ _ _)));exact bf {_,Z9,h p a1 a2}
end
def Bc(H:Hp)(z:V×List Int):Prop:=∃a k Z,z.1=.ref a/\H a=Z8 (.tup (.ref k::Z))/\H k=Z8 (.tup (z.2.map V.int))
theorem tG:∀{xs:List V} {Z:List ae},cS xs Z->∀(i:Nat),i<xs.length->∃v,Z.getD i Value.none=v/\∃x,xs[i]?=Z8 x/\RelV x v
 |_,_,.nil,i,h=>absurd h (by simp)
 |_,_,.cons a b,0,h=>{_,Z9,_,Z9,a}
 |_,_,.cons a b,i+1,h=>by
  obtain⟨v,e,x,h1,h2⟩:=tG b i (by simpa using h);exact{v,by simpa using e,x,by simpa using h1,h2}
theorem xJ{xs:List V}{Z:List ae}(h:cS xs Z)(d:V):∀(is:List Nat),(∀i∈is,i<xs.length)->cS (is.map fun i=>(xs.getD i d)) (is.map fun i=>Z.getD i Value.none)
 | [],_=>.nil
 |i::is,hb=>by
  obtain⟨v,e,x,h1,h2⟩:=tG h i (hb i ax);refine .cons ?_ (xJ h d is fun j Y=>hb j (ah _ Y));show RelV (xs.getD i d) (Z.getD i Value.none);rw[e,dR,h1];exact h2
theorem Bd{Z:Type}(l:List Z)(d:Z):(eT l.length).map (fun i=>l.getD i d)=l:=by
 apply FQ;intro i;rw[cm]
 by_cases h:i<l.length
 ·rw[List.getElem?_range h,F3,dR,aO h];rfl
 ·rw[gI (by simpa using h),gI (by omega)];rfl
def oY:V×List Int:=(.non,[])
theorem F4{zs:List (V×List Int)}(M:(zs.map (·.2)).Nodup){p:Array Nat}(hp:Pm zs.length p)(hs:Srt (fun i=>(zs.reverse.getD i oY).2) p zs.length) :
  ((p.toList.map fun i=>zs.reverse.getD i oY).reverse).Perm zs/\((p.toList.map fun i=>zs.reverse.getD i oY).reverse).Pairwise (fun a b=>HT.lexLt b.2 a.2=true):=by
 have pl:p.toList.Perm (eT zs.length):=by simpa using iQ.mp hp
 have Y:(p.toList.map fun i=>zs.reverse.getD i oY).Perm zs:=by
  refine (pl.map _).trans ?_;have e:=Bd zs.reverse oY;rw[jc]at e;rw[e];exact ug _
 refine{(ug _).trans Y,List.pairwise_reverse.mpr (c9.mpr fun i j hi W Z=>?_)};have U:((p.toList.map fun i=>zs.reverse.getD i oY).map (·.2)).Nodup:=(Y.map _).nodup_iff.mpr M;have J:i<zs.length:=by
  have:=Y.length_eq;omega
 have O:j<zs.length:=by
  have:=Y.length_eq;omega
 have at_:∀k (h:k<(p.toList.map fun i=>zs.reverse.getD i oY).length),(p.toList.map fun i=>zs.reverse.getD i oY)[k].2=Rk (fun i=>(zs.reverse.getD i oY).2) p k:=fun k h=>by
  have hk:k<p.size:=by simpa using h
  unfold Rk;simp[oX,hk]
 have le:=hs i j (jM Z) O;have ne:=c9.mp U i j (by simpa using hi) (by simpa using W) Z;rw[at_ i hi,at_ j W];refine lx_of_not le fun z=>ne ((i5 _).trans (Eq.trans ?_ (i5 _).symm));rw[at_ i hi,at_ j W];exact z.symm
section
variable{X:Cx}{e:cL}{t:TA}{p pos kp bp:Pos}{j:Nat}
def MT(t:TA):TE:=fun σ H Q=>t σ H fun vs H1=>∃(p:aa) (zs:List (V×List Int)),vs=[.ref p]/\H1 p=Z8 (.lst (zs.map (·.1)))/\(∀z∈zs,Bc H1 z)/\(zs.map (·.2)).Nodup/\zs.length<64 /\
 ∀(l:aa) (Z:List (V×List Int)),H1 l=Z7->Z.Perm zs->Z.Pairwise (fun a b=>HT.lexLt b.2 a.2=true)->Q (.ref l) (upd H1 l (.lst (Z.map (·.1))))
theorem xK{s:ao}{H:Hp}{P:aL}{w:bA}(ok:HOk P w H s.heap):∀{zs:List (V×List Int)} {Z:List ae},cS (zs.map (·.1)) Z->(∀z∈zs,Bc H z)->∃fs,KatTups s.heap Z fs/\fs.length=Z.length/\∀f∈fs,∃k o,f=.ref k/\s.heap.get? k=Z8 o/\o.cls=.type "tuple"
 | [],_,r,_=>by
  cases r;exact{[],KatTups.nil,Z9,fun f W=>by cases W}
 |z::zs,_,r,U=>by
  cases r with
  |cons a b=>
   obtain⟨fs,h1,h2,O⟩:=xK ok b fun z Y=>U z (ah _ Y);obtain⟨ad,k,ra,e1,e2,e3⟩:=U z ax;have a:RelV z.1 _:=a;rw[e1]at a
   cases a;obtain⟨us,g,o1,J,M,n1,I⟩:=iu ok e2;obtain⟨ws,r2,o2,D,t,n2,d2⟩:=iu ok e3
   cases g with
   |cons a1 b1=>
    cases a1;refine{.ref k::fs,KatTups.cons J M I rfl h1,by rw[aU,aU,h2],fun f W=>?_}
    rcases ar.mp W with y|y
    ·exact⟨k,o2,y,D,t⟩
    ·exact O f y
theorem Gf{J:cL}(hu:X.A.units+5<d8)(hg:Gl X "sorted")(hm:X.mg "sorted"=Z7)(ha:PA X [e] t)(hk:PE X J (tC (.bl true)))(he:jf pos (cw [e] X.env)=[(false,fy e X.env)]:=by rfl)
  (M:(nY pos (jg [{Z8 "reverse",J,kp}] X.env)).all (·.1.isSome)=true:=by rfl) (eh:(nY pos (jg [{Z8 "reverse",J,kp}] X.env)).any (·.1.isNone)=false:=by rfl)
  (ef:(nY pos (jg [{Z8 "reverse",J,kp}] X.env)).filterMap (·.1)=[lL "reverse"]:=by rfl) :
  PE X (.Call (.Name "sorted" p) [e] [{Z8 "reverse",J,kp}] pos) (MT t):=by
 intro pins s σ H Q I h;refine gR (o9 I hg hm boot_sorted ?_);refine callWith_kw (thn (ha pos pins s σ H _ I h) fun us s1 ⟨vs,H1,I1,r1,q1⟩=>?_) (by rw[he];rfl) (by rw[he];rfl) M eh;obtain⟨l,zs,rfl,hl,hz,nd,dV,q⟩:=q1;obtain⟨u,rfl,ru⟩:=vals1 r1
 cases ru;refine kws_cons (thn (hk pins s1 σ H1 (fun v H2=>v=.bl true/\H2=H1) I1 (show _/\_ from⟨Z9,Z9⟩)) fun v s2 ek=>kws_nil ?_);obtain⟨y,H2,U,r2,e1,e2⟩:=ek;subst e1 e2
 cases r2;rw[ef];obtain⟨Z,n,rv,ho,eb⟩:=U.lst hl;have Y:=rv.length;rw[aq]at Y;show aW _ _ (vw (.builtin "sorted") [.ref l] [(lL "reverse",.bool true)]) _ _ _
 by_cases c:Z.length<2
 ·refine A8 (l:=l) (vs:=Z) {_,ho,Z9,n,Z9} c ?_;obtain⟨ep,O⟩:=sortedAll_at s2.heap Z Z.toArray;have two:2<=aC:=by decide
  have z:=U.laid (a:=s2.heap.objs.size+1) (o:=.lst (zs.map (·.1))) (t':=s2.toks) (fun _ _=>sortedAll_old) (gc _) (h':=E2 s2.heap Z Z.toArray) {by rw[aq];omega,Z,ep,rv,O};refine{.ref (s2.heap.objs.size+1),_,z,Z9,q _ zs (U.hok.fresh (gc _)) (jn _) ?_}
  match zs,Y with
  | [],_=>exact List.Pairwise.nil
  | [_],_=>exact oR _ _
  |_::_::_,Y=>exact absurd c (by rw[<- Y];simp)
 ·have ee:∀{α:Type} (l:List α),kY true l=l.reverse:=fun l=>rfl;refine sorted_N (l:=l) (vs:=Z) (r:=fun i=>(zs.reverse.getD i oY).2) {_,ho,Z9,n,Z9} (by omega) (by omega) (fun A' E' h' hA k Q' q'=>?_) (fun A' h' hA k i j C hi hj ne q'=>?_) fun p hp hs=>?_
  ·have I3:=(U.kept (t':=s2.toks) k).hok;obtain⟨fs,h1,h2,h3⟩:=xK (s:={s2 with heap:=h'}) I3 rv hz;refine kat_kind (T:=.type "tuple") h1 (by omega) (fun v hv=>?_) (by rfl) ?_
   ·obtain⟨kk,o,rfl,g,cl⟩:=h3 v hv;rw[<- cl];exact (Looks.ld g).andThen .now
   ·exact q'
  ·have I3:=(U.kept (t':=s2.toks) k).hok;have vr:=rv.reverse;rw[<- uY]at vr;have at_:∀m,m<Z.length->∃(a kk:aa) (us ws:List ae),Z.reverse.getD m Value.none=.ref a/\uE h' a (.ref kk::us).toArray/\uE h' kk ws.toArray/\eM ws (zs.reverse.getD m oY).2/\H2 kk=Z8 (.tup ((zs.reverse.getD m oY).2.map V.int)):=fun m hm=>by
    have W:m<zs.reverse.length:=by rw[jc];omega
    obtain⟨v,ev,x,hx,rx⟩:=tG vr m (by rw[aq];exact W);rw[cm,aO W]at hx
    cases hx;have ez:zs.reverse.getD m oY=zs.reverse[m]:=by rw[dR,aO W];rfl
    obtain⟨ad,kk,ra,e1,e2,e3⟩:=hz _ (List.mem_reverse.mp (uZ W));have rx:RelV (zs.reverse[m]).1 v:=rx;rw[e1]at rx
    cases rx;obtain⟨us,r1,t1⟩:=iu (s:={s2 with heap:=h'}) I3 e2;obtain⟨ws,r2,t2⟩:=iu (s:={s2 with heap:=h'}) I3 e3
    cases r1 with
    |cons a1 b1=>
     cases a1;exact{ad,kk,_,ws,ev,t1,t2,by rw[ez];exact intsAre_of r2,by rw[ez];exact e3}
   obtain⟨a1,k1,ea,ed,g1,t1,u1,i1,m1⟩:=at_ i hi;obtain⟨a2,k2,ec,dL,g2,t2,u2,i2,m2⟩:=at_ j hj;have ej:(zs.reverse.getD i oY).2≠(zs.reverse.getD j oY).2:=by
    have D:((zs.reverse).map (·.2)).Nodup:=((ug zs).map _).nodup_iff.mpr nd;have h1:i<zs.reverse.length:=by rw[jc];omega
    have h2:j<zs.reverse.length:=by rw[jc];omega
    rw[dR,aO h1,dR,aO h2];show (zs.reverse[i]).2≠(zs.reverse[j]).2
    rcases FX ne with c|c
    ·exact fun z=>c9.mp D i j (by simpa using h1) (by simpa using h2) c ((i5 _).trans (z.trans (i5 _).symm))
    ·exact fun z=>c9.mp D j i (by simpa using h2) (by simpa using h1) c ((i5 _).trans (z.symm.trans (i5 _).symm))
   have eq:=xE (s:={s2 with heap:=h'}) (A:=A') I3 (by omega) m1 m2;rw[decide_eq_false ej]at eq;show aW _ A' (keyLt' (Ax false) (Z.reverse.getD i Value.none) (Z.reverse.getD j Value.none)) C _ _;rw[g1,g2];obtain⟨o1,y1,_,n1,d1⟩:=id t1;obtain⟨o2,y2,_,n2,d2⟩:=id t2;refine kat_lt (s:={s2 with heap:=h'}) y1 d1 y2 d2 (kat_cons (eq _ _ _ _ (kat_no (kat_one _ _ (HT.lt_tupInts u1 u2 i1 i2 (by omega) q')))))
  ·have em:Pm zs.length p:=by rw[Y];exact hp
   obtain⟨el,ei⟩:=F4 nd em (by rw[Y];exact hs);have vr:=rv.reverse;rw[<- uY]at vr;have vo:=(xJ vr V.non p.toList fun i hi=>by
    rw[aq,jc];have:=(iQ.mp em).mem_iff.mp hi;simpa using this).reverse
   have ev:(p.toList.map fun i=>(zs.reverse.map (·.1)).getD i V.non).reverse=((p.toList.map fun i=>zs.reverse.getD i oY).reverse).map (·.1):=by
    refine Eq.trans ?_ uY.symm;rw[dC]
    congr 1
    refine gv fun i _=>?_;show (zs.reverse.map (·.1)).getD i V.non=(zs.reverse.getD i oY).1;rw[dR,cm,dR]
    cases zs.reverse[i]?<;>rfl
   rw[ev]at vo;obtain⟨ep,O⟩:=sortedAll_at s2.heap Z (uf (p.toList.map fun i=>Z.reverse.getD i Value.none).reverse);have z:=U.laid (a:=s2.heap.objs.size+1) (o:=.lst (((p.toList.map fun i=>zs.reverse.getD i oY).reverse).map (·.1))) (t':=s2.toks) (fun _ _=>sortedAll_old) (gc _) (h':=E2 s2.heap Z (uf (p.toList.map fun i=>Z.reverse.getD i Value.none).reverse)) ⟨by
    rw[aq,el.length_eq];have:64<=aC:=by decide
    omega,_,ep,vo,O⟩
   exact{.ref (s2.heap.objs.size+1),_,z,Z9,q _ _ (U.hok.fresh (gc _)) el ei}
end
end L2
namespace PySem
open SeqAt MeetsSeq MeetsSeq2 MeetsSeq3 SeqRoads2
section
variable{prog:aL}{w:bA}{A:bY}{s:ao}
variable{K:Type}[DecidableEq K]{knd:KeyKind prog w K}
end
end PySem
namespace L2
open PySem PySem.Spec PyProof.Rows PySem.SeqAt
section
variable{X:Cx}
theorem xM:MtR X "dict.clear" (fun x vs H Q=>∃d kvs,x=.ref d/\vs=[]/\H d=Z8 (.dK kvs)/\Q .non (upd H d (.dK []))):=by
 intro pins s σ H x vs v us Q I Z V h;obtain⟨d,kvs,rfl,rfl,W,q⟩:=h
 cases Z
 cases V;exact Jb I W fun s' Y=>{.non,_,Y,Z9,q}
theorem mU:MtR X "list.clear" (fun x vs H Q=>∃l xs,x=.ref l/\vs=[]/\H l=Z8 (.lst xs)/\Q .non (upd H l (.lst []))):=by
 intro pins s σ H x vs v us Q I W V h;obtain⟨l,xs,rfl,rfl,Y,q⟩:=h
 cases W
 cases V;obtain⟨z,Z,n,r,U,e⟩:=I.lstM Y;refine oa F.slot_list_clear {_,e,Z9} F.entry_list_clear (F.args_list_clear_1 _) (AutoSeq1.list_clear_list_0 l Z.toArray n (by rw[aG];omega)) {e,?_};exact{.non,_,I.lset (its':=[]) Y e (by simp) .nil (bO _),Z9,q}
end
end L2
namespace L2
open PySem PySem.Spec PyProof.Rows
section
variable{X:Cx}
theorem yA(V:X.A.units+50<d8):OpR X (dI .NotEq) (fun x y H Q=>∃p q xs,x=.ref p/\y=.ref q/\H p=Z8 (.lst xs)/\H q=Z8 (.lst [])/\Q (.bl (!xs.isEmpty)) H):=by
 intro pins s σ H x y v u Q I Z Y h;obtain⟨p,q,xs,rfl,rfl,h1,h2,k⟩:=h
 cases xs with
 |nil=>exact FO V pins s σ H _ _ v u Q I Z Y {1,p,q,by omega,Z9,Z9,.inr (.inl {p,q,[],[],Z9,Z9,h1,h2,.nil}),k}
 |cons a xs=>
  cases Z
  cases Y;obtain⟨us,J,W⟩:=gK I.hok h1;obtain⟨vs,M,O⟩:=gK I.hok h2
  cases M;have U:=J.length;exact SeqAt.RcNeAt.lists_lengths W O (by
   cases us with
   |nil=>cases U
   |cons b us=>simp) (by omega) X.prog X.w _ _ {.bl true,H,I,Z9,k}
end
section
variable{X:Cx}
end
theorem Gh{n m:Nat}{g:TG}{tc:TT}{te:TE}{σ:St}{H:Hp}{Q:VK}(Y:Nat->List V->Hp->Prop)(h0:Y 0 [] H)(t:∀i ys H,i<=m->Y i ys H->ys.length<aC)
  (hs:∀i ys H,i<m->Y i ys H->g (.int (0+i)) (cz n Z7++σ) H fun Z H2=>Z.drop n=σ/\tc Z H2 fun b M=>if b=true then te Z M fun y J=>Y (i+1) (ys++[y]) J else Y (i+1) ys M)
  (z:∀ys H,Y m ys H->∀p,H p=Z7->Q (.ref p) (upd H p (.lst ys))) :
  ∃W:Nat->Nat->List V->Hp->Prop,(∃k,W 0 k [] H)/\∀i k ys H,W i k ys H->ys.length<aC/\(((Itr 0 m).stop i H/\∀p,H p=Z7->Q (.ref p) (upd H p (.lst ys))) \/
   ((Itr 0 m).go i H/\∃N:List V->Hp->Prop,(∀U H',N U H'->∃I,I<k/\W (i+1) I U H')/\∀x H',(Itr 0 m).yld i H x H'->g x (cz n Z7++σ) H' fun Z H2=>Z.drop n=σ/\tc Z H2 fun b M=>
    if b=true then te Z M fun y J=>N (ys++[y]) J else N ys M)):=by
 refine{fun i k ys H=>k=m-i/\i<=m/\Y i ys H,{m,by simp,bO _,h0},?_};rintro i k ys H ⟨rfl,hi,O⟩;refine{t i ys H hi O,?_}
 by_cases lt:i<m
 ·refine .inr {lt,Y (i+1),fun U H' D=>{m-(i+1),by omega,Z9,lt,D},fun x H' y=>?_};obtain⟨e,y⟩:=y;subst e y;exact hs i ys _ lt O
 ·have e:i=m:=by omega
  subst e;exact .inl {aB _,z ys H O}
end L2
namespace My
open PySem L2
def top(i:Nat):cU:=PySem.Challenge.pw_momentloom_k40_keepers_run.main.body.getD i (.Pass {0,0,0,0})
abbrev mw:cU:=eP (top 3) 0
abbrev oh:cU:=eP (top 4) 0
abbrev pX:cU:=eP (top 5) 0
abbrev qY:cU:=eP (top 6) 0
abbrev pY:cU:=eP (top 7) 0
abbrev pZ:cU:=eP (top 8) 0
abbrev mV:cU:=top 11
abbrev oj:cU:=eP (top 12) 0
abbrev jv:cU:=eP (top 13) 0
abbrev iR:cU:=eP (top 13) 1
abbrev jX:cU:=top 14
abbrev kZ:cU:=top 16
abbrev gx:cU:=top 17
abbrev gL:cU:=top 18
abbrev eu:cU:=top 19
abbrev om:cU:=eP (top 21) 0
abbrev jj:cU:=eP (top 21) 1
abbrev e8:cU:=eP (top 21) 2
abbrev eS:cU:=eP (top 21) 3
abbrev gN:cU:=eP (top 21) 4
abbrev yB:cU:=top 22
abbrev oo:cU:=top 23
abbrev iw:cU:=top 24
abbrev lU:cU:=top 25
abbrev iJ:cU:=top 26
abbrev mX:cU:=top 27
abbrev mY:cU:=top 28
abbrev mZ:cU:=top 29
abbrev m5:cU:=top 30
abbrev m7:cU:=top 31
abbrev oq:cU:=top 33
abbrev rM:cU:=top 34
abbrev p0:cU:=eP (top 36) 0
abbrev gC:cU:=top 37
abbrev mB:cU:=eP (top 38) 0
abbrev gS:cU:=eP (top 38) 1
abbrev fi:cU:=eP (top 38) 2
abbrev iy:cU:=eP (top 38) 3
abbrev e9:cU:=top 39
abbrev m8:cU:=top 40
abbrev vc:cU:=top 41
abbrev mC:cU:=eP (top 43) 0
abbrev jw:cU:=eP (top 43) 1
abbrev hV:cU:=eP (top 43) 2
abbrev jx:cU:=eP (top 43) 3
abbrev iK:cU:=eP (top 43) 4
abbrev fJ:cU:=eP (top 43) 5
abbrev lV:cU:=top 45
abbrev lW:cU:=top 46
abbrev eE:cU:=top 47
abbrev fK:cU:=top 48
abbrev gT:cU:=top 49
abbrev jk:cU:=top 50
abbrev lu:cU:=top 51
abbrev lA:cU:=top 52
abbrev oy:cU:=top 53
abbrev j9:cU:=top 54
abbrev hW:cU:=top 55
abbrev oz:cU:=top 56
abbrev kf:cU:=top 57
abbrev jy:cU:=top 58
abbrev oA:cU:=top 59
abbrev B5:cU:=top 60
structure Df(K:af)(mg:Str->Option ae)(x:Str)(st:cU)(ps:List Str)(f:aa)(fd:bS):Prop where
 F:Fun K x x st f fd
 b:Binds K fd ps []
 m:mg x=Z8 (.ref f)
structure Bl(mg:Str->Option ae):Prop where
 len:mg "len"=Z7
 abs:mg "abs"=Z7
 isi:mg "isinstance"=Z7
 list:mg "list"=Z7
 tuple:mg "tuple"=Z7
 str:mg "str"=Z7
 int:mg "int"=Z7
 bool:mg "bool"=Z7
 range:mg "range"=Z7
 max:mg "max"=Z7
 dict:mg "dict"=Z7
theorem boot_abs:eK "abs"=Z8 (.builtin "abs"):=by decide +kernel
theorem rN:eK "isinstance"=Z8 (.builtin "isinstance"):=by decide +kernel
theorem boot_list:eK "list"=Z8 (.type "list"):=by decide +kernel
theorem boot_tuple:eK "tuple"=Z8 (.type "tuple"):=by decide +kernel
theorem boot_int:eK "int"=Z8 (.type "int"):=by decide +kernel
theorem boot_max:eK "max"=Z8 (.builtin "max"):=by decide +kernel
theorem boot_dict:eK "dict"=Z8 (.type "dict"):=by decide +kernel
def But(p:aa)(H H':Hp):Prop:=∀b o,H b=Z8 o->b≠p->H' b=Z8 o
theorem But.refl(p:aa)(H:Hp):But p H H:=fun _ _ e _=>e
theorem But.trans{p:aa}{H H1 H2:Hp}(a:But p H H1)(b:But p H1 H2):But p H H2:=fun c o e n=>b c o (a c o e n) n
theorem But.upd(p:aa)(H:Hp)(o:HO):But p H (upd H p o):=fun b u e n=>by rw[aJ n];exact e
theorem But.same{p:aa}{H H1 H2:Hp}(a:But p H H1)(b:aT H1 H2):But p H H2:=fun c o e n=>b c o (a c o e n)
theorem aD{H:Hp}{p:aa}(h:H p=Z7)(o:HO):aT H (upd H p o):=fun b u q=>by rw[aJ (av q h)];exact q
theorem kg{c:Prop}[Decidable c](h:decide c=true):c:=of_decide_eq_true h
theorem kH{c:Prop}[Decidable c](h:¬decide c=true):¬c:=fun z=>h (decide_eq_true z)
theorem lt2:2<=aC:=by decide
theorem lt5:5<=aC:=by decide
def Be:V->Prop
 |.int _=>True
 |.str _=>True
 |_=>False
def Tree(H:Hp):Nat->V->Prop
 |0,v=>Be v
 |n+1,v=>Be v\/∃p xs,v=.ref p/\(H p=Z8 (.lst xs)\/H p=Z8 (.tup xs))/\xs.length<1000/\∀x∈xs,Tree H n x
def Alike(H H':Hp):Nat->V->V->Prop
 |0,v,Z=>Z=v
 |n+1,v,Z=>(Be v/\Z=v)\/(∃p Y xs ys,v=.ref p/\Z=.ref Y/\H p=Z8 (.lst xs)/\H' Y=Z8 (.lst ys)/\aH (Alike H H' n) xs ys) \/
   ∃p Y xs ys,v=.ref p/\Z=.ref Y/\H p=Z8 (.tup xs)/\H' Y=Z8 (.tup ys)/\aH (Alike H H' n) xs ys
theorem Alike.mono{H H1 H2:Hp}(s:aT H1 H2):∀{n:Nat} {v Z:V},Alike H H1 n v Z->Alike H H2 n v Z
 |0,_,_,h=>h
 |n+1,v,Z,h=>by
  rcases h with h|⟨p,Y,xs,ys,e1,W,h1,h2,r⟩|⟨p,Y,xs,ys,e1,W,h1,h2,r⟩
  ·exact .inl h
  ·exact .inr (.inl {p,Y,xs,ys,e1,W,h1,s _ _ h2,L2.Paired.imp' (fun _ _ z=>Alike.mono s z) r})
  ·exact .inr (.inr {p,Y,xs,ys,e1,W,h1,s _ _ h2,L2.Paired.imp' (fun _ _ z=>Alike.mono s z) r})
theorem Tree.same{H H1:Hp}(s:aT H H1):∀{n:Nat} {v:V},Tree H n v->Tree H1 n v
 |0,_,h=>h
 |n+1,v,h=>by
  rcases h with h|⟨p,xs,e,h1,h2,Z⟩
  ·exact .inl h
  ·exact .inr {p,xs,e,h1.imp (s _ _) (s _ _),h2,fun x hx=>Tree.same s (Z x hx)}
theorem Alike.from{H H0 H1:Hp}(s:aT H H0):∀{n:Nat} {v U:V},Tree H n v->Alike H0 H1 n v U->Alike H H1 n v U
 |0,_,_,_,h=>h
 |n+1,v,U,t,h=>by
  rcases t with t|⟨q,zs,e,t1,M,W⟩
  ·rcases h with h|⟨p,Y,xs,ys,e1,Z,h1,h2,r⟩|⟨p,Y,xs,ys,e1,Z,h1,h2,r⟩
   ·exact .inl h
   ·rw[e1]at t;exact t.elim
   ·rw[e1]at t;exact t.elim
  ·rcases h with h|⟨p,Y,xs,ys,e1,Z,h1,h2,r⟩|⟨p,Y,xs,ys,e1,Z,h1,h2,r⟩
   ·exact .inl h
   ·rw[e]at e1
    cases e1
    rcases t1 with t1|t1
    ·have z:=s _ _ t1;rw[h1]at z
     cases z;refine .inr (.inl {q,Y,zs,ys,e,Z,t1,h2,?_});clear h1 t1 M h2
     induction r with
     |nil=>exact .nil
     |cons a b O=>exact .cons (Alike.from s (W _ ax) a) (O fun x hx=>W x (ah _ hx))
    ·have z:=s _ _ t1;rw[h1]at z
     cases z
   ·rw[e]at e1
    cases e1
    rcases t1 with t1|t1
    ·have z:=s _ _ t1;rw[h1]at z
     cases z
    ·have z:=s _ _ t1;rw[h1]at z
     cases z;refine .inr (.inr {q,Y,zs,ys,e,Z,t1,h2,?_});clear h1 t1 M h2
     induction r with
     |nil=>exact .nil
     |cons a b O=>exact .cons (Alike.from s (W _ ax) a) (O fun x hx=>W x (ah _ hx))
theorem Gi{K:af}:gA K (.type "int") (.type "list")=Z8 false:=by kernel_rfl
theorem Gj{K:af}:gA K (.type "str") (.type "list")=Z8 false:=by kernel_rfl
theorem Gm{K:af}:gA K (.type "int") (.type "tuple")=Z8 false:=by kernel_rfl
theorem Gr{K:af}:gA K (.type "str") (.type "tuple")=Z8 false:=by kernel_rfl
theorem MU{K:af}:gA K (.type "list") (.type "list")=Z8 true:=by rfl
theorem MV{K:af}:gA K (.type "tuple") (.type "list")=Z8 false:=by kernel_rfl
theorem MX{K:af}:gA K (.type "tuple") (.type "tuple")=Z8 true:=by rfl
def Nw(H G:Hp):Hp:=fun a=>if H a=Z7 then G a else Z7
theorem zR{H G:Hp}{a:aa}(n:H a=Z7):Nw H G a=G a:=if_pos n
theorem nw_le{H G:Hp}:aT (Nw H G) G:=fun a o e=>by
 unfold Nw at e
 by_cases c:H a=Z7
 ·rw[if_pos c]at e;exact e
 ·rw[if_neg c]at e
  cases e
theorem vd{H G G':Hp}(s:aT G G'):aT (Nw H G) (Nw H G'):=fun a o e=>by
 by_cases c:H a=Z7
 ·rw[zR c]at e |-;exact s _ _ e
 ·unfold Nw at e;rw[if_neg c]at e
  cases e
theorem B6{H0 H G:Hp}(d:∀a,H a=Z7->H0 a=Z7):aT (Nw H G) (Nw H0 G):=fun a o e=>by
 by_cases c:H a=Z7
 ·rw[zR c]at e;rw[zR (d a c)];exact e
 ·unfold Nw at e;rw[if_neg c]at e
  cases e
theorem p5{H G:Hp}(s:aT H G):∀a,G a=Z7->H a=Z7:=fun a n=>by
 cases z:H a with
 |none=>rfl
 |some o=>
  rw[s _ _ z]at n
  cases n
section
variable{P:aL}{w:bA}{K:af}{mg:Str->Option ae}{base:cu}{f fC fI CM CS:aa}{fd fdC fdI:bS}
def p6(n:Nat):Sp:=fun vs H Q _=>∃v,vs=[v]/\Tree H n v/\∀(Z:V) (H':Hp),aT H H'->Alike H (Nw H H') n v Z->Q Z H'
theorem scC:bK ["thing"] ["thing"] (aN mV):={}
theorem B7:(["part","thing"]:List Str).Nodup:=by decide +kernel
theorem xO{Z Y:Type}{R:Z->Y->Prop}{xs:List Z}{ys:List Y}{i:Nat}{x:Z}{y:Y}(r:aH R (xs.take i) ys)(hx:xs[i]?=Z8 x)(h:R x y):aH R (xs.take (i+1)) (ys++[y]):=by
 have e:xs.take (i+1)=xs.take i++[x]:=by rw[d9,hx];rfl
 rw[e];exact eJ r h
theorem zS{n:Nat}(D:Df K mg "copied" mV ["thing"] f fd)(B:Bl mg)(G:bh P w K mg base CX0 (n+1) f fd ["thing"] (p6 n)):bh P w K mg base CX0 (n+2) f fd ["thing"] (p6 (n+1)):=by
 refine D.F.ok scC (fun vs H Q E h=>?_) (fun I A outer s H vs Q E J h=>?_)
 ·obtain⟨v,rfl,_⟩:=h;rfl
 obtain⟨v,rfl,ht,q⟩:=h;refine⟨_,ai (cN (sL (cT lT (by rfl) B.isi rN (ak (pv 0) (ak (uF (v:=.ty "list") (by rfl) B.list boot_list rfl) aj))))
   (aA (bJ (lS ["part"] (iC.closed (by decide +kernel) (by decide +kernel) rfl (by decide +kernel) (by intro n U;rcases aE.mp U with rfl;decide +kernel)) rfl (g9 (pv 0)) (fun _ _ _ _=>df (i:=0) B7 rfl (Or.inl rfl)) (fun _ _ _ _=>jW)
    (fun _ _ _ _=>aM G J rfl D.m D.F.kp D.b .nil aY (ak (pv 0) aj))))) bZ)
  (ai (cN (sL (cT lT (by rfl) B.isi rN (ak (pv 0) (ak (uF (v:=.ty "tuple") (by rfl) B.tuple boot_tuple rfl) aj))))
   (aA (bJ (fg wY (by rfl) B.tuple boot_tuple (ak (lS ["part"] (iC.closed (by decide +kernel) (by decide +kernel) rfl (by decide +kernel) (by intro n U;rcases aE.mp U with rfl;decide +kernel)) rfl (L9 (pv 0)) (fun _ _ _ _=>df (i:=0) B7 rfl (Or.inl rfl)) (fun _ _ _ _=>jW)
    (fun _ _ _ _=>aM G J rfl D.m D.F.kp D.b .nil aY (ak (pv 0) aj))) aj)))) bZ)
  (aA (bJ (pv 0)))),?_⟩
 have big:1000<aC:=by decide
 rcases ht with ht|⟨p,xs,rfl,hp,hl,hx⟩
 ·cases v with
  |int i=>
   refine{_,Z9,_,"list",_,false,Z9,.int i,Gi,_,Z9,gf ?_};refine{_,Z9,_,"tuple",_,false,Z9,.int i,Gm,_,Z9,gf ?_};exact{_,Z9,q _ _ (aT.refl H) (.inl ⟨trivial,Z9⟩)}
  |str x=>
   refine{_,Z9,_,"list",_,false,Z9,.str x,Gj,_,Z9,gf ?_};refine{_,Z9,_,"tuple",_,false,Z9,.str x,Gr,_,Z9,gf ?_};exact{_,Z9,q _ _ (aT.refl H) (.inl ⟨trivial,Z9⟩)}
  |non=>exact ht.elim
  |bl b=>exact ht.elim
  |byt b=>exact ht.elim
  |flt b=>exact ht.elim
  |ref a=>exact ht.elim
  |ty a=>exact ht.elim
 ·rcases hp with hp|hp
  ·refine{_,Z9,_,"list",_,true,Z9,.lst hp,MU,_,Z9,ja ?_};refine{_,Z9,p,Z9,{_,SqL.of hp},tj (K:=K) (a:=p) (xs:=xs) (fun i ys H1=>i<=xs.length/\ys.length=i/\aT H H1/\aH (Alike H (Nw H H1) n) (xs.take i) ys) {bO _,Z9,aT.refl H,.nil} ?_ ?_ ?_}
   ·rintro i ys H1 hi ⟨_,h1,h2,_⟩;exact{SqL.of (h2 _ _ hp),by omega}
   ·rintro i x ys H1 hi ⟨h0,h1,h2,Y⟩;have W:x∈xs:=bD hi;have lt:i<xs.length:=(aF.mp hi).1;refine{Z9,?_};unfold w5;refine ja ?_;refine{_,Z9,x,Z9,Tree.same h2 (hx x W),fun g H2 s2 O=>?_};exact{lt,by rw[ay,h1];rfl,h2.trans s2,xO (L2.Paired.imp' (fun _ _ z=>Alike.mono (vd s2) z) Y) hi (Alike.mono (B6 (p5 h2)) (Alike.from h2 (hx x W) O))}
   ·rintro ys H1 ⟨_,h1,h2,Y⟩ l Z;rw[dS]at Y;refine q _ _ (h2.trans (aD Z _)) (.inr (.inl {p,l,xs,ys,Z9,Z9,hp,(by rw[zR (p5 h2 _ Z)];exact ag),L2.Paired.imp' (fun _ _ z=>Alike.mono (vd (aD Z _)) z) Y}))
  ·refine{_,Z9,_,"list",_,false,Z9,.tup hp,MV,_,Z9,gf ?_};refine{_,Z9,_,"tuple",_,true,Z9,.tup hp,MX,_,Z9,ja ?_};refine{_,Z9,p,Z9,{_,SqT.of hp},FH (K:=K) (a:=p) (xs:=xs) (Q:=fun v H1=>∃z ys,[v]=[V.ref z]/\((SqL K H1 z ys/\∀l,H1 l=Z7->Q (.ref l) (upd H1 l (.tup ys)))\/(SqT K H1 z ys/\Q (.ref z) H1))) (fun i ys H1=>i<=xs.length/\ys.length=i/\aT H H1/\aH (Alike H (Nw H H1) n) (xs.take i) ys) {bO _,Z9,aT.refl H,.nil} ?_ ?_ ?_}
   ·rintro i ys H1 hi ⟨_,h1,h2,_⟩;exact{SqT.of (h2 _ _ hp),by omega}
   ·rintro i x ys H1 hi ⟨h0,h1,h2,Y⟩;have W:x∈xs:=bD hi;have lt:i<xs.length:=(aF.mp hi).1;refine{Z9,?_};unfold w5;refine ja ?_;refine{_,Z9,x,Z9,Tree.same h2 (hx x W),fun g H2 s2 O=>?_};exact{lt,by rw[ay,h1];rfl,h2.trans s2,xO (L2.Paired.imp' (fun _ _ z=>Alike.mono (vd s2) z) Y) hi (Alike.mono (B6 (p5 h2)) (Alike.from h2 (hx x W) O))}
   ·rintro ys H1 ⟨_,h1,h2,Y⟩ l Z;rw[dS]at Y;refine{l,ys,Z9,.inl {SqL.of ag,fun t ht=>?_}};have M:aT H1 (upd (upd H1 l (.lst ys)) t (.tup ys)):=(aD Z _).trans (aD ht _);exact q _ _ (h2.trans M) (.inr (.inr {p,t,xs,ys,Z9,Z9,hp,(by rw[zR (p5 (h2.trans (aD Z (.lst ys))) _ ht)];exact ag),L2.Paired.imp' (fun _ _ z=>Alike.mono (vd M) z) Y}))
theorem zT(D:Df K mg "copied" mV ["thing"] f fd)(B:Bl mg):bh P w K mg base CX0 1 f fd ["thing"] (p6 0):=by
 refine D.F.ok scC (fun vs H Q E h=>?_) (fun Z A outer s H vs Q E Y h=>?_)
 ·obtain⟨v,rfl,_⟩:=h;rfl
 obtain⟨v,rfl,ht,q⟩:=h;refine⟨_,ai (cN (sL (cT lT (by rfl) B.isi rN (ak (pv 0) (ak (uF (v:=.ty "list") (by rfl) B.list boot_list rfl) aj)))) xj bZ)
  (ai (cN (sL (cT lT (by rfl) B.isi rN (ak (pv 0) (ak (uF (v:=.ty "tuple") (by rfl) B.tuple boot_tuple rfl) aj)))) xj bZ)
  (aA (bJ (pv 0)))),?_⟩
 have ht:Be v:=ht
 cases v with
 |int i=>
  refine{_,Z9,_,"list",_,false,Z9,.int i,Gi,_,Z9,gf ?_};refine{_,Z9,_,"tuple",_,false,Z9,.int i,Gm,_,Z9,gf ?_};exact{_,Z9,q _ _ (aT.refl H) rfl}
 |str x=>
  refine{_,Z9,_,"list",_,false,Z9,.str x,Gj,_,Z9,gf ?_};refine{_,Z9,_,"tuple",_,false,Z9,.str x,Gr,_,Z9,gf ?_};exact{_,Z9,q _ _ (aT.refl H) rfl}
 |non=>exact ht.elim
 |bl b=>exact ht.elim
 |byt b=>exact ht.elim
 |flt b=>exact ht.elim
 |ref a=>exact ht.elim
 |ty a=>exact ht.elim
theorem xP(D:Df K mg "copied" mV ["thing"] f fd)(B:Bl mg):∀n:Nat,bh P w K mg base CX0 (n+1) f fd ["thing"] (p6 n)
 |0=>zT D B
 |n+1=>zS D B (xP D B n)
structure MdT(K:af)(mg:Str->Option ae)(CM CS:aa):Prop where
 clM:Cls K CM
 clS:Cls K CS
 nM:eC K CM "machines"
 nB:eC K CS "boxes"
 nQ:eC K CS "queues"
 nD:eC K CS "drawn"
 nS:eC K CS "sent"
 mM:mg "Model"=Z8 (.ref CM)
 mS:mg "State"=Z8 (.ref CS)
inductive KW(CM:aa)(n:Nat)(vs:List V)(H:Hp)(Q:VK)(_e:XK):Prop where
 |mk(m dx:aa)(v:V)(_:vs=[.ref m,v])(_:H m=Z8 (.ins CM dx []))(_:Tree H n v)(_:∀(v':V) (H':Hp),aT H H'->Alike H (Nw H H') n v v'->Q .non (upd H' m (.ins CM dx (cE "machines" v' [])))):KW CM n vs H Q _e
def MY(CM:aa)(n:Nat):Sp:=fun vs H Q Z=>KW CM n vs H Q Z
theorem scMI:bK ["self","machines"] ["self","machines"] (aN oj):={}
theorem KY{n:Nat}(F:Fun K "__init__" "Model.__init__" oj f fd)(Z:Df K mg "copied" mV ["thing"] fC fdC)(B:Bl mg)(T:MdT K mg CM CS):bh P w K mg base CX0 (n+2) f fd ["self","machines"] (MY CM n):=by
 have J:bh P w K mg base CX0 (n+1) fC fdC ["thing"] (p6 n):=xP Z B n;refine F.ok scMI (fun vs H Q E h=>?_) (fun W A outer s H vs Q E O h=>?_)
 ·obtain⟨m,dx,v,rfl,_⟩:=h;rfl
 obtain⟨m,dx,v,rfl,V,ht,q⟩:=h;refine{_,aA (eD (pv 0) (aM J O rfl Z.m Z.F.kp Z.b .nil aY (ak (pv 1) aj)) rfl),?_};refine{_,Z9,v,Z9,ht,fun U H' Y M=>?_};exact{_,Z9,m,CM,dx,[],Z9,Y _ _ V,T.clM,T.nM,(by show 0<1000;decide),q U H' Y M}
def kL(b q d e:V):List (Str×V):=cE "sent" e (cE "drawn" d (cE "queues" q (cE "boxes" b [])))
inductive KZ(CS:aa)(vs:List V)(H:Hp)(Q:VK)(_e:XK):Prop where
 |mk(m dx:aa)(b q d e:V)(_:vs=[.ref m,b,q,d,e])(_:H m=Z8 (.ins CS dx []))(_:∀H':Hp,H' m=Z8 (.ins CS dx (kL b q d e))->But m H H'->Q .non H'):KZ CS vs H Q _e
def MZ(CS:aa):Sp:=fun vs H Q Z=>KZ CS vs H Q Z
theorem scSI:bK ["self","boxes","queues","drawn","sent"] ["self","boxes","queues","drawn","sent"] (aN jv):={}
theorem hJ(f:Str)(v:V)(fs:List (Str×V)):(cE f v fs).length<=fs.length+1:=by
 induction fs with
 |nil=>exact aB _
 |cons p r Z=>
  unfold cE
  split
  ·rw[aU,aU];omega
  ·rw[aU,aU];omega
theorem K0(F:Fun K "__init__" "State.__init__" jv f fd)(T:MdT K mg CM CS):bh P w K mg base CX0 1 f fd ["self","boxes","queues","drawn","sent"] (MZ CS):=by
 refine F.ok scSI (fun vs H Q E h=>?_) (fun Z A outer s H vs Q E O h=>?_)
 ·obtain⟨m,dx,b,q,d,e,rfl,_⟩:=h;rfl
 obtain⟨m,dx,b,q,d,e,rfl,W,k⟩:=h;refine{_,ai (eD (pv 0) (pv 1) rfl) (ai (eD (pv 0) (pv 2) rfl) (ai (eD (pv 0) (pv 3) rfl) (aA (eD (pv 0) (pv 4) rfl)))),?_};have Y:=hJ "boxes" b [];have U:=hJ "queues" q (cE "boxes" b []);have V:=hJ "drawn" d (cE "queues" q (cE "boxes" b []));simp only[cH]at Y;refine{_,Z9,_,Z9,m,CS,dx,[],Z9,W,T.clS,T.nB,(by show 0<1000;decide),_,Z9,_,Z9,m,CS,dx,_,Z9,ag,T.clS,T.nQ,(by omega),_,Z9,_,Z9,m,CS,dx,_,Z9,ag,T.clS,T.nD,(by omega),_,Z9,_,Z9,m,CS,dx,_,Z9,ag,T.clS,T.nS,(by omega),?_};exact k _ ag (((But.upd m H _).trans (But.upd m _ _)).trans ((But.upd m _ _).trans (But.upd m _ _)))
inductive Gs(CM:aa)(vs:List V)(H:Hp)(Q:VK)(_e:XK):Prop where
 |mk(m dx l t b q:aa)(fs:List (Str×V))(n0 x3 x4:V)(_:vs=[.ref m,.int 0])(_:H m=Z8 (.ins CM dx fs))(_:fs.lookup ("machines":Str)=Z8 (V.ref l))(_:H l=Z8 (.lst [.ref t]))(_:H t=Z8 (.tup [n0,.ref b,.ref q,x3,x4]))(_:H b=Z8 (.lst []))(_:H q=Z8 (.lst []))(_:∀(st:aa) (H':Hp),aT H H'->Q (.ref st) H'):Gs CM vs H Q _e
theorem JB:bK ["model","at","machine","queues","name"] ["model","at"] (aN jX):={}
end
section
variable{κ:Type}[DecidableEq κ]
abbrev qN(ps:List (κ×V))(m:List (κ×V)):List (κ×V):=ps.foldl (fun m p=>iW m p.1 p.2) m
end
theorem m9{H H':Hp}{n:Nat}{a:aa}{xs:List V}{y:V}(ha:H a=Z8 (.lst xs))(z:Alike H H' (n+1) (.ref a) y):∃(U:aa) (ys:List V),y=.ref U/\H' U=Z8 (.lst ys)/\aH (Alike H H' n) xs ys:=by
 rcases z with⟨z,_⟩|⟨p,Y,Z,ys,e1,W,h1,h2,r⟩|⟨p,Y,Z,ys,e1,W,h1,h2,r⟩
 ·exact z.elim
 ·cases e1;rw[ha]at h1
  cases h1;exact⟨Y,ys,W,h2,r⟩
 ·cases e1;rw[ha]at h1
  cases h1
theorem tH{H H':Hp}{n:Nat}{a:aa}{xs:List V}{y:V}(ha:H a=Z8 (.tup xs))(z:Alike H H' (n+1) (.ref a) y):∃(U:aa) (ys:List V),y=.ref U/\H' U=Z8 (.tup ys)/\aH (Alike H H' n) xs ys:=by
 rcases z with⟨z,_⟩|⟨p,Y,Z,ys,e1,W,h1,h2,r⟩|⟨p,Y,Z,ys,e1,W,h1,h2,r⟩
 ·exact z.elim
 ·cases e1;rw[ha]at h1
  cases h1
 ·cases e1;rw[ha]at h1
  cases h1;exact⟨Y,ys,W,h2,r⟩
theorem fb{H H':Hp}{n:Nat}{v y:V}(Z:Be v)(z:Alike H H' n v y):y=v:=by
 cases n with
 |zero=>exact z
 |succ n=>
  rcases z with⟨_,z⟩|⟨p,W,Y,ys,e1,U,h1,h2,r⟩|⟨p,W,Y,ys,e1,U,h1,h2,r⟩
  ·exact z
  ·rw[e1]at Z;exact Z.elim
  ·rw[e1]at Z;exact Z.elim
theorem iS{H H':Hp}{n:Nat}{xs ys:List V}(r:aH (Alike H H' n) xs ys):(∀x∈xs,Be x)->ys=xs:=by
 induction r with
 |nil=>exact fun _=>rfl
 |cons a b Z=>
  intro h;rw[fb (h _ ax) a,Z fun x hx=>h x (ah _ hx)]
def gO(H:Hp)(ps:List (Str×Int))(vs:List V):Prop:=uR H (ps.map fun p=>(Sum.inr p.1,V.int p.2)) vs
theorem gO.same{H H':Hp}(s:aT H H'):∀{ps:List (Str×Int)} {vs:List V},gO H ps vs->gO H' ps vs
 | [],_,h=>by
  cases h;exact .nil
 |p::ps,_,h=>by
  cases h with
  |cons a b=>
   obtain⟨t,e,h⟩:=a;exact .cons {t,e,s _ _ h} (gO.same s (ps:=ps) b)
theorem gO.alike{H H':Hp}{n:Nat}:∀{ps:List (Str×Int)} {vs ys:List V},gO H ps vs->aH (Alike H H' (n+1)) vs ys->gO H' ps ys
 | [],_,_,h,r=>by
  cases h
  cases r;exact .nil
 |p::ps,_,_,h,r=>by
  cases h with
  |cons a b=>
   cases r with
   |cons Y Z=>
    obtain⟨t,rfl,h⟩:=a;obtain⟨t',ys,rfl,h',W⟩:=tH h Y;have e:=iS W (fun x hx=>by
     simp only[ar,aI,or_false]at hx
     rcases hx with rfl|rfl
     ·exact trivial
     ·exact trivial)
    rw[e]at h';exact .cons ⟨t',Z9,h'⟩ (gO.alike (ps:=ps) b Z)
theorem gO.length{H:Hp}{ps:List (Str×Int)}{vs:List V}(h:gO H ps vs):ps.length=vs.length:=by
 have z:=aV h;rw[aq]at z;exact z
theorem gO.tree{H:Hp}{n:Nat}:∀{ps:List (Str×Int)} {vs:List V},gO H ps vs->∀x∈vs,Tree H (n+1) x
 | [],_,h,x,hx=>by
  cases h
  cases hx
 |p::ps,_,h,x,hx=>by
  cases h with
  |cons a b=>
   rcases ar.mp hx with rfl|hx
   ·obtain⟨t,rfl,h⟩:=a;refine .inr {t,_,Z9,.inr h,(by show 2<1000;decide),fun y hy=>?_};simp only[ar,aI,or_false]at hy
    rcases hy with rfl|rfl
    ·cases n<;>first|exact trivial|exact .inl trivial
    ·cases n<;>first|exact trivial|exact .inl trivial
   ·exact gO.tree (ps:=ps) b x hx
section
variable{P:aL}{w:bA}{K:af}{mg:Str->Option ae}{base:cu}{f fI CM CS:aa}{fd fdI:bS}
abbrev M0(ps:List (Str×Int)):List (Key×V):=qN (ps.map fun p=>((Sum.inr p.1:Key),V.int p.2)) []
abbrev quT(qs:List Str)(Z:List aa):List (Key×V):=qN ((qs.zip Z).map fun p=>((Sum.inr p.1:Key),V.ref p.2)) []
structure New(H H':Hp)(CS st:aa)(ps:List (Str×Int))(qs:List Str)(dx bd qd:aa)(ls:List aa):Prop where
 hst:H' st=Z8 (.ins CS dx (kL (.ref bd) (.ref qd) (.int 0) (.int 0)))
 hbd:H' bd=Z8 (.dK (M0 ps))
 hqd:H' qd=Z8 (.dK (quT qs ls))
 len:ls.length=qs.length
 nd:ls.Nodup
 li:∀l∈ls,H l=Z7/\H' l=Z8 (.lst [])
 ost:H st=Z7
 obd:H bd=Z7
 oqd:H qd=Z7
 ne:qd≠bd
 same:aT H H'
inductive xQ(CM CS:aa)(vs:List V)(H:Hp)(Q:VK)(_e:XK):Prop where
 |mk(m dx l t b q:aa)(fs:List (Str×V))(n0 x3 x4:V)(i:Nat)(ms vb:List V)(ps:List (Str×Int))(qs:List Str)(_:vs=[.ref m,.int (i:Int)])(_:H m=Z8 (.ins CM dx fs))(_:fs.lookup ("machines":Str)=Z8 (V.ref l))(_:H l=Z8 (.lst ms))(_:ms[i]?=Z8 (.ref t))(_:H t=Z8 (.tup [n0,.ref b,.ref q,x3,x4]))(_:H b=Z8 (.lst vb))(_:gO H ps vb)(_:ps.length<=100)(_:H q=Z8 (.lst (qs.map V.str)))(_:qs.length<=100)(_:∀(st dx bd qd:aa) (ls:List aa) (H':Hp),New H H' CS st ps qs dx bd qd ls->Q (.ref st) H'):xQ CM CS vs H Q _e
def zU(CM CS:aa):Sp:=fun vs H Q Z=>xQ CM CS vs H Q Z
theorem Gu{Z Y:Type}{xs:List Z}{ys:List Y}{i:Nat}{x:Z}{y:Y}(W:ys.length=i)(hx:xs[i]?=Z8 x):(xs.take (i+1)).zip (ys++[y])=(xs.take i).zip ys++[(x,y)]:=by
 have lt:i<xs.length:=(aF.mp hx).1;have e:xs.take (i+1)=xs.take i++[x]:=by rw[d9,hx];rfl
 rw[e,List.zip_append (by rw[cK,W];omega)];rfl
theorem tI(D:Df K mg "first_state" jX ["model","at"] f fd)(MS:Mk K CS fI)(FI:Fun K "__init__" "State.__init__" jv fI fdI)(bI:Binds K fdI ["self","boxes","queues","drawn","sent"] [])(B:Bl mg)(T:MdT K mg CM CS) :
  bh P w K mg base CX0 3 f fd ["model","at"] (zU CM CS):=by
 have GI:bh P w K mg base CX0 1 fI fdI ["self","boxes","queues","drawn","sent"] (MZ CS):=K0 FI T;refine D.F.ok JB (fun vs H Q E h=>?_) (fun cr A outer s H vs Q E hr h=>?_)
 ·obtain⟨m,dx,l,t,b,q,fs,n0,x3,x4,i,ms,vb,ps,qs,rfl,_⟩:=h;rfl
 obtain⟨m,dx,l,t,b,q,fs,n0,x3,x4,i,ms,vb,ps,qs,rfl,hm,di,hl,hi,ht,hb,da,cp,hq,cn,k⟩:=h;have hu:=lQ hr;refine⟨_,ai (bM (i:=2) JB.nd rfl (Or.inl rfl) (bX dQ (cO (pv 0) rfl) (pv 1) (fun _ _=>rfl)))
  (ai (bM (i:=3) JB.nd rfl (Or.inl rfl) pK)
  (ai (iH cF rfl (g9 (bX cD (pv 2) aw (fun _ _=>rfl))) (df (i:=4) JB.nd rfl (Or.inl rfl)) (aA (kK hu (pv 3) (pv 4) (eR aj) rfl)))
  (aA (bJ (jT MS GI hr (by rfl) T.mS bI .nil aY (ak (fg (A3 rfl) (by rfl) B.dict boot_dict (ak (bX cD (pv 2) aw (fun _ _=>rfl)) aj)) (ak (pv 3) (ak aw (ak aw aj))))))))),?_⟩
 refine{_,Z9,m,CM,dx,_,_,Z9,hm,T.clM,T.nM,di,_,Z9,l,_,_,_,Z9,Z9,SqL.of hl,jU hi,?_};intro d hd;have s1:aT H (upd H d (.dK [])):=aD hd _;have big:1000<aC:=by decide
 have a2:atI [n0,V.ref b,V.ref q,x3,x4] 2=Z8 (V.ref q):=rfl;have a1:atI [n0,V.ref b,V.ref q,x3,x4] 1=Z8 (V.ref b):=rfl;refine⟨_,Z9,t,_,_,_,Z9,Z9,SqT.of (s1 _ _ ht),a2,q,Z9,{_,SqL.of (s1 _ _ hq)},iI (K:=K) (a:=q) (xs:=qs.map V.str) (fun j σ G=>∃(v4:Option V) (Z:List aa),σ=[Z8 (.ref m),Z8 (.int (i:Int)),Z8 (.ref t),Z8 (.ref d),v4]/\j<=qs.length/\G d=Z8 (.dK (quT (qs.take j) Z))/\Z.length=j/\Z.Nodup/\(∀z∈Z,H z=Z7/\G z=Z8 (.lst []))/\aT H G)
  {Z7,[],Z9,bO _,ag,Z9,ic,(fun z Y=>by cases Y),s1} ?_ ?_ ?_⟩
 ·rintro j σ G _ ⟨v4,Z,rfl,_,_,_,_,_,sm⟩;exact SqL.of (sm _ _ hq)
 ·rintro j x σ G g ⟨v4,Z,rfl,jl,W,I,nd,li,sm⟩;obtain⟨nm,J,rfl⟩:∃nm,qs[j]?=Z8 nm/\x=V.str nm:=by
   rw[cm]at g
   cases e:qs[j]? with
   |none=>rw[e]at g;cases g
   |some nm=>rw[e]at g;cases g;exact⟨nm,Z9,Z9⟩
  have dc:j<qs.length:=(aF.mp J).1;refine{bO _,fun z Y=>?_};have M:d≠z:=av W Y;have de:upd G z (.lst []) d=Z8 (.dK (quT (qs.take j) Z)):=by rw[aJ M];exact W
  have lt:(quT (qs.take j) Z).length<aC:=by
   have U:=zL ((((qs.take j).zip Z).map fun p=>((Sum.inr p.1:Key),V.ref p.2))) [];rw[aq,p7,cK]at U;simp only[cH]at U;exact jt U (by omega)
  refine{_,Z9,_,Z9,d,_,Z9,rH.k (k:=Sum.inr nm) de lt,?_};have fz:H z=Z7:=sm.free Y;have dg:z∉Z:=fun c=>by
   have U:=(li z c).2;rw[Y]at U
   cases U
  refine{_,Z++[z],Z9,dc,?_,by rw[ay,I];rfl,yp nd dg,fun y hy=>?_,?_}
  ·show upd _ d _ d=_;rw[ag];show Z8 (HO.dK (iW (quT (qs.take j) Z) (Sum.inr nm) (.ref z)))=Z8 (HO.dK (quT (qs.take (j+1)) (Z++[z])));unfold quT;rw[Gu I J,bT];unfold qN;rw[Gv];rfl
  ·rcases cv.mp hy with c|c
   ·obtain⟨c1,O⟩:=li y c;refine{c1,?_};rw[aJ (oK O W (by intro e;cases e)),aJ (av O Y)];exact O
   ·rw[aE.mp c];refine{fz,?_};rw[aJ M.symm];exact ag
  ·intro c o hc;have O:=sm _ _ hc;have cd:c≠d:=av hc hd;rw[aJ cd,aJ (av O Y)];exact O
 ·rintro σ G ⟨v4,Z,rfl,jl,W,I,nd,li,sm⟩;rw[aq]at I W;rw[dS]at W;refine{_,Z9,t,_,_,_,Z9,Z9,SqT.of (sm _ _ ht),a1,b,vb,_,Z9,sm _ _ hb,gO.same sm da,by rw[aq];omega,fun e he=>?_};have s2:aT G (upd G e (.dK (M0 ps))):=aD he _;refine{_,Z9,?_};intro x dj nx db cs;refine{x,dj,_,_,_,_,Z9,ag,fun H' hx bt=>{Z9,k x dj e d Z H' ?_}};have up:∀{c:aa} {o:HO},upd G e (.dK (M0 ps)) c=Z8 o->H' c=Z8 o:=fun {c o} hc=>by
   have cx:c≠x:=av hc nx;refine bt c o ?_ cx;rw[aJ cx,aJ (av hc db)];exact hc
  exact{hx,up ag,up (s2 _ _ W),I,nd,fun z Y=>{(li z Y).1,up (s2 _ _ (li z Y).2)},sm.free (s2.free nx),sm.free he,hd,av W he,fun c o hc=>up (s2 _ _ (sm _ _ hc))}
end
section
variable{κ:Type}[DecidableEq κ]
theorem Bf:∀(ps m:List (κ×V)),((m++ps).map (·.1)).Nodup->qN ps m=m++ps
 | [],m,_=>by simp[qN]
 |p::r,m,h=>by
  have nk:jF m p.1=Z7:=by
   cases e:jF m p.1 with
   |none=>rfl
   |some v=>
    exfalso;rw[bT,bU]at h;exact (gY.mp h).2.2 p.1 (BU e) p.1 ax rfl
  show qN r (iW m p.1 p.2)=_;rw[zx p.2 nk,Bf r (m++[(p.1,p.2)]) (by rw[jK];exact h),jK];rfl
end
theorem gO.tups{H H':Hp}(s:∀t xs,H t=Z8 (.tup xs)->H' t=Z8 (.tup xs)):∀{ps:List (Str×Int)} {vs:List V},gO H ps vs->gO H' ps vs
 | [],_,h=>by
  cases h;exact .nil
 |p::ps,_,h=>by
  cases h with
  |cons a b=>
   obtain⟨t,e,h⟩:=a;exact .cons {t,e,s _ _ h} (gO.tups s (ps:=ps) b)
def B8:List Str:=["plus","less","times","part","rest","below","same"]
inductive Fm where
 |num(n:Int)
 |box(x:Str)
 |long(x:Str)
 |got(j:Bool)
 |now
 |two(k:Str)(f g:Fm)
def Fm.depth:Fm->Nat
 |.two _ f g=>max f.depth g.depth+1
 |_=>1
inductive Rs where
 |ok(r:Int)
 |nought
 |great
def zV(k:Str)(a b:Int):Rs:=
 if k="plus" then .ok (a+b) else if k="less" then .ok (a-b) else if k="times" then .ok (a*b) else if k="below" then .ok (if a<b then 1 else 0)
 else if k="same" then .ok (if a=b then 1 else 0) else if b=0 then .nought else if k="part" then .ok (a.fdiv b) else .ok (a.fmod b)
def rO(r:Int):Int:=if r<0 then -r else r
def cap:Rs->Rs
 |.ok r=>if 10^15<rO r then .great else .ok r
 |.nought=>.nought
 |.great=>.great
structure yC where
 bx:Str->Int
 lg:Str->Nat
 g0:Int
 g1:Int
 nw:Int
def ev(e:yC):Fm->Rs
 |.num n=>.ok n
 |.box x=>.ok (e.bx x)
 |.long x=>.ok (e.lg x)
 |.got j=>.ok (if j then e.g1 else e.g0)
 |.now=>.ok e.nw
 |.two k f g=>match ev e f with
  |.ok a=>(match ev e g with
   |.ok b=>cap (zV k a b)
   |.nought=>.nought
   |.great=>.great)
  |.nought=>.nought
  |.great=>.great
def Wo(a:Int):Prop:=-(10^15)<=a/\a<=10^15
structure yC.Ok(e:yC)(bs qs:List Str):Prop where
 bx:∀x∈bs,Wo (e.bx x)
 lg:∀x∈qs,e.lg x<=1000
 g0:Wo e.g0
 g1:Wo e.g1
 nw:Wo e.nw
inductive jo(bs qs:List Str)(H:Hp):V->Fm->Prop where
 |num{t:aa}{n:Int}:H t=Z8 (.tup [.str "number",.int n])->Wo n->jo bs qs H (.ref t) (.num n)
 |box{t:aa}{x:Str}:H t=Z8 (.tup [.str "box",.str x])->x∈bs->jo bs qs H (.ref t) (.box x)
 |long{t:aa}{x:Str}:H t=Z8 (.tup [.str "long",.str x])->x∈qs->jo bs qs H (.ref t) (.long x)
 |got{t:aa}{j:Bool}:H t=Z8 (.tup [.str "got",.int (if j then 1 else 0)])->jo bs qs H (.ref t) (.got j)
 |now{t:aa}:H t=Z8 (.tup [.str "now"])->jo bs qs H (.ref t) .now
 |two{t:aa}{k:Str}{u v:V}{f g:Fm}:H t=Z8 (.tup [.str k,u,v])->k∈B8->jo bs qs H u f->jo bs qs H v g->jo bs qs H (.ref t) (.two k f g)
theorem jo.mono{bs qs:List Str}{H H':Hp}{v:V}{f:Fm}(h:jo bs qs H v f)(s:∀t xs,H t=Z8 (.tup xs)->H' t=Z8 (.tup xs)):jo bs qs H' v f:=by
 induction h with
 |num h1 h2=>exact .num (s _ _ h1) h2
 |box h1 h2=>exact .box (s _ _ h1) h2
 |long h1 h2=>exact .long (s _ _ h1) h2
 |got h1=>exact .got (s _ _ h1)
 |now h1=>exact .now (s _ _ h1)
 |two h1 h2 _ _ Z Y=>exact .two (s _ _ h1) h2 Z Y
theorem jo.same{bs qs:List Str}{H H':Hp}{v:V}{f:Fm}(h:jo bs qs H v f)(s:aT H H'):jo bs qs H' v f:=h.mono fun _ _ e=>s _ _ e
theorem Gw{r:Int}(h:¬10^15<rO r):Wo r:=by
 unfold rO at h;unfold Wo
 split at h<;>omega
theorem Gz{r:Int}(h:Wo r):¬10^15<rO r:=by
 unfold Wo at h;unfold rO
 split<;>omega
theorem M3{x:Rs}{r:Int}(h:cap x=.ok r):Wo r:=by
 cases x with
 |ok y=>
  unfold cap at h;dsimp only at h
  by_cases c:10^15<rO y
  ·rw[if_pos c]at h
   cases h
  ·rw[if_neg c]at h
   cases h;exact Gw c
 |nought=>cases h
 |great=>cases h
theorem lg_wo{n:Nat}(h:n<=1000):Wo (n:Int):=by
 unfold Wo;omega
theorem uh{bs qs:List Str}{H:Hp}{e:yC}(ok:e.Ok bs qs){v:V}{f:Fm}(h:jo bs qs H v f):∀{r:Int},ev e f=.ok r->Wo r:=by
 induction h with
 |num h1 h2=>
  intro r q;unfold ev at q
  cases q;exact h2
 |box h1 h2=>
  intro r q;unfold ev at q
  cases q;exact ok.bx _ h2
 |long h1 h2=>
  intro r q;unfold ev at q
  cases q;exact lg_wo (ok.lg _ h2)
 |@got t j h1=>
  intro r q;unfold ev at q
  cases q
  cases j
  ·exact ok.g0
  ·exact ok.g1
 |now h1=>
  intro r q;unfold ev at q
  cases q;exact ok.nw
 |@two t k u v f g h1 h2 _ _ Z Y=>
  intro r q;unfold ev at q
  cases e1:ev e f with
  |ok a=>
   rw[e1]at q
   cases e2:ev e g with
   |ok b=>
    rw[e2]at q;exact M3 q
   |nought=>rw[e2]at q;cases q
   |great=>rw[e2]at q;cases q
  |nought=>rw[e1]at q;cases q
  |great=>rw[e1]at q;cases q
def xR(CN CG:aa)(r:Rs)(Q:VK)(E:XK)(H:Hp):Prop:=match r with
 |.ok r=>Q (.int r) H
 |.nought=>E (.ref CN) Z7 H
 |.great=>E (.ref CG) Z7 H
section
variable{P:aL}{w:bA}{K:af}{mg:Str->Option ae}{base:cu}{f fD fT fL CN CG CM CS:aa}{fd fdD fdT fdL:bS}
structure Fts(K:af)(mg:Str->Option ae)(CN CG:aa):Prop where
 mN:mg "Nought"=Z8 (.ref CN)
 mG:mg "Great"=Z8 (.ref CG)
 xN:cX K CN pO "ValueError.__new__"=true
 xG:cX K CG pO "ValueError.__new__"=true
 nn:dh K (.ref CN) (.ref CN)=Z8 true
 gn:dh K (.ref CG) (.ref CN)=Z8 false
 gg:dh K (.ref CG) (.ref CG)=Z8 true
inductive GH(CN:aa)(vs:List V)(H:Hp)(Q:VK)(E:XK):Prop where
 |mk(k:Str)(a b:Int)(_:vs=[.str k,.int a,.int b])(_:Wo b)(_:(b=0->E (.ref CN) Z7 H))(_:(¬b=0->k="part"->Q (.int (a.fdiv b)) H))(_:(¬b=0->¬k="part"->Q (.int (a.fmod b)) H)):GH CN vs H Q E
def K2(CN:aa):Sp:=fun vs H Q E=>GH CN vs H Q E
theorem scDv:bK ["kind","first","second"] ["kind","first","second"] (aN eu):={}
theorem yD{a b:Int}(h:V.int a=V.int b):a=b:=V.int.inj h
theorem tJ{a b:Str}(h:V.str a=V.str b):a=b:=V.str.inj h
theorem M4(D:Df K mg "number_of_division" eu ["kind","first","second"] f fd)(T:Fts K mg CN CG):bh P w K mg base (CXo P w) 1 f fd ["kind","first","second"] (K2 CN):=by
 refine D.F.okX scDv (fun vs H Q E h=>?_) (fun V A outer s H vs Q E U h=>?_)
 ·obtain⟨k,a,b,rfl,_⟩:=h;rfl
 obtain⟨k,a,b,rfl,hb,h1,h2,W⟩:=h;refine⟨_,ai (cN (bP eW (pv 2) aw (bV _)) (aA (j8 dW rfl rfl T.mN T.xN (ak cg aj))) bZ)
  (ai (cN (bP eW (pv 0) cg (bV _)) (aA (bJ (cQ FK (pv 1) (pv 2)))) bZ)
  (aA (bJ (cQ IP (pv 1) (pv 2))))),?_⟩
 refine{_,Z9,Z9,_,Z9,?_};refine gp (fun c=>?_) (fun c=>?_)
 ·exact{(by show 1<=aC;decide),h1 (yD (kg c))}
 ·have Z:¬b=0:=fun z=>kH c (by rw[z]);refine{_,Z9,Z9,_,Z9,?_};refine gp (fun Y=>?_) (fun Y=>?_)
  ·refine{_,Z9,_,Z9,_,_,Z9,Z9,{Z,?_},h2 Z (tJ (kg Y))};unfold Wo at hb;omega
  ·exact{_,Z9,_,Z9,_,_,Z9,Z9,Z,W Z (fun z=>kH Y (by rw[z]))}
inductive GJ(CN CG:aa)(vs:List V)(H:Hp)(Q:VK)(E:XK):Prop where
 |mk(k:Str)(a b:Int)(_:vs=[.str k,.int a,.int b])(_:Wo a)(_:Wo b)(_:xR CN CG (zV k a b) Q E H):GJ CN CG vs H Q E
def K3(CN CG:aa):Sp:=fun vs H Q E=>GJ CN CG vs H Q E
theorem scTw:bK ["kind","first","second"] ["kind","first","second"] (aN gL):={}
theorem M6(D:Df K mg "number_of_two" gL ["kind","first","second"] f fd)(Y:Df K mg "number_of_division" eu ["kind","first","second"] fD fdD)(T:Fts K mg CN CG) :
  bh P w K mg base (CXo P w) 2 f fd ["kind","first","second"] (K3 CN CG):=by
 have O:bh P w K mg base (CXo P w) 1 fD fdD ["kind","first","second"] (K2 CN):=M4 Y T;refine D.F.okX scTw (fun vs H Q E h=>?_) (fun U A outer s H vs Q E M h=>?_)
 ·obtain⟨k,a,b,rfl,_⟩:=h;rfl
 obtain⟨k,a,b,rfl,ha,hb,h⟩:=h;unfold zV at h;refine⟨_,ai (cN (bP eW (pv 0) cg (bV _)) (aA (bJ (cQ gQ (pv 1) (pv 2)))) bZ)
  (ai (cN (bP eW (pv 0) cg (bV _)) (aA (bJ (cQ jN (pv 1) (pv 2)))) bZ)
  (ai (cN (bP eW (pv 0) cg (bV _)) (aA (bJ (cQ qT (pv 1) (pv 2)))) bZ)
  (ai (cN (bP eW (pv 0) cg (bV _)) (aA (bJ (vp (bP qI (pv 1) (pv 2) (bV _)) aw aw))) bZ)
  (ai (cN (bP eW (pv 0) cg (bV _)) (aA (bJ (vp (bP eW (pv 1) (pv 2) (bV _)) aw aw))) bZ)
  (aA (bJ (aM O M rfl Y.m Y.F.kp Y.b .nil (dW.passes fun _ _ _ z=>z) (ak (pv 0) (ak (pv 1) (ak (pv 2) aj)))))))))),?_⟩
 refine{_,Z9,Z9,_,Z9,gp (fun c=>?_) (fun c=>?_)}
 ·rw[if_pos (tJ (kg c))]at h;exact{_,Z9,_,Z9,_,_,Z9,Z9,h}
 rw[if_neg fun z=>kH c (by rw[z])]at h;refine{_,Z9,Z9,_,Z9,gp (fun c=>?_) (fun c=>?_)}
 ·rw[if_pos (tJ (kg c))]at h;exact{_,Z9,_,Z9,_,_,Z9,Z9,h}
 rw[if_neg fun z=>kH c (by rw[z])]at h;refine{_,Z9,Z9,_,Z9,gp (fun c=>?_) (fun c=>?_)}
 ·rw[if_pos (tJ (kg c))]at h;refine{_,Z9,_,Z9,_,_,Z9,Z9,.inl {?_,?_},h}
  ·unfold Wo at ha;omega
  ·unfold Wo at ha;omega
 rw[if_neg fun z=>kH c (by rw[z])]at h;refine{_,Z9,Z9,_,Z9,gp (fun c=>?_) (fun c=>?_)}
 ·rw[if_pos (tJ (kg c))]at h;refine{_,Z9,_,Z9,_,_,Z9,Z9,_,Z9,gp (fun Z=>?_) (fun Z=>?_)}
  ·rw[if_pos (kg Z)]at h;exact h
  ·rw[if_neg (kH Z)]at h;exact h
 rw[if_neg fun z=>kH c (by rw[z])]at h;refine{_,Z9,Z9,_,Z9,gp (fun c=>?_) (fun c=>?_)}
 ·rw[if_pos (tJ (kg c))]at h;refine{_,Z9,_,Z9,Z9,_,Z9,gp (fun Z=>?_) (fun Z=>?_)}
  ·rw[if_pos (yD (kg Z))]at h;exact h
  ·rw[if_neg fun z=>kH Z (by rw[z])]at h;exact h
 rw[if_neg fun z=>kH c (by rw[z])]at h;refine{_,Z9,_,Z9,_,Z9,k,a,b,Z9,hb,fun z=>?_,fun W V=>?_,fun W V=>?_}
 ·rw[if_pos z]at h;exact h
 ·rw[if_neg W,if_pos V]at h;exact h
 ·rw[if_neg W,if_neg V]at h;exact h
structure Holds(K:af)(CS:aa)(bs qs:List Str)(H:Hp)(st gl:aa)(e:yC):Prop where
 ex:∃(dx bd qd:aa) (fs:List (Str×V)) (bk qk:List (Key×V)),H st=Z8 (.ins CS dx fs)/\fs.lookup ("boxes":Str)=Z8 (.ref bd)/\fs.lookup ("queues":Str)=Z8 (.ref qd)/\H bd=Z8 (.dK bk)/\H qd=Z8 (.dK qk) /\
  (∀x∈bs,jF bk (Sum.inr x)=Z8 (.int (e.bx x)))/\(∀x∈qs,∃l xs,jF qk (Sum.inr x)=Z8 (.ref l)/\H l=Z8 (.lst xs)/\xs.length=e.lg x)
 hgl:H gl=Z8 (.lst [.int e.g0,.int e.g1])
inductive B9(K:af)(CS:aa)(bs qs:List Str)(vs:List V)(H:Hp)(Q:VK)(_e:XK):Prop where
 |mk(v:V)(F:Fm)(st gl:aa)(e:yC)(_:vs=[v,.ref st,.int e.nw,.ref gl])(_:jo bs qs H v F)(_:F.depth<=1)(_:Holds K CS bs qs H st gl e)(_:∀r,ev e F=.ok r->Q (.int r) H):B9 K CS bs qs vs H Q _e
def GK(K:af)(CS:aa)(bs qs:List Str):Sp:=fun vs H Q Z=>B9 K CS bs qs vs H Q Z
theorem scLf:bK ["formula","state","now","got","kind"] ["formula","state","now","got"] (aN gx):={}
theorem GV:¬(("box":Str)="number")/\¬(("long":Str)="number")/\¬(("long":Str)="box")/\¬(("got":Str)="number")/\¬(("got":Str)="box")/\¬(("got":Str)="long")/\¬(("now":Str)="number")/\¬(("now":Str)="box")/\¬(("now":Str)="long")/\¬(("now":Str)="got"):=by decide +kernel
theorem uB{a b:Str}(h:¬a=b):decide (V.str a=V.str b)=false:=decide_eq_false fun z=>h (V.str.inj z)
theorem Ek(a:Str):decide (V.str a=V.str a)=true:=decide_eq_true rfl
theorem ng{c:Bool}{b:Bool}{p q:Prop}(h:c=b)(t:if b=true then p else q):if c=true then p else q:=by
 rw[h];exact t
theorem JC{bs qs:List Str}(D:Df K mg "number_of_leaf" gx ["formula","state","now","got"] f fd)(T:MdT K mg CM CS)(B:Bl mg):bh P w K mg base CX0 1 f fd ["formula","state","now","got"] (GK K CS bs qs):=by
 refine D.F.ok scLf (fun vs H Q E h=>?_) (fun bI A outer s H vs Q E M h=>?_)
 ·obtain⟨v,F,st,Y,e,rfl,_⟩:=h;rfl
 obtain⟨v,F,st,Y,e,rfl,hF,hd,⟨⟨dx,bd,qd,fs,bk,qk,h1,h2,U,h4,h5,h6,J⟩,V⟩,q⟩:=h;have W:=lQ M;refine⟨_,ai (bM (i:=4) scLf.nd rfl (Or.inl rfl) (bX cD (pv 0) aw (fun _ _=>rfl)))
  (ai (cN (bP eW (pv 4) cg (bV _)) (aA (bJ (bX cD (pv 0) aw (fun _ _=>rfl)))) bZ)
  (ai (cN (bP eW (pv 4) cg (bV _)) (aA (bJ (qy W (cO (pv 1) rfl) (bX cD (pv 0) aw (fun _ _=>rfl)) (fun _ _=>rfl)))) bZ)
  (ai (cN (bP eW (pv 4) cg (bV _)) (aA (bJ (cT ij (by rfl) B.len cy (ak (qy W (cO (pv 1) rfl) (bX cD (pv 0) aw (fun _ _=>rfl)) (fun _ _=>rfl)) aj)))) bZ)
  (ai (cN (bP eW (pv 4) cg (bV _)) (aA (bJ (bX dQ (pv 3) (bX cD (pv 0) aw (fun _ _=>rfl)) (fun _ _=>rfl)))) bZ)
  (aA (bJ (pv 2))))))),?_⟩
 obtain⟨k1,k2,k3,k4,k5,O,k7,g,k9,Z⟩:=GV
 cases hF with
 |@num t n ht hn=>
  refine{_,Z9,t,_,_,_,Z9,Z9,SqT.of ht,Z9,_,Z9,Z9,_,Z9,ng (Ek _) (ja ?_)};exact{_,Z9,t,_,_,_,Z9,Z9,SqT.of ht,Z9,q _ rfl}
 |@box t x ht hx=>
  refine{_,Z9,t,_,_,_,Z9,Z9,SqT.of ht,Z9,_,Z9,Z9,_,Z9,ng (uB k1) (gf ?_)};refine{_,Z9,Z9,_,Z9,ng (Ek _) (ja ?_)};exact{_,Z9,st,CS,dx,_,_,Z9,h1,T.clS,T.nB,h2,_,Z9,t,_,_,_,Z9,Z9,SqT.of ht,Z9,bd,_,Z9,(by have z:=oW.k (k:=Sum.inr x) h4;rw[h6 x hx]at z;exact z),q _ rfl}
 |@long t x ht hx=>
  obtain⟨l,xs,I,g2,g3⟩:=J x hx;refine{_,Z9,t,_,_,_,Z9,Z9,SqT.of ht,Z9,_,Z9,Z9,_,Z9,ng (uB k2) (gf ?_)};refine{_,Z9,Z9,_,Z9,ng (uB k3) (gf ?_)};refine{_,Z9,Z9,_,Z9,ng (Ek _) (ja ?_)};exact{_,Z9,st,CS,dx,_,_,Z9,h1,T.clS,T.nQ,U,_,Z9,t,_,_,_,Z9,Z9,SqT.of ht,Z9,qd,_,Z9,(by have z:=oW.k (k:=Sum.inr x) h5;rw[I]at z;exact z),l,xs,Z9,.inl (SqL.of g2),q _ (by rw[g3];rfl)}
 |@got t j ht=>
  refine{_,Z9,t,_,_,_,Z9,Z9,SqT.of ht,Z9,_,Z9,Z9,_,Z9,ng (uB k4) (gf ?_)};refine{_,Z9,Z9,_,Z9,ng (uB k5) (gf ?_)};refine{_,Z9,Z9,_,Z9,ng (uB O) (gf ?_)};refine{_,Z9,Z9,_,Z9,ng (Ek _) (ja ?_)}
  cases j
  ·exact{_,Z9,_,Z9,t,_,_,_,Z9,Z9,SqT.of ht,Z9,Y,_,_,_,Z9,Z9,SqL.of V,Z9,q _ rfl}
  ·exact{_,Z9,_,Z9,t,_,_,_,Z9,Z9,SqT.of ht,Z9,Y,_,_,_,Z9,Z9,SqL.of V,Z9,q _ rfl}
 |@now t ht=>
  refine{_,Z9,t,_,_,_,Z9,Z9,SqT.of ht,Z9,_,Z9,Z9,_,Z9,ng (uB k7) (gf ?_)};refine{_,Z9,Z9,_,Z9,ng (uB g) (gf ?_)};refine{_,Z9,Z9,_,Z9,ng (uB k9) (gf ?_)};refine{_,Z9,Z9,_,Z9,ng (uB Z) (gf ?_)};exact{_,Z9,q _ rfl}
 |@two t k u v f1 f2 ht hk h1 h2=>
  have z1:0<f1.depth:=by cases f1<;>exact p8 _
  unfold Fm.depth at hd;omega
inductive K4(K:af)(CS CN CG:aa)(bs qs:List Str)(n:Nat)(vs:List V)(H:Hp)(Q:VK)(E:XK):Prop where
 |mk(v:V)(F:Fm)(st gl:aa)(e:yC)(_:vs=[v,.ref st,.int e.nw,.ref gl])(_:jo bs qs H v F)(_:F.depth<=n)(_:Holds K CS bs qs H st gl e)(_:e.Ok bs qs)(_:xR CN CG (ev e F) Q E H):K4 K CS CN CG bs qs n vs H Q E
def GX(K:af)(CS CN CG:aa)(bs qs:List Str)(n:Nat):Sp:=fun vs H Q E=>K4 K CS CN CG bs qs n vs H Q E
theorem GY:bK ["formula","state","now","got","first","second","number"] ["formula","state","now","got"] (aN kZ):={}
theorem JD{bs qs:List Str}{H:Hp}{v:V}{F:Fm}(h:jo bs qs H v F):(∃t xs,v=.ref t/\H t=Z8 (.tup xs)/\¬(xs.length:Int)=3/\F.depth<=1/\∀e:yC,∃r,ev e F=.ok r) \/
  ∃t k u w f g,v=.ref t/\F=.two k f g/\H t=Z8 (.tup [.str k,u,w])/\k∈B8/\jo bs qs H u f/\jo bs qs H w g:=by
 cases h with
 |num h1 h2=>exact .inl {_,_,Z9,h1,by show ¬((2:Nat):Int)=3;decide,aB _,fun e=>{_,Z9}}
 |box h1 h2=>exact .inl {_,_,Z9,h1,by show ¬((2:Nat):Int)=3;decide,aB _,fun e=>{_,Z9}}
 |long h1 h2=>exact .inl {_,_,Z9,h1,by show ¬((2:Nat):Int)=3;decide,aB _,fun e=>{_,Z9}}
 |got h1=>exact .inl {_,_,Z9,h1,by show ¬((2:Nat):Int)=3;decide,aB _,fun e=>{_,Z9}}
 |now h1=>exact .inl {_,_,Z9,h1,by show ¬((1:Nat):Int)=3;decide,aB _,fun e=>{_,Z9}}
 |two h1 h2 Z Y=>exact .inr {_,_,_,_,_,_,Z9,Z9,h1,h2,Z,Y}
theorem JE{bs qs:List Str}{n:Nat}(D:Df K mg "worth_of" kZ ["formula","state","now","got"] f fd)(DT:Df K mg "number_of_two" gL ["kind","first","second"] fT fdT)(DD:Df K mg "number_of_division" eu ["kind","first","second"] fD fdD)
  (O:Df K mg "number_of_leaf" gx ["formula","state","now","got"] fL fdL) (T:Fts K mg CN CG) (TM:MdT K mg CM CS) (B:Bl mg) (G:bh P w K mg base (CXo P w) (n+2) f fd ["formula","state","now","got"] (GX K CS CN CG bs qs n)) :
  bh P w K mg base (CXo P w) (n+3) f fd ["formula","state","now","got"] (GX K CS CN CG bs qs (n+1)):=by
 have GT:bh P w K mg base (CXo P w) 2 fT fdT ["kind","first","second"] (K3 CN CG):=M6 DT DD T;have GL:bh P w K mg base CX0 1 fL fdL ["formula","state","now","got"] (GK K CS bs qs):=JC O TM B;refine D.F.okX GY (fun vs H Q E h=>?_) (fun bB A outer s H vs Q E V h=>?_)
 ·obtain⟨v,F,st,U,e,rfl,_⟩:=h;rfl
 obtain⟨v,F,st,U,e,rfl,J,hd,I,Z,h⟩:=h;have r2:cZ 2 _:=V.mono (by omega);have r1:cZ 1 _:=V.mono (by omega);refine⟨_,ai (cN (bP eW (cT ij (by rfl) B.len cy (ak (pv 0) aj)) aw (bV _))
   (ai (bM (i:=4) GY.nd rfl (Or.inl rfl) (aM G V rfl D.m D.F.kp D.b .nil (dW.passes fun _ _ _ z=>z) (ak (bX cD (pv 0) aw (fun _ _=>rfl)) (ak (pv 1) (ak (pv 2) (ak (pv 3) aj))))))
   (ai (bM (i:=5) GY.nd rfl (Or.inl rfl) (aM G V rfl D.m D.F.kp D.b .nil (dW.passes fun _ _ _ z=>z) (ak (bX cD (pv 0) aw (fun _ _=>rfl)) (ak (pv 1) (ak (pv 2) (ak (pv 3) aj))))))
   (aA (bM (i:=6) GY.nd rfl (Or.inl rfl) (aM GT r2 rfl DT.m DT.F.kp DT.b .nil (dW.passes fun _ _ _ z=>z) (ak (bX cD (pv 0) aw (fun _ _=>rfl)) (ak (pv 4) (ak (pv 5) aj))))))))
   (aA (bM (i:=6) GY.nd rfl (Or.inl rfl) (aM GL r1 rfl O.m O.F.kp O.b .nil aY (ak (pv 0) (ak (pv 1) (ak (pv 2) (ak (pv 3) aj))))))))
  (ai (cN (bP vx (cT Fj (by rfl) B.abs boot_abs (ak (pv 6) aj)) (cQ sQ aw aw) (bV _)) (aA (j8 dW rfl rfl T.mG T.xG (ak cg aj))) bZ)
  (aA (bJ (pv 6)))),?_⟩
 have Y:Dz 10 15:={by decide,by decide,by decide};have l1:1<=aC:=by decide
 rcases JD J with⟨t,xs,rfl,ht,hx,M,hv⟩|⟨t,k,u,v',f1,g,rfl,rfl,ht,hk,h1,h2⟩
 ·obtain⟨r,bF⟩:=hv e;refine{_,Z9,t,_,Z9,.inr (SqT.of ht),Z9,_,Z9,gp (fun c=>absurd (yD (kg c)) hx) (fun c=>?_)};refine{_,Z9,_,Z9,_,Z9,_,Z9,.ref t,F,st,U,e,Z9,J,M,I,fun r' W=>?_};refine{_,Z9,_,Z9,_,_,Z9,Z9,Y,_,_,Z9,Z9,_,Z9,gp (fun c=>?_) (fun c=>?_)}
  ·exact absurd (kg c) (Gz (uh Z J W))
  ·rw[W]at h;exact{_,Z9,h}
 ·have d1:f1.depth<=n:=by
   unfold Fm.depth at hd;omega
  have d2:g.depth<=n:=by
   unfold Fm.depth at hd;omega
  refine{_,Z9,t,_,Z9,.inr (SqT.of ht),Z9,_,Z9,gp (fun c=>?_) (fun c=>absurd rfl (kH c))};refine{_,Z9,t,_,_,_,Z9,Z9,SqT.of ht,Z9,_,Z9,_,Z9,_,Z9,u,f1,st,U,e,Z9,h1,d1,I,Z,?_};unfold ev at h
  cases e1:ev e f1 with
  |nought=>rw[e1]at h;exact h
  |great=>rw[e1]at h;exact h
  |ok a=>
   rw[e1]at h;refine{_,Z9,t,_,_,_,Z9,Z9,SqT.of ht,Z9,_,Z9,_,Z9,_,Z9,v',g,st,U,e,Z9,h2,d2,I,Z,?_}
   cases e2:ev e g with
   |nought=>rw[e2]at h;exact h
   |great=>rw[e2]at h;exact h
   |ok b=>
    rw[e2]at h;have h:xR CN CG (cap (zV k a b)) Q E H:=h;refine{_,Z9,t,_,_,_,Z9,Z9,SqT.of ht,Z9,_,Z9,_,Z9,k,a,b,Z9,uh Z h1 e1,uh Z h2 e2,?_}
    cases e3:zV k a b with
    |nought=>rw[e3]at h;exact h
    |great=>rw[e3]at h;exact h
    |ok r=>
     rw[e3]at h;have h':xR CN CG (if 10^15<rO r then .great else .ok r) Q E H:=h;refine{_,Z9,_,Z9,_,_,Z9,Z9,Y,_,_,Z9,Z9,_,Z9,gp (fun c=>?_) (fun c=>?_)}
     ·rw[if_pos (show 10^15<rO r from kg c)]at h';exact⟨l1,h'⟩
     ·rw[if_neg (show ¬10^15<rO r from kH c)]at h';exact{_,Z9,h'}
theorem El(F:Fm):0<F.depth:=by cases F<;>exact p8 _
theorem K6{bs qs:List Str}(D:Df K mg "worth_of" kZ ["formula","state","now","got"] f fd)(DT:Df K mg "number_of_two" gL ["kind","first","second"] fT fdT)(W:Df K mg "number_of_division" eu ["kind","first","second"] fD fdD)
  (Y:Df K mg "number_of_leaf" gx ["formula","state","now","got"] fL fdL) (T:Fts K mg CN CG) (Z:MdT K mg CM CS) (B:Bl mg):∀n:Nat,bh P w K mg base (CXo P w) (n+2) f fd ["formula","state","now","got"] (GX K CS CN CG bs qs n)
 |0=>by
  have V:∀vs H Q E,¬GX K CS CN CG bs qs 0 vs H Q E:=fun vs H Q E h=>by
   obtain⟨v,F,st,O,e,_,_,U,_⟩:=h;have:=El F;omega
  exact{fun vs H Q E h=>absurd h (V vs H Q E),fun A outer s H args us vs Q E _ _ _ _ h=>absurd h (V vs H Q E)}
 |n+1=>JE D DT W Y T Z B (K6 D DT W Y T Z B n)
end
mutual
inductive Dd where
 |put(x:Str)(f:Fm)
 |push(q:Str)(f:Fm)
 |pull(q x:Str)(o:Ds)
 |draw(x:Str)(f:Fm)
 |send(to:Int)(sg:Str)(sp:Fm)(rk:Int)(a b:Fm)
 |ife(f:Fm)(t e:Ds)
 |fin
inductive Ds where
 |nil
 |cons(d:Dd)(r:Ds)
end
inductive Flt where
 |nought
 |great
 |full
 |dry
 |span
 |late
structure Ev where
 t:Int
 r:Int
 fr:Int
 c:Int
 to:Int
 sg:Str
 a:Int
 b:Int
structure Wk where
 bx:List (Str×Int)
 qu:List (Str×List Int)
 dr:Nat
 se:Int
 wr:List Str
 out:List Ev
 en:Bool
 rk:List Fm
 qn:List Str
def Wk.len(w:Wk):Nat:=w.out.length+w.rk.length
def vR(ps:List (Str×Int))(x:Str):Int:=(ps.lookup x).getD 0
def jG(ps:List (Str×List Int))(x:Str):List Int:=(ps.lookup x).getD []
def oB{Z:Type}(ps:List (Str×Z))(x:Str)(n:Z):List (Str×Z):=ps.map fun p=>if p.1=x then (p.1,n) else p
def mE(xs:List Str)(x:Str):List Str:=if x∈xs then xs else xs++[x]
def zW(h:Ev)(w:Wk):yC:={vR w.bx,fun q=>(jG w.qu q).length,h.a,h.b,h.t}
def rck(h:Ev)(w:Wk)(f:Fm)(k:Wk->Int->Except Flt Wk):Except Flt Wk:=match ev (zW h w) f with
 |.ok n=>k {w with rk:=w.rk++[f]} n
 |.nought=>.error .nought
 |.great=>.error .great
def GZ(w:Wk)(x:Str)(n:Int):Wk:={w with bx:=oB w.bx x n,wr:=mE w.wr x}
def sendW(h:Ev)(w:Wk)(to:Int)(Z:Str)(rk t a b:Int):Wk:={w with se:=w.se+1,out:=w.out++[⟨t,rk,h.to,w.se,to,Z,a,b⟩]}
mutual
def doD(h:Ev)(ds:List Int):Dd->Wk->Except Flt Wk
 |.put x f,w=>rck h w f fun w n=>.ok (GZ w x n)
 |.push q f,w=>rck h w f fun w n=>if 30<=(jG w.qu q).length then .error .full else .ok {w with qu:=oB w.qu q (jG w.qu q++[n]),wr:=mE w.wr q,qn:=mE w.qn q}
 |.pull q x o,w=>match jG w.qu q with
  | []=>doS h ds o {w with qn:=mE w.qn q}
  |n::ns=>.ok {w with qu:=oB w.qu q ns,bx:=oB w.bx x n,wr:=mE (mE w.wr x) q,qn:=mE w.qn q}
 |.draw x f,w=>rck h w f fun w n=>if n<1 then .error .nought else if ds=[] then .error .dry else .ok (GZ {w with dr:=w.dr+1} x (ds.getD (w.dr%ds.length) 0%n))
 |.send to Z sp rk a b,w=>rck h w sp fun w n=>if n<1\/10^6<n then .error .span else rck h w a fun w x=>rck h w b fun w y=>if 10^12<h.t+n then .error .late else .ok (sendW h w to Z rk (h.t+n) x y)
 |.ife f t e,w=>rck h w f fun w n=>if n=0 then doS h ds e w else doS h ds t w
 |.fin,w=>.ok {w with en:=true}
def doS(h:Ev)(ds:List Int):Ds->Wk->Except Flt Wk
 |.nil,w=>.ok w
 |.cons d r,w=>match doD h ds d w with
  |.ok Z=>doS h ds r Z
  |.error e=>.error e
end
mutual
def Dd.deep:Dd->Nat
 |.pull _ _ o=>o.deep+1
 |.ife _ t e=>max t.deep e.deep+1
 |_=>0
def Ds.deep:Ds->Nat
 |.nil=>0
 |.cons d r=>max d.deep r.deep
end
def lX(H:Hp)(R:List V->Prop)(v:V):Prop:=∃l vs,v=.ref l/\H l=Z8 (.lst vs)/\vs.length<1000/\R vs
def FmI(bs qs:List Str)(H:Hp)(v:V)(f:Fm):Prop:=jo bs qs H v f/\f.depth<=15
mutual
def eG(bs qs:List Str)(H:Hp):Dd->V->Prop
 |.put x f,v=>∃t u,v=.ref t/\H t=Z8 (.tup [.str "put",.str x,u])/\x∈bs/\FmI bs qs H u f
 |.push q f,v=>∃t u,v=.ref t/\H t=Z8 (.tup [.str "push",.str q,u])/\q∈qs/\FmI bs qs H u f
 |.pull q x o,v=>∃t u,v=.ref t/\H t=Z8 (.tup [.str "pull",.str q,.str x,u])/\q∈qs/\x∈bs/\lX H (fc bs qs H o) u
 |.draw x f,v=>∃t u,v=.ref t/\H t=Z8 (.tup [.str "draw",.str x,u])/\x∈bs/\FmI bs qs H u f
 |.send to Z sp rk a b,v=>∃t u u1 u2,v=.ref t/\H t=Z8 (.tup [.str "send",.int to,.str Z,u,.int rk,u1,u2])/\FmI bs qs H u sp/\FmI bs qs H u1 a/\FmI bs qs H u2 b
 |.ife f x y,v=>∃t u u1 u2,v=.ref t/\H t=Z8 (.tup [.str "if",u,u1,u2])/\FmI bs qs H u f/\lX H (fc bs qs H x) u1/\lX H (fc bs qs H y) u2
 |.fin,v=>∃t,v=.ref t/\H t=Z8 (.tup [.str "end"])
def fc(bs qs:List Str)(H:Hp):Ds->List V->Prop
 |.nil,vs=>vs=[]
 |.cons d r,vs=>∃v Z,vs=v::Z/\eG bs qs H d v/\fc bs qs H r Z
end
theorem lX.same{H H':Hp}(s:aT H H'){R Z:List V->Prop}(f:∀vs,R vs->Z vs){v:V}(h:lX H R v):lX H' Z v:=by
 obtain⟨l,vs,e,h1,h2,Y⟩:=h;exact{l,vs,e,s _ _ h1,h2,f vs Y}
theorem FmI.same{bs qs:List Str}{H H':Hp}(s:aT H H'){v:V}{f:Fm}(h:FmI bs qs H v f):FmI bs qs H' v f:={h.1.same s,h.2}
mutual
theorem eG.same{bs qs:List Str}{H H':Hp}(s:aT H H'):∀(d:Dd) (v:V),eG bs qs H d v->eG bs qs H' d v
 |.put x f,v,h=>by
  obtain⟨t,u,e,h1,h2,Z⟩:=(by simpa only[eG] using h);simp only[eG];exact{t,u,e,s _ _ h1,h2,Z.same s}
 |.push q f,v,h=>by
  obtain⟨t,u,e,h1,h2,Z⟩:=(by simpa only[eG] using h);simp only[eG];exact{t,u,e,s _ _ h1,h2,Z.same s}
 |.pull q x o,v,h=>by
  obtain⟨t,u,e,h1,h2,Z,Y⟩:=(by simpa only[eG] using h);simp only[eG];exact{t,u,e,s _ _ h1,h2,Z,Y.same s (fc.same s o)}
 |.draw x f,v,h=>by
  obtain⟨t,u,e,h1,h2,Z⟩:=(by simpa only[eG] using h);simp only[eG];exact{t,u,e,s _ _ h1,h2,Z.same s}
 |.send to W sp rk a b,v,h=>by
  obtain⟨t,u,u1,u2,e,h1,h2,Z,Y⟩:=(by simpa only[eG] using h);simp only[eG];exact{t,u,u1,u2,e,s _ _ h1,h2.same s,Z.same s,Y.same s}
 |.ife f x y,v,h=>by
  obtain⟨t,u,u1,u2,e,h1,h2,Z,Y⟩:=(by simpa only[eG] using h);simp only[eG];exact{t,u,u1,u2,e,s _ _ h1,h2.same s,Z.same s (fc.same s x),Y.same s (fc.same s y)}
 |.fin,v,h=>by
  obtain⟨t,e,h1⟩:=(by simpa only[eG] using h);simp only[eG];exact{t,e,s _ _ h1}
theorem fc.same{bs qs:List Str}{H H':Hp}(s:aT H H'):∀(d:Ds) (vs:List V),fc bs qs H d vs->fc bs qs H' d vs
 |.nil,vs,h=>by
  simpa only[fc] using h
 |.cons d r,vs,h=>by
  obtain⟨v,Z,e,h1,h2⟩:=(by simpa only[fc] using h);simp only[fc];exact{v,Z,e,eG.same s d v h1,fc.same s r Z h2}
end
def ip(H:Hp)(v:V)(e:Ev):Prop:=∃t k,v=.ref t/\H t=Z8 (.tup [.ref k,.int e.to,.str e.sg,.int e.a,.int e.b])/\H k=Z8 (.tup [.int e.t,.int e.r,.int e.fr,.int e.c])
theorem ip.same{H H':Hp}(s:aT H H'){v:V}{e:Ev}(h:ip H v e):ip H' v e:=by
 obtain⟨t,k,e1,h1,h2⟩:=h;exact{t,k,e1,s _ _ h1,s _ _ h2}
def boK(ps:List (Str×Int)):List (Key×V):=ps.map fun p=>((Sum.inr p.1:Key),V.int p.2)
def quK(ps:List (Str×aa)):List (Key×V):=ps.map fun p=>((Sum.inr p.1:Key),V.ref p.2)
def wrK(xs:List Str):List (Key×V):=xs.map fun x=>((Sum.inr x:Key),V.bl true)
theorem rP{Z:Type}(g:Z->V)(x:Str):∀ps:List (Str×Z),jF (ps.map fun p=>((Sum.inr p.1:Key),g p.2)) (Sum.inr x)=(ps.lookup x).map g
 | []=>rfl
 |p::ps=>by
  rw[bU]
  by_cases c:p.1=x
  ·rw[pH (by rw[c])];obtain⟨a,b⟩:=p;dsimp only at c;subst c;rw[bQ];rfl
  ·rw[pI (fun z=>c (lN z)),rP g x ps];obtain⟨a,b⟩:=p;dsimp only at c;rw[cA];have:(x==a)=false:=beq_eq_false_iff_ne.mpr fun z=>c z.symm;rw[this]
theorem JF{Z:Type}(g:Z->V)(x:Str)(n:Z){ps:List (Str×Z)}(h:(ps.lookup x).isSome=true):iW (ps.map fun p=>((Sum.inr p.1:Key),g p.2)) (Sum.inr x) (g n)=(oB ps x n).map fun p=>((Sum.inr p.1:Key),g p.2):=by
 unfold iW;rw[j7,rP,mj,h,if_pos rfl];unfold oB;rw[dC,dC];apply gv;intro p _
 by_cases c:p.1=x
 ·simp only[qG,c,if_true]
 ·simp only[qG,if_neg c,if_neg (fun z=>c (lN z):¬(Sum.inr p.1:Key)=Sum.inr x)]
theorem Ca(xs:List Str)(x:Str):jF (wrK xs) (Sum.inr x)=if x∈xs then Z8 (.bl true) else Z7:=by
 induction xs with
 |nil=>rfl
 |cons y xs Z=>
  unfold wrK at Z |-;rw[bU]
  by_cases c:y=x
  ·rw[pH (by rw[c]),if_pos (by rw[c];exact ax)]
  ·rw[pI (fun z=>c (lN z)),Z]
   by_cases m:x∈xs
   ·rw[if_pos m,if_pos (ah _ m)]
   ·rw[if_neg m,if_neg];intro z
    rcases ar.mp z with z|z
    ·exact c z.symm
    ·exact m z
theorem Cb(xs:List Str)(x:Str):iW (wrK xs) (Sum.inr x) (.bl true)=wrK (mE xs x):=by
 unfold iW;rw[j7,Ca]
 by_cases m:x∈xs
 ·rw[if_pos m];unfold mE;rw[if_pos m];show (if true=true then _ else _)=_;rw[if_pos rfl];unfold wrK;rw[dC];apply gv;intro y _
  by_cases c:y=x
  ·simp only[qG,c,if_true]
  ·simp only[qG,if_neg (fun z=>c (lN z):¬(Sum.inr y:Key)=Sum.inr x)]
 ·rw[if_neg m];unfold mE;rw[if_neg m];show (if false=true then _ else _)=_;rw[if_neg (by decide)];unfold wrK;rw[bT];rfl
theorem xT{Z:Type}(ps:List (Str×Z))(x:Str)(n:Z):(oB ps x n).map (·.1)=ps.map (·.1):=by
 unfold oB;rw[dC];apply gv;intro p _;show (if p.1=x then (p.1,n) else p).1=p.1
 split<;>rfl
theorem nj{Z:Type}{x:Str}:∀{ps:List (Str×Z)},x∈ps.map (·.1)->∃a,ps.lookup x=Z8 a/\(x,a)∈ps
 | [],h=>by cases h
 |p::ps,h=>by
  obtain⟨k,a⟩:=p
  by_cases c:x=k
  ·subst c;exact⟨a,bQ,ax⟩
  ·have h':x∈ps.map (·.1):=by
    rcases ar.mp h with z|z
    ·exact absurd z c
    ·exact z
   obtain⟨b,h1,h2⟩:=nj h';refine{b,?_,ah _ h2};rw[cA,beq_eq_false_iff_ne.mpr c];exact h1
theorem zX{Z:Type}{x:Str}{n:Z}{ps:List (Str×Z)}{q:Str×Z}(h:q∈oB ps x n):q∈ps\/q.2=n:=by
 obtain⟨p,hp,e⟩:=cq.mp h
 by_cases c:p.1=x
 ·rw[if_pos c]at e;subst e;exact .inr rfl
 ·rw[if_neg c]at e;subst e;exact .inl hp
structure DT(K:af)(mg:Str->Option ae)(CD:aa):Prop where
 cl:Cls K CD
 nM:eC K CD "machine"
 nH:eC K CD "happening"
 nS:eC K CD "state"
 nW:eC K CD "written"
 nO:eC K CD "outgoing"
 nE:eC K CD "ends"
 nR:eC K CD "reckoned"
 nQ:eC K CD "queued"
 mD:mg "Doing"=Z8 (.ref CD)
def dF(m h:V)(st W od:aa)(en:Bool)(Z Y:aa):List (Str×V):=[("machine",m),("happening",h),("state",.ref st),("written",.ref W),("outgoing",.ref od),("ends",.bl en),("reckoned",.ref Z),("queued",.ref Y)]
abbrev Bg:List Str:=["machine","happening","state","written","outgoing","ends","reckoned","queued"]
theorem M9(m h:V)(st W od:aa)(en:Bool)(Z Y:aa):(dF m h st W od en Z Y).lookup ("machine":Str)=Z8 m:=bQ
theorem dM{k x:Str}{v:V}{r:List (Str×V)}(h:(x==k)=false):((k,v)::r).lookup x=r.lookup x:=by rw[cA,h]
theorem JG(m h:V)(st W od:aa)(en:Bool)(Z Y:aa):(dF m h st W od en Z Y).lookup ("happening":Str)=Z8 h:=by
 unfold dF;rw[dM (by decide +kernel),bQ]
theorem xb(m h:V)(st W od:aa)(en:Bool)(Z Y:aa):(dF m h st W od en Z Y).lookup ("state":Str)=Z8 (.ref st):=by
 unfold dF;rw[dM (by decide +kernel),dM (by decide +kernel),bQ]
theorem Ha(m h:V)(st Z od:aa)(en:Bool)(Y W:aa):(dF m h st Z od en Y W).lookup ("written":Str)=Z8 (.ref Z):=by
 unfold dF;rw[dM (by decide +kernel),dM (by decide +kernel),dM (by decide +kernel),bQ]
theorem dF_o(m h:V)(st W od:aa)(en:Bool)(Z Y:aa):(dF m h st W od en Z Y).lookup ("outgoing":Str)=Z8 (.ref od):=by
 unfold dF;rw[dM (by decide +kernel),dM (by decide +kernel),dM (by decide +kernel),dM (by decide +kernel),bQ]
theorem dF_e(m h:V)(st W od:aa)(en:Bool)(Z Y:aa):(dF m h st W od en Z Y).lookup ("ends":Str)=Z8 (.bl en):=by
 unfold dF;rw[dM (by decide +kernel),dM (by decide +kernel),dM (by decide +kernel),dM (by decide +kernel),dM (by decide +kernel),bQ]
theorem dF_r(m h:V)(st W od:aa)(en:Bool)(Z Y:aa):(dF m h st W od en Z Y).lookup ("reckoned":Str)=Z8 (.ref Z):=by
 unfold dF;rw[dM (by decide +kernel),dM (by decide +kernel),dM (by decide +kernel),dM (by decide +kernel),dM (by decide +kernel),dM (by decide +kernel),bQ]
theorem dF_u(m h:V)(st W od:aa)(en:Bool)(Y Z:aa):(dF m h st W od en Y Z).lookup ("queued":Str)=Z8 (.ref Z):=by
 unfold dF;rw[dM (by decide +kernel),dM (by decide +kernel),dM (by decide +kernel),dM (by decide +kernel),dM (by decide +kernel),dM (by decide +kernel),dM (by decide +kernel),bQ]
theorem oS(m h:V)(st W od:aa)(en:Bool)(Z Y:aa){x:Str}(hx:Bg.contains x=false):(dF m h st W od en Z Y).lookup x=Z7:=by
 have z:∀k∈Bg,(x==k)=false:=fun k hk=>beq_eq_false_iff_ne.mpr fun e=>by
  rw[e,kj.mpr hk]at hx
  cases hx
 unfold dF;rw[dM (z _ (by simp)),dM (z _ (by simp)),dM (z _ (by simp)),dM (z _ (by simp)),dM (z _ (by simp)),dM (z _ (by simp)),dM (z _ (by simp)),dM (z _ (by simp))];rfl
theorem sne{a b:Str}(h:(a==b)=false):¬a=b:=fun e=>by
 rw[e,beq_self_eq_true]at h
 cases h
theorem Na(m h:V)(st W od:aa)(en:Bool)(Z Y:aa):cE "queued" (.ref Y) (cE "reckoned" (.ref Z) (cE "ends" (.bl en) (cE "outgoing" (.ref od) (cE "written" (.ref W) (cE "state" (.ref st) (cE "happening" h (cE "machine" m [])))))))=dF m h st W od en Z Y:=by
 simp only[dF,cE,if_neg (sne (a:="machine") (b:="happening") (by decide +kernel)),if_neg (sne (a:="machine") (b:="state") (by decide +kernel)),if_neg (sne (a:="machine") (b:="written") (by decide +kernel)),if_neg (sne (a:="machine") (b:="outgoing") (by decide +kernel)),if_neg (sne (a:="machine") (b:="ends") (by decide +kernel)),if_neg (sne (a:="machine") (b:="reckoned") (by decide +kernel)),if_neg (sne (a:="machine") (b:="queued") (by decide +kernel)),if_neg (sne (a:="happening") (b:="state") (by decide +kernel)),if_neg (sne (a:="happening") (b:="written") (by decide +kernel)),if_neg (sne (a:="happening") (b:="outgoing") (by decide +kernel)),if_neg (sne (a:="happening") (b:="ends") (by decide +kernel)),if_neg (sne (a:="happening") (b:="reckoned") (by decide +kernel)),if_neg (sne (a:="happening") (b:="queued") (by decide +kernel)),if_neg (sne (a:="state") (b:="written") (by decide +kernel)),if_neg (sne (a:="state") (b:="outgoing") (by decide +kernel)),if_neg (sne (a:="state") (b:="ends") (by decide +kernel)),if_neg (sne (a:="state") (b:="reckoned") (by decide +kernel)),if_neg (sne (a:="state") (b:="queued") (by decide +kernel)),if_neg (sne (a:="written") (b:="outgoing") (by decide +kernel)),if_neg (sne (a:="written") (b:="ends") (by decide +kernel)),if_neg (sne (a:="written") (b:="reckoned") (by decide +kernel)),if_neg (sne (a:="written") (b:="queued") (by decide +kernel)),if_neg (sne (a:="outgoing") (b:="ends") (by decide +kernel)),if_neg (sne (a:="outgoing") (b:="reckoned") (by decide +kernel)),if_neg (sne (a:="outgoing") (b:="queued") (by decide +kernel)),if_neg (sne (a:="ends") (b:="reckoned") (by decide +kernel)),if_neg (sne (a:="ends") (b:="queued") (by decide +kernel)),if_neg (sne (a:="reckoned") (b:="queued") (by decide +kernel))]
theorem Nb(m h:V)(st U od:aa)(en W:Bool)(Z Y:aa):cE "ends" (.bl W) (dF m h st U od en Z Y)=dF m h st U od W Z Y:=by
 simp only[dF,cE,if_neg (sne (a:="machine") (b:="ends") (by decide +kernel)),if_neg (sne (a:="happening") (b:="ends") (by decide +kernel)),if_neg (sne (a:="state") (b:="ends") (by decide +kernel)),if_neg (sne (a:="written") (b:="ends") (by decide +kernel)),if_neg (sne (a:="outgoing") (b:="ends") (by decide +kernel)),if_true]
theorem jY(b q d e:V):kL b q d e=([("boxes",b),("queues",q),("drawn",d),("sent",e)]:List (Str×V)):=by
 simp only[kL,cE,if_neg (sne (a:="boxes") (b:="queues") (by decide +kernel)),if_neg (sne (a:="boxes") (b:="drawn") (by decide +kernel)),if_neg (sne (a:="boxes") (b:="sent") (by decide +kernel)),if_neg (sne (a:="queues") (b:="drawn") (by decide +kernel)),if_neg (sne (a:="queues") (b:="sent") (by decide +kernel)),if_neg (sne (a:="drawn") (b:="sent") (by decide +kernel))]
theorem Nc(b q d e d':V):cE "drawn" d' (kL b q d e)=kL b q d' e:=by
 rw[jY,jY];simp only[cE,if_neg (sne (a:="boxes") (b:="drawn") (by decide +kernel)),if_neg (sne (a:="queues") (b:="drawn") (by decide +kernel)),if_true]
theorem Nd(b q d e Z:V):cE "sent" Z (kL b q d e)=kL b q d Z:=by
 rw[jY,jY];simp only[cE,if_neg (sne (a:="boxes") (b:="sent") (by decide +kernel)),if_neg (sne (a:="queues") (b:="sent") (by decide +kernel)),if_neg (sne (a:="drawn") (b:="sent") (by decide +kernel)),if_true]
theorem JH(b q d e:V):(kL b q d e).lookup ("boxes":Str)=Z8 b:=by rw[jY,bQ]
theorem JI(b q d e:V):(kL b q d e).lookup ("queues":Str)=Z8 q:=by rw[jY,dM (by decide +kernel),bQ]
theorem Nf(b q d e:V):(kL b q d e).lookup ("drawn":Str)=Z8 d:=by rw[jY,dM (by decide +kernel),dM (by decide +kernel),bQ]
theorem Ng(b q d e:V):(kL b q d e).lookup ("sent":Str)=Z8 e:=by rw[jY,dM (by decide +kernel),dM (by decide +kernel),dM (by decide +kernel),bQ]
theorem st_no(b q d e:V){x:Str}(hx:(["boxes","queues","drawn","sent"]:List Str).contains x=false):(kL b q d e).lookup x=Z7:=by
 have z:∀k∈(["boxes","queues","drawn","sent"]:List Str),(x==k)=false:=fun k hk=>beq_eq_false_iff_ne.mpr fun e=>by
  rw[e,kj.mpr hk]at hx
  cases hx
 rw[jY,dM (z _ (by simp)),dM (z _ (by simp)),dM (z _ (by simp)),dM (z _ (by simp))];rfl
theorem Hc(b q d e:V):(kL b q d e).length<1000:=by
 rw[jY];show 4<1000;decide
theorem Nh(m h:V)(st W od:aa)(en:Bool)(Z Y:aa):(dF m h st W od en Z Y).length<1000:=by show 8<1000;decide
structure Lay where
 d:aa
 dx:aa
 st:aa
 dxs:aa
 bd:aa
 qd:aa
 wd:aa
 od:aa
 rd:aa
 ud:aa
 m:V
 hv:V
 qa:List (Str×aa)
def Lay.all(L:Lay):List aa:=L.d::L.st::L.bd::L.qd::L.wd::L.od::L.rd::L.ud::L.qa.map (·.2)
def gj(G:Hp):List (Str×aa)->List (Str×List Int)->Prop:=aH fun p q=>p.1=q.1/\G p.2=Z8 (.lst (q.2.map V.int))
structure p9(bs qs:List Str)(w:Wk):Prop where
 kb:w.bx.map (·.1)=bs
 kq:w.qu.map (·.1)=qs
 nb:bs.Nodup
 nq:qs.Nodup
 wb:∀p∈w.bx,Wo p.2
 wq:∀p∈w.qu,p.2.length<=30/\∀n∈p.2,Wo n
 nw:w.wr.Nodup
 sw:∀x∈w.wr,x∈bs++qs
 nu:w.qn.Nodup
 su:∀x∈w.qn,x∈bs++qs
 wo:∀e∈w.out,Wo e.a/\Wo e.b
 fw:(bs++qs).length<100
structure Dg(CD CS:aa)(bs qs:List Str)(H0 G:Hp)(L:Lay)(h:Ev)(ds:List Int)(w:Wk):Prop where
 sm:aT H0 G
 hd:G L.d=Z8 (.ins CD L.dx (dF L.m L.hv L.st L.wd L.od w.en L.rd L.ud))
 hst:G L.st=Z8 (.ins CS L.dxs (kL (.ref L.bd) (.ref L.qd) (.int w.dr) (.int w.se)))
 hb:G L.bd=Z8 (.dK (boK w.bx))
 hq:G L.qd=Z8 (.dK (quK L.qa))
 hl:gj G L.qa w.qu
 hw:G L.wd=Z8 (.dK (wrK w.wr))
 ho:∃vs,G L.od=Z8 (.lst vs)/\aH (ip G) vs w.out
 hr:∃rs,G L.rd=Z8 (.lst rs)/\aH (FmI bs qs H0) rs w.rk
 hu:G L.ud=Z8 (.dK (wrK w.qn))
 hh:ip H0 L.hv h
 hm:∃t x1 x2 x3 x4 dl,L.m=.ref t/\H0 t=Z8 (.tup [x1,x2,x3,.ref dl,x4])/\H0 dl=Z8 (.lst (ds.map V.int))
 nd:L.all.Nodup
 fr:∀a∈L.all,H0 a=Z7
 ok:p9 bs qs w
 wt:Wo h.t
 wa:Wo h.a
 wb:Wo h.b
section
variable{CD CS:aa}{bs qs:List Str}{H0 G G':Hp}{L:Lay}{h:Ev}{ds:List Int}{w:Wk}
theorem gj.keep(k:∀a u,G a=Z8 u->a∈L.qa.map (·.2)->G' a=Z8 u){Z:List (Str×aa)}{qu:List (Str×List Int)}(sub:∀p∈Z,p∈L.qa)(q:gj G Z qu):gj G' Z qu:=by
 unfold gj at q |-
 induction q with
 |nil=>exact .nil
 |cons a _ Y=>exact .cons {a.1,k _ _ a.2 (cq.mpr {_,sub _ ax,Z9})} (Y fun p hp=>sub p (ah _ hp))
theorem Paired.mono{Z Y:Type}{R S:Z->Y->Prop}(f:∀a b,R a b->S a b){xs:List Z}{ys:List Y}(r:aH R xs ys):aH S xs ys:=L2.Paired.imp' f r
theorem Dg.same(g:Dg CD CS bs qs H0 G L h ds w)(s:aT G G'):Dg CD CS bs qs H0 G' L h ds w:=by
 obtain⟨vs,Y,U⟩:=g.ho;obtain⟨Z,V,W⟩:=g.hr;exact{g.sm.trans s,s _ _ g.hd,s _ _ g.hst,s _ _ g.hb,s _ _ g.hq,g.hl.keep (L:=L) (fun a u e _=>s _ _ e) (fun _ hp=>hp),s _ _ g.hw,{vs,s _ _ Y,Paired.mono (fun _ _ z=>z.same s) U},{Z,s _ _ V,W},s _ _ g.hu,g.hh,g.hm,g.nd,g.fr,g.ok,g.wt,g.wa,g.wb}
structure Lay.Ne(L:Lay):Prop where
 ds:L.d≠L.st
 db:L.d≠L.bd
 dq:L.d≠L.qd
 dw:L.d≠L.wd
 do_:L.d≠L.od
 dr:L.d≠L.rd
 du:L.d≠L.ud
 dl:∀a∈L.qa.map (·.2),L.d≠a
 sb:L.st≠L.bd
 sq:L.st≠L.qd
 sw:L.st≠L.wd
 so:L.st≠L.od
 sr:L.st≠L.rd
 su:L.st≠L.ud
 sl:∀a∈L.qa.map (·.2),L.st≠a
 bq:L.bd≠L.qd
 bw:L.bd≠L.wd
 bo:L.bd≠L.od
 br:L.bd≠L.rd
 bu:L.bd≠L.ud
 bl:∀a∈L.qa.map (·.2),L.bd≠a
 qw:L.qd≠L.wd
 qo:L.qd≠L.od
 qr:L.qd≠L.rd
 qu:L.qd≠L.ud
 ql:∀a∈L.qa.map (·.2),L.qd≠a
 wo:L.wd≠L.od
 wr:L.wd≠L.rd
 wu:L.wd≠L.ud
 wl:∀a∈L.qa.map (·.2),L.wd≠a
 or:L.od≠L.rd
 ou:L.od≠L.ud
 ol:∀a∈L.qa.map (·.2),L.od≠a
 ru:L.rd≠L.ud
 rl:∀a∈L.qa.map (·.2),L.rd≠a
 ul:∀a∈L.qa.map (·.2),L.ud≠a
 ll:(L.qa.map (·.2)).Nodup
theorem Lay.ne(W:L.all.Nodup):L.Ne:=by
 unfold Lay.all at W;have cut:∀{a:aa} {xs:List aa},(a::xs).Nodup->(∀b∈xs,a≠b)/\xs.Nodup:=fun {a xs} z=>by
  obtain⟨V,U⟩:=cC.mp z;exact{fun b hb e=>V (by rw[e];exact hb),U}
 obtain⟨a1,W⟩:=cut W;obtain⟨a2,W⟩:=cut W;obtain⟨a3,W⟩:=cut W;obtain⟨a4,W⟩:=cut W;obtain⟨a5,W⟩:=cut W;obtain⟨a6,W⟩:=cut W;obtain⟨a7,W⟩:=cut W;obtain⟨a8,W⟩:=cut W;have Y:∀{b:aa} {xs:List aa},b∈b::xs:=ax;have Z:∀{a b:aa} {xs:List aa},b∈xs->b∈a::xs:=fun z=>ah _ z;exact{a1 _ Y,a1 _ (Z Y),a1 _ (Z (Z Y)),a1 _ (Z (Z (Z Y))),a1 _ (Z (Z (Z (Z Y)))),a1 _ (Z (Z (Z (Z (Z Y))))),a1 _ (Z (Z (Z (Z (Z (Z Y)))))),fun a ha=>a1 _ (Z (Z (Z (Z (Z (Z (Z ha))))))),a2 _ Y,a2 _ (Z Y),a2 _ (Z (Z Y)),a2 _ (Z (Z (Z Y))),a2 _ (Z (Z (Z (Z Y)))),a2 _ (Z (Z (Z (Z (Z Y))))),fun a ha=>a2 _ (Z (Z (Z (Z (Z (Z ha)))))),a3 _ Y,a3 _ (Z Y),a3 _ (Z (Z Y)),a3 _ (Z (Z (Z Y))),a3 _ (Z (Z (Z (Z Y)))),fun a ha=>a3 _ (Z (Z (Z (Z (Z ha))))),a4 _ Y,a4 _ (Z Y),a4 _ (Z (Z Y)),a4 _ (Z (Z (Z Y))),fun a ha=>a4 _ (Z (Z (Z (Z ha)))),a5 _ Y,a5 _ (Z Y),a5 _ (Z (Z Y)),fun a ha=>a5 _ (Z (Z (Z ha))),a6 _ Y,a6 _ (Z Y),fun a ha=>a6 _ (Z (Z ha)),a7 _ Y,fun a ha=>a7 _ (Z ha),fun a ha=>a8 _ ha,W}
theorem lY{a:aa}{o:HO}(Z:∀xs,G a≠Z8 (.tup xs)){vs:List V}{es:List Ev}(r:aH (ip G) vs es):aH (ip (upd G a o)) vs es:=
 Paired.mono (fun v e z=>by
  obtain⟨t,k,e1,h1,h2⟩:=z;refine{t,k,e1,?_,?_}
  ·rw[aJ fun y=>Z _ (by rw[<- y];exact h1)];exact h1
  ·rw[aJ fun y=>Z _ (by rw[<- y];exact h2)];exact h2) r
theorem Dg.sm_upd(g:Dg CD CS bs qs H0 G L h ds w){a:aa}(ha:a∈L.all)(o:HO):aT H0 (upd G a o):=fun b u e=>by
 rw[aJ (av e (g.fr a ha))];exact g.sm _ _ e
theorem in_d:L.d∈L.all:=ax
theorem K8:L.st∈L.all:=ah _ ax
theorem K9:L.bd∈L.all:=ah _ (ah _ ax)
theorem in_qd:L.qd∈L.all:=ah _ (ah _ (ah _ ax))
theorem in_wd:L.wd∈L.all:=ah _ (ah _ (ah _ (ah _ ax)))
theorem La:L.od∈L.all:=ah _ (ah _ (ah _ (ah _ (ah _ ax))))
theorem in_rd:L.rd∈L.all:=ah _ (ah _ (ah _ (ah _ (ah _ (ah _ ax)))))
theorem in_ud:L.ud∈L.all:=ah _ (ah _ (ah _ (ah _ (ah _ (ah _ (ah _ ax))))))
theorem in_l{a:aa}(h:a∈L.qa.map (·.2)):a∈L.all:=ah _ (ah _ (ah _ (ah _ (ah _ (ah _ (ah _ (ah _ h)))))))
theorem aP{o o':HO}{a b:aa}(e:G a=Z8 o)(n:a≠b):upd G b o' a=Z8 o:=by rw[aJ n];exact e
theorem lZ{o:HO}{a:aa}(e:G a=Z8 o)(n:∀xs,o≠.tup xs):∀xs,G a≠Z8 (.tup xs):=fun xs z=>by
 rw[e]at z
 cases z;exact n xs rfl
theorem Dg.box(g:Dg CD CS bs qs H0 G L h ds w){x:Str}{n:Int}(t:Wo n):Dg CD CS bs qs H0 (upd G L.bd (.dK (boK (oB w.bx x n)))) L h ds {w with bx:=oB w.bx x n}:=by
 have N:=Lay.ne g.nd;obtain⟨vs,D,H⟩:=g.ho;obtain⟨U,J,r2⟩:=g.hr;refine{g.sm_upd K9 _,aP g.hd N.db,aP g.hst N.sb,ag,aP g.hq N.bq.symm,g.hl.keep (L:=L) (fun a u e m=>aP e (N.bl a m).symm) (fun _ hp=>hp),aP g.hw N.bw.symm,{vs,aP D N.bo.symm,lY (lZ g.hb (fun _ z=>by cases z)) H},{U,aP J N.br.symm,r2},aP g.hu N.bu.symm,g.hh,g.hm,g.nd,g.fr,?_,g.wt,g.wa,g.wb};obtain⟨kb,M,I,Y,wb,W,O,sw,nu,V,wo,Z⟩:=g.ok;refine{(xT _ _ _).trans kb,M,I,Y,fun p hp=>?_,W,O,sw,nu,V,wo,Z}
 rcases zX hp with z|z
 ·exact wb p z
 ·rw[z];exact t
theorem Cc{xs:List Str}{x:Str}(h:xs.Nodup):(mE xs x).Nodup:=by
 unfold mE
 by_cases c:x∈xs
 ·rw[if_pos c];exact h
 ·rw[if_neg c];refine gY.mpr {h,by simp,fun a ha b hb=>?_};rw[aE.mp hb];exact fun z=>c (by rw[<- z];exact ha)
theorem zY{xs:List Str}{x y:Str}(h:y∈mE xs x):y∈xs\/y=x:=by
 unfold mE at h
 by_cases c:x∈xs
 ·rw[if_pos c]at h;exact .inl h
 ·rw[if_neg c]at h
  rcases cv.mp h with z|z
  ·exact .inl z
  ·exact .inr (aE.mp z)
theorem He{xs:List Str}:∀{ys:List Str},xs.Nodup->(∀x∈xs,x∈ys)->xs.length<=ys.length:=by
 induction xs with
 |nil=>intro ys _ _;exact bO _
 |cons x xs U=>
  intro ys Y s;obtain⟨W,V⟩:=cC.mp Y;have hx:x∈ys:=s x ax;have:=U (ys:=ys.erase x) V fun z Z=>(List.mem_erase_of_ne (fun e=>W (by rw[<- e];exact Z))).mpr (s z (ah _ Z));rw[List.length_erase_of_mem hx]at this;have:=List.length_pos_of_mem hx;rw[aU];omega
theorem p9.few(k:p9 bs qs w):w.wr.length<100:=jt (He k.nw k.sw) k.fw
theorem p9.few2(k:p9 bs qs w):w.qn.length<100:=jt (He k.nu k.su) k.fw
theorem Cd(xs:List Str):(wrK xs).length=xs.length:=aq _
theorem dZ:1000<aC:=by decide
theorem Dg.wrote(g:Dg CD CS bs qs H0 G L h ds w){x:Str}(hx:x∈bs++qs):Dg CD CS bs qs H0 (upd G L.wd (.dK (wrK (mE w.wr x)))) L h ds {w with wr:=mE w.wr x}:=by
 have N:=Lay.ne g.nd;obtain⟨vs,D,H⟩:=g.ho;obtain⟨U,J,r2⟩:=g.hr;refine{g.sm_upd in_wd _,aP g.hd N.dw,aP g.hst N.sw,aP g.hb N.bw,aP g.hq N.qw,g.hl.keep (L:=L) (fun a u e m=>aP e (N.wl a m).symm) (fun _ hp=>hp),ag,{vs,aP D N.wo.symm,lY (lZ g.hw (fun _ z=>by cases z)) H},{U,aP J N.wr.symm,r2},aP g.hu N.wu.symm,g.hh,g.hm,g.nd,g.fr,?_,g.wt,g.wa,g.wb};obtain⟨t,M,I,Y,wb,W,O,sw,nu,V,wo,Z⟩:=g.ok;refine{t,M,I,Y,wb,W,Cc O,fun y hy=>?_,nu,V,wo,Z}
 rcases zY hy with z|z
 ·exact sw y z
 ·rw[z];exact hx
theorem gj.at_{x:Str}:∀{Z:List (Str×aa)} {qu:List (Str×List Int)},gj G Z qu->x∈qu.map (·.1)->∃l,Z.lookup x=Z8 l/\G l=Z8 (.lst ((jG qu x).map V.int))/\l∈Z.map (·.2)
 |_,_,.nil,m=>by cases m
 |(k,l)::Z,(O,xs)::qu,.cons a b,m=>by
  obtain⟨e,ha⟩:=a;dsimp only at e ha;subst e
  by_cases c:x=k
  ·subst c;refine{l,bQ,?_,ax};unfold jG;rw[bQ];exact ha
  ·have U:x∈qu.map (·.1):=by
    rcases ar.mp m with z|z
    ·exact absurd z c
    ·exact z
   obtain⟨W,h1,h2,Y⟩:=gj.at_ b U;refine{W,?_,?_,ah _ Y}
   ·rw[cA,beq_eq_false_iff_ne.mpr c];exact h1
   ·unfold jG at h2 |-;rw[cA,beq_eq_false_iff_ne.mpr c];exact h2
theorem qc{Z:Type}{x:Str}{a:Z}:∀{ps:List (Str×Z)},ps.lookup x=Z8 a->(x,a)∈ps
 | [],h=>by cases h
 |(k,b)::ps,h=>by
  by_cases c:x=k
  ·subst c;rw[bQ]at h
   cases h;exact ax
  ·rw[cA,beq_eq_false_iff_ne.mpr c]at h;exact ah _ (qc h)
theorem Em{Z:Type}{x:Str}{n:Z}{ps:List (Str×Z)}(h:x∉ps.map (·.1)):oB ps x n=ps:=by
 unfold oB;have:∀p∈ps,(if p.1=x then (p.1,n) else p)=p:=fun p hp=>if_neg fun e=>h (cq.mpr ⟨p,hp,e⟩);rw[gv this];exact List.map_id _
theorem gj.set{x:Str}{l:aa}{ns:List Int}:∀{Z:List (Str×aa)} {qu:List (Str×List Int)},gj G Z qu->(Z.map (·.2)).Nodup->(qu.map (·.1)).Nodup->Z.lookup x=Z8 l->gj (upd G l (.lst (ns.map V.int))) Z (oB qu x ns)
 |_,_,.nil,_,_,e=>by cases e
 |(k,Y)::Z,(H,xs)::qu,.cons a b,M,nk,e=>by
  obtain⟨W,ha⟩:=a;dsimp only at W ha;subst W;obtain⟨U,J⟩:=cC.mp M;obtain⟨O,I⟩:=cC.mp nk
  by_cases c:x=k
  ·subst c;rw[bQ]at e
   cases e;show gj _ _ ((if x=x then (x,ns) else (x,xs))::oB qu x ns);rw[if_pos rfl,Em O];refine .cons ⟨Z9,ag⟩ ?_;refine gj.keep (L:={0,0,0,0,0,0,0,0,0,0,.non,.non,Z}) (G:=G) (fun a u e m=>aP e fun z=>U (by rw[<- z];exact m)) (fun _ hp=>hp) b
  ·rw[cA,beq_eq_false_iff_ne.mpr c]at e;show gj _ _ ((if k=x then (k,ns) else (k,xs))::oB qu x ns);rw[if_neg fun z=>c z.symm];refine .cons {Z9,aP ha fun z=>U ?_} (gj.set b J I e);show Y∈Z.map (·.2);rw[show Y=l from z];exact cq.mpr {_,qc e,Z9}
theorem Dg.queue(g:Dg CD CS bs qs H0 G L h ds w){x:Str}{l:aa}{ns:List Int}(O:L.qa.lookup x=Z8 l)(len:ns.length<=30)(D:∀n∈ns,Wo n):Dg CD CS bs qs H0 (upd G l (.lst (ns.map V.int))) L h ds {w with qu:=oB w.qu x ns}:=by
 have N:=Lay.ne g.nd;have Z:l∈L.qa.map (·.2):=cq.mpr {_,qc O,Z9};obtain⟨vs,o1,o2⟩:=g.ho;obtain⟨I,r1,r2⟩:=g.hr;obtain⟨kb,M,H,U,wb,wq,nw,t,nu,J,wo,fw⟩:=g.ok;have Y:∃xs,G l=Z8 (.lst xs):=by
  have key:∀{W:List (Str×aa)} {qu:List (Str×List Int)},gj G W qu->l∈W.map (·.2)->∃xs,G l=Z8 (.lst xs):=fun {W qu} q=>by
   induction q with
   |nil=>intro m;cases m
   |cons a _ ih=>
    intro m
    rcases ar.mp m with z|z
    ·rw[z];exact{_,a.2}
    ·exact ih z
  exact key g.hl Z
 obtain⟨xs,Y⟩:=Y;refine{g.sm_upd (in_l Z) _,aP g.hd (N.dl l Z),aP g.hst (N.sl l Z),aP g.hb (N.bl l Z),aP g.hq (N.ql l Z),g.hl.set N.ll (by rw[M];exact U) O,aP g.hw (N.wl l Z),{vs,aP o1 (N.ol l Z),lY (lZ Y (fun _ z=>by cases z)) o2},{I,aP r1 (N.rl l Z),r2},aP g.hu (N.ul l Z),g.hh,g.hm,g.nd,g.fr,?_,g.wt,g.wa,g.wb};refine{kb,(xT _ _ _).trans M,H,U,wb,fun p hp=>?_,nw,t,nu,J,wo,fw}
 rcases zX hp with z|z
 ·exact wq p z
 ·rw[z];exact⟨len,D⟩
theorem Dg.counts(g:Dg CD CS bs qs H0 G L h ds w)(dr:Nat)(se:Int):Dg CD CS bs qs H0 (upd G L.st (.ins CS L.dxs (kL (.ref L.bd) (.ref L.qd) (.int dr) (.int se)))) L h ds {w with dr:=dr,se:=se}:=by
 have N:=Lay.ne g.nd;obtain⟨vs,H,I⟩:=g.ho;obtain⟨O,r1,Z⟩:=g.hr;obtain⟨kb,kq,J,W,wb,V,M,t,D,U,wo,Y⟩:=g.ok;exact{g.sm_upd K8 _,aP g.hd N.ds,ag,aP g.hb N.sb.symm,aP g.hq N.sq.symm,g.hl.keep (L:=L) (fun a u e m=>aP e (N.sl a m).symm) (fun _ hp=>hp),aP g.hw N.sw.symm,{vs,aP H N.so.symm,lY (lZ g.hst (fun _ z=>by cases z)) I},{O,aP r1 N.sr.symm,Z},aP g.hu N.su.symm,g.hh,g.hm,g.nd,g.fr,⟨kb,kq,J,W,wb,V,M,t,D,U,wo,Y⟩,g.wt,g.wa,g.wb}
theorem Dg.sent(g:Dg CD CS bs qs H0 G L h ds w){vs:List V}{v:V}{e:Ev}(Y:G L.od=Z8 (.lst vs))(t:ip G v e)(we:Wo e.a/\Wo e.b):Dg CD CS bs qs H0 (upd G L.od (.lst (vs++[v]))) L h ds {w with out:=w.out++[e]}:=by
 have N:=Lay.ne g.nd;obtain⟨D,Z,o2⟩:=g.ho;obtain⟨O,r1,r2⟩:=g.hr;rw[Y]at Z
 cases Z;obtain⟨kb,kq,M,W,wb,H,nw,J,I,U,wo,fw⟩:=g.ok;refine{g.sm_upd La _,aP g.hd N.do_,aP g.hst N.so,aP g.hb N.bo,aP g.hq N.qo,g.hl.keep (L:=L) (fun a u e m=>aP e (N.ol a m).symm) (fun _ hp=>hp),aP g.hw N.wo,{_,ag,?_},{O,aP r1 N.or.symm,r2},aP g.hu N.ou.symm,g.hh,g.hm,g.nd,g.fr,{kb,kq,M,W,wb,H,nw,J,I,U,fun x hx=>(cv.mp hx).elim (wo x) fun z=>by rw[aE.mp z];exact we,fw},g.wt,g.wa,g.wb};exact lY (lZ Y (fun _ z=>by cases z)) (eJ o2 t)
theorem Dg.ended(g:Dg CD CS bs qs H0 G L h ds w):Dg CD CS bs qs H0 (upd G L.d (.ins CD L.dx (dF L.m L.hv L.st L.wd L.od true L.rd L.ud))) L h ds {w with en:=true}:=by
 have N:=Lay.ne g.nd;obtain⟨vs,H,I⟩:=g.ho;obtain⟨O,r1,Z⟩:=g.hr;obtain⟨kb,kq,J,W,wb,V,M,t,D,U,wo,Y⟩:=g.ok;exact{g.sm_upd in_d _,ag,aP g.hst N.ds.symm,aP g.hb N.db.symm,aP g.hq N.dq.symm,g.hl.keep (L:=L) (fun a u e m=>aP e (N.dl a m).symm) (fun _ hp=>hp),aP g.hw N.dw.symm,{vs,aP H N.do_.symm,lY (lZ g.hd (fun _ z=>by cases z)) I},{O,aP r1 N.dr.symm,Z},aP g.hu N.du.symm,g.hh,g.hm,g.nd,g.fr,⟨kb,kq,J,W,wb,V,M,t,D,U,wo,Y⟩,g.wt,g.wa,g.wb}
theorem Dg.reckoned(g:Dg CD CS bs qs H0 G L h ds w){Z:List V}{v:V}{F:Fm}(Y:G L.rd=Z8 (.lst Z))(hF:FmI bs qs H0 v F):Dg CD CS bs qs H0 (upd G L.rd (.lst (Z++[v]))) L h ds {w with rk:=w.rk++[F]}:=by
 have N:=Lay.ne g.nd;obtain⟨vs,t,o2⟩:=g.ho;obtain⟨bv,W,r2⟩:=g.hr;rw[Y]at W
 cases W;obtain⟨kb,kq,M,U,wb,H,D,J,I,O,wo,fw⟩:=g.ok;exact{g.sm_upd in_rd _,aP g.hd N.dr,aP g.hst N.sr,aP g.hb N.br,aP g.hq N.qr,g.hl.keep (L:=L) (fun a u e m=>aP e (N.rl a m).symm) (fun _ hp=>hp),aP g.hw N.wr,{vs,aP t N.or,lY (lZ Y (fun _ z=>by cases z)) o2},{_,ag,eJ r2 hF},aP g.hu N.ru.symm,g.hh,g.hm,g.nd,g.fr,⟨kb,kq,M,U,wb,H,D,J,I,O,wo,fw⟩,g.wt,g.wa,g.wb}
theorem Dg.queued(g:Dg CD CS bs qs H0 G L h ds w){x:Str}(hx:x∈bs++qs):Dg CD CS bs qs H0 (upd G L.ud (.dK (wrK (mE w.qn x)))) L h ds {w with qn:=mE w.qn x}:=by
 have N:=Lay.ne g.nd;obtain⟨vs,D,H⟩:=g.ho;obtain⟨O,J,Z⟩:=g.hr;obtain⟨t,kq,I,W,wb,V,M,sw,nu,U,wo,Y⟩:=g.ok;refine{g.sm_upd in_ud _,aP g.hd N.du,aP g.hst N.su,aP g.hb N.bu,aP g.hq N.qu,g.hl.keep (L:=L) (fun a u e m=>aP e (N.ul a m).symm) (fun _ hp=>hp),aP g.hw N.wu,{vs,aP D N.ou,lY (lZ g.hu (fun _ z=>by cases z)) H},{O,aP J N.ru,Z},ag,g.hh,g.hm,g.nd,g.fr,{t,kq,I,W,wb,V,M,sw,Cc nu,fun y hy=>?_,wo,Y},g.wt,g.wa,g.wb}
 rcases zY hy with z|z
 ·exact U y z
 ·rw[z];exact hx
theorem Hf{x:Str}{ps:List (Str×Int)}(m:x∈ps.map (·.1)):jF (boK ps) (Sum.inr x)=Z8 (.int (vR ps x)):=by
 obtain⟨a,h1,_⟩:=nj m;have z:=rP V.int x ps;rw[h1]at z;unfold vR;rw[h1];exact z
theorem Hg{x:Str}{l:aa}{Z:List (Str×aa)}(m:Z.lookup x=Z8 l):jF (quK Z) (Sum.inr x)=Z8 (.ref l):=by
 have z:=rP V.ref x Z;rw[m]at z;exact z
theorem JJ{x:Str}(k:p9 bs qs w)(m:x∈bs):Wo (vR w.bx x):=by
 obtain⟨a,h1,h2⟩:=nj (ps:=w.bx) (x:=x) (by rw[k.kb];exact m);unfold vR;rw[h1];exact k.wb _ h2
theorem yE{x:Str}(k:p9 bs qs w)(m:x∈qs):(jG w.qu x).length<=30/\∀n∈jG w.qu x,Wo n:=by
 obtain⟨a,h1,h2⟩:=nj (ps:=w.qu) (x:=x) (by rw[k.kq];exact m);unfold jG;rw[h1];exact k.wq _ h2
theorem Dg.asks(g:Dg CD CS bs qs H0 G L h ds w):(zW h w).Ok bs qs:=
 ⟨fun x m=>JJ g.ok m,fun x m=>by
  have:=(yE g.ok m).1;show (jG w.qu x).length<=1000;omega,g.wa,g.wb,g.wt⟩
theorem Dg.holds{K:af}(g:Dg CD CS bs qs H0 G L h ds w){Z:aa}(Y:G Z=Z8 (.lst [.int h.a,.int h.b])):Holds K CS bs qs G L.st Z (zW h w):=
 ⟨⟨L.dxs,L.bd,L.qd,_,_,_,g.hst,JH _ _ _ _,JI _ _ _ _,g.hb,g.hq,fun x m=>Hf (by rw[g.ok.kb];exact m),fun x m=>by
  obtain⟨l,h1,h2,_⟩:=g.hl.at_ (x:=x) (by rw[g.ok.kq];exact m);exact{l,_,Hg h1,h2,aq _}⟩,Y⟩
end
end My
namespace L2
open PySem
theorem t8.own{X:Cx}{E:XK}(hb:t8 X E):PassesOwn (aX X.prog X.w) X.A X.env X.xe:=by
 rw[hb.xe];exact PassesOwn.leaving
end L2
namespace My
open PySem L2
structure Mt(K:af)(C:aa)(x qual:Str)(st:cU)(ps:List Str)(f:aa)(fd:bS):Prop where
 F:Fun K x qual st f fd
 b:Binds K fd ps []
 m:yj K C x f
structure Hh(K:af)(mg:Str->Option ae)(cf:Flt->aa):Prop where
 two:Fts K mg (cf .nought) (cf .great)
 mF:mg "Full"=Z8 (.ref (cf .full))
 mD:mg "Dry"=Z8 (.ref (cf .dry))
 mS:mg "Span"=Z8 (.ref (cf .span))
 mL:mg "Late"=Z8 (.ref (cf .late))
 xF:cX K (cf .full) pO "ValueError.__new__"=true
 xD:cX K (cf .dry) pO "ValueError.__new__"=true
 xS:cX K (cf .span) pO "ValueError.__new__"=true
 xL:cX K (cf .late) pO "ValueError.__new__"=true
def tK(cf:Flt->aa)(Y:Wk->Hp->Prop)(H0:Hp)(n:Nat)(r:Except Flt Wk)(Q:VK)(E:XK):Prop:=match r with
 |.ok Z=>∀G',Y Z G'->Z.len<=n->Q .non G'
 |.error e=>∀G',aT H0 G'->E (.ref (cf e)) Z7 G'
theorem lB{cf:Flt->aa}{Z:Wk->Hp->Prop}{H0 G':Hp}{n:Nat}{h:Ev}{w:Wk}{f:Fm}{k:Wk->Int->Except Flt Wk}{Y Q:VK}{E:XK}(p:tK cf Z H0 n (rck h w f k) Y E)(s:aT H0 G')
  (hq:∀r,ev (zW h w) f=.ok r->tK cf Z H0 n (k {w with rk:=w.rk++[f]} r) Y E->Q (.int r) G'):xR (cf .nought) (cf .great) (ev (zW h w) f) Q E G':=by
 unfold rck at p
 cases e:ev (zW h w) f with
 |ok r=>
  rw[e]at p;exact hq r e p
 |nought=>
  rw[e]at p;exact p G' s
 |great=>
  rw[e]at p;exact p G' s
theorem Bh{w:Wk}{F:Fm}:w.out.length+(w.rk++[F]).length<=w.len+4:=by
 rw[ay];show _+(_+1)<=w.out.length+w.rk.length+4;omega
theorem JK{w:Wk}{F F1 F2:Fm}{e:Ev}:(w.out++[e]).length+(w.rk++[F]++[F1]++[F2]).length<=w.len+4:=by
 rw[ay,ay,ay,ay];show _+1+(_+1+1+1)<=w.out.length+w.rk.length+4;omega
theorem JL{x:Str}{n:Int}{ps:List (Str×Int)}(m:x∈ps.map (·.1)):iW (boK ps) (Sum.inr x) (.int n)=boK (oB ps x n):=by
 obtain⟨a,h1,_⟩:=nj m;exact JF V.int x n (by rw[h1];rfl)
theorem JM(ps:List (Str×Int)):(boK ps).length=ps.length:=aq _
section
variable{CD CS:aa}{bs qs:List Str}{H0 G G':Hp}{L:Lay}{h:Ev}{ds:List Int}{w:Wk}
theorem Dg.few(g:Dg CD CS bs qs H0 G L h ds w):(boK w.bx).length<aC/\(wrK w.wr).length<aC:=by
 have:=g.ok.few;have:=g.ok.fw;have:=dZ;rw[JM,Cd];have e:=congrArg jq g.ok.kb;rw[aq]at e;rw[ay]at *;omega
theorem Dg.putB(g:Dg CD CS bs qs H0 G L h ds w){x:Str}{n:Int}(m:x∈bs):rH G L.bd (.str x) (.int n) (upd G L.bd (.dK (boK (oB w.bx x n)))):=by
 have z:=rH.k (k:=Sum.inr x) (v:=.int n) g.hb g.few.1;rw[JL (by rw[g.ok.kb];exact m)]at z;exact z
theorem Dg.putW(g:Dg CD CS bs qs H0 G L h ds w)(x:Str):rH G L.wd (.str x) (.bl true) (upd G L.wd (.dK (wrK (mE w.wr x)))):=by
 have z:=rH.k (k:=Sum.inr x) (v:=.bl true) g.hw g.few.2;rw[Cb]at z;exact z
theorem Dg.putU(g:Dg CD CS bs qs H0 G L h ds w)(x:Str):rH G L.ud (.str x) (.bl true) (upd G L.ud (.dK (wrK (mE w.qn x)))):=by
 have z:=rH.k (k:=Sum.inr x) (v:=.bl true) g.hu (by
  have:=g.ok.few2;have:=dZ;rw[Cd];omega)
 rw[Cb]at z;exact z
theorem Dg.getL(g:Dg CD CS bs qs H0 G L h ds w){x:Str}(m:x∈qs):∃l,L.qa.lookup x=Z8 l/\G l=Z8 (.lst ((jG w.qu x).map V.int))/\oW G L.qd (.str x) (Z8 (.ref l)):=by
 obtain⟨l,h1,h2,_⟩:=g.hl.at_ (x:=x) (by rw[g.ok.kq];exact m);refine{l,h1,h2,?_};have z:=oW.k (k:=Sum.inr x) g.hq;rw[Hg h1]at z;exact z
end
section
variable{P:aL}{w:bA}{K:af}{mg:Str->Option ae}{base:cu}{f fN fR fF fW fT fD fL fQ CD CS CM:aa}{fd fdN fdR fdF fdW fdT fdD fdL fdQ:bS}{cf:Flt->aa}{bs qs:List Str}
inductive Hi(CD CS:aa)(bs qs:List Str)(vs:List V)(H:Hp)(Q:VK)(_e:XK):Prop where
 |mk(H0:Hp)(L:Lay)(h:Ev)(ds:List Int)(w:Wk)(_:vs=[.ref L.d])(_:Dg CD CS bs qs H0 H L h ds w)(_:Q (.int h.t) H):Hi CD CS bs qs vs H Q _e
def Hj(CD CS:aa)(bs qs:List Str):Sp:=fun vs H Q Z=>Hi CD CS bs qs vs H Q Z
theorem scNw:bK ["self"] ["self"] (aN jj):={}
theorem Hk(M:Mt K CD "now" "Doing.now" jj ["self"] f fd)(T:DT K mg CD):bh P w K mg base CX0 1 f fd ["self"] (Hj CD CS bs qs):=by
 refine M.F.ok scNw (fun vs H Q E h=>?_) (fun Z A outer s H vs Q E Y h=>?_)
 ·obtain⟨H0,L,e,ds,w,rfl,_⟩:=h;rfl
 obtain⟨H0,L,e,ds,w,rfl,g,q⟩:=h;obtain⟨t,k,ev,h1,h2⟩:=g.hh;refine{_,aA (bJ (bX cD (bX cD (cO (pv 0) rfl) aw (fun _ _=>rfl)) aw (fun _ _=>rfl))),?_};exact{_,Z9,L.d,CD,L.dx,_,_,Z9,g.hd,T.cl,T.nH,JG _ _ _ _ _ _ _ _,t,_,_,_,ev,Z9,SqT.of (g.sm _ _ h1),Z9,k,_,_,_,Z9,Z9,SqT.of (g.sm _ _ h2),Z9,q}
inductive Ce(cf:Flt->aa)(CD CS:aa)(bs qs:List Str)(vs:List V)(H:Hp)(Q:VK)(E:XK):Prop where
 |mk(H0:Hp)(L:Lay)(h:Ev)(ds:List Int)(w:Wk)(v:V)(F:Fm)(_:vs=[.ref L.d,v])(_:Dg CD CS bs qs H0 H L h ds w)(_:FmI bs qs H0 v F)(_:w.len<400000)(_:∀G',Dg CD CS bs qs H0 G' L h ds {w with rk:=w.rk++[F]}->xR (cf .nought) (cf .great) (ev (zW h w) F) Q E G'):Ce cf CD CS bs qs vs H Q E
def tL(cf:Flt->aa)(CD CS:aa)(bs qs:List Str):Sp:=fun vs H Q E=>Ce cf CD CS bs qs vs H Q E
theorem scRk:bK ["self","formula"] ["self","formula"] (aN e8):={}
theorem jd(M:Mt K CD "reckon" "Doing.reckon" e8 ["self","formula"] f fd)(J:Mt K CD "now" "Doing.now" jj ["self"] fN fdN)(W:Df K mg "worth_of" kZ ["formula","state","now","got"] fW fdW)(U:Df K mg "number_of_two" gL ["kind","first","second"] fT fdT)(DD:Df K mg "number_of_division" eu ["kind","first","second"] fD fdD)
  (DL:Df K mg "number_of_leaf" gx ["formula","state","now","got"] fL fdL) (T:DT K mg CD) (TF:Hh K mg cf) (TM:MdT K mg CM CS) (B:Bl mg):bh P w K mg base (CXo P w) 18 f fd ["self","formula"] (tL cf CD CS bs qs):=by
 have GN:bh P w K mg base CX0 1 fN fdN ["self"] (Hj CD CS bs qs):=Hk J T;have GW:bh P w K mg base (CXo P w) 17 fW fdW ["formula","state","now","got"] (GX K CS (cf .nought) (cf .great) bs qs 15):=K6 W U DD DL TF.two TM B 15;refine M.F.okX scRk (fun vs H Q E h=>?_) (fun bu A outer s H vs Q E D h=>?_)
 ·obtain⟨H0,L,e,ds,w,v,F,rfl,_⟩:=h;rfl
 obtain⟨H0,L,e,ds,w,v,F,rfl,g,O,fw,q⟩:=h;obtain⟨t,k,eh,h1,h2⟩:=g.hh;have r1:cZ 1 _:=D.mono (by omega);obtain⟨I,Y,r2⟩:=g.hr;have Z:=g.reckoned Y O;refine{_,ai (dU (oQ bE dD dE iO (cO (pv 0) rfl) (ak (pv 1) aj))) (aA (bJ (aM GW D rfl W.m W.F.kp W.b .nil (dW.passes fun _ _ _ z=>z) (ak (pv 1) (ak (cO (pv 0) rfl) (ak (gB (pv 0) T.cl J.m GN r1 J.b .nil aY) (ak (eR (ak (bX cD (cO (pv 0) rfl) aw (fun _ _=>rfl)) (ak (bX cD (cO (pv 0) rfl) aw (fun _ _=>rfl)) aj))) aj))))))),?_};have rl:I.length<aC:=by
  have z:I.length=w.rk.length:=aV r2;have:400000<aC:=by decide
  have:w.out.length+w.rk.length<400000:=fw;omega
 refine{_,Z9,L.d,CD,L.dx,_,_,Z9,g.hd,T.cl,T.nR,dF_r _ _ _ _ _ _ _ _,.inl {Z9,_,SqL.of Y},_,Z9,L.rd,_,_,Z9,Z9,Y,rl,?_};refine{_,Z9,_,Z9,L.d,CD,L.dx,_,_,Z9,Z.hd,T.cl,T.nS,xb _ _ _ _ _ _ _ _,?_};refine{_,Z9,L.d,L.dx,_,Z9,Z.hd,oS _ _ _ _ _ _ _ _ (by decide +kernel),H0,L,e,ds,_,Z9,Z,?_};refine{_,Z9,L.d,CD,L.dx,_,_,Z9,Z.hd,T.cl,T.nH,JG _ _ _ _ _ _ _ _,t,_,_,_,eh,Z9,SqT.of (Z.sm _ _ h1),Z9,?_};refine{_,Z9,L.d,CD,L.dx,_,_,Z9,Z.hd,T.cl,T.nH,JG _ _ _ _ _ _ _ _,t,_,_,_,eh,Z9,SqT.of (Z.sm _ _ h1),Z9,?_};refine{lt2,fun l hl=>?_};have s2:=aD hl (.lst [.int e.a,.int e.b]);have V:=Z.same s2;exact{v,F,L.st,l,zW e w,Z9,(O.1.same V.sm),O.2,V.holds ag,V.asks,q _ V}
inductive Hl(CD CS:aa)(bs qs:List Str)(vs:List V)(H:Hp)(Q:VK)(_e:XK):Prop where
 |mk(H0:Hp)(L:Lay)(h:Ev)(ds:List Int)(w:Wk)(x:Str)(_:vs=[.ref L.d,.str x])(_:Dg CD CS bs qs H0 H L h ds w)(_:x∈qs)(_:∀G' l,Dg CD CS bs qs H0 G' L h ds {w with qn:=mE w.qn x}->L.qa.lookup x=Z8 l->G' l=Z8 (.lst ((jG w.qu x).map V.int))->Q (.ref l) G'):Hl CD CS bs qs vs H Q _e
def Hm(CD CS:aa)(bs qs:List Str):Sp:=fun vs H Q Z=>Hl CD CS bs qs vs H Q Z
theorem scQo:bK ["self","name"] ["self","name"] (aN eS):={}
theorem Hn(M:Mt K CD "queue_of" "Doing.queue_of" eS ["self","name"] f fd)(T:DT K mg CD)(Y:MdT K mg CM CS):bh P w K mg base CX0 1 f fd ["self","name"] (Hm CD CS bs qs):=by
 refine M.F.ok scQo (fun vs H Q E h=>?_) (fun V A outer s H vs Q E J h=>?_)
 ·obtain⟨H0,L,e,ds,w,x,rfl,_⟩:=h;rfl
 obtain⟨H0,L,e,ds,w,x,rfl,g,hx,q⟩:=h;have W:=lQ J;refine{_,ai (kK W (cO (pv 0) rfl) (pv 1) lO rfl) (aA (bJ (qy W (cO (cO (pv 0) rfl) rfl) (pv 1) (fun _ _=>rfl)))),?_};have Z:=g.queued (x:=x) (bC _ hx);obtain⟨l,O,I,U⟩:=Z.getL hx;refine{_,Z9,L.d,CD,L.dx,_,_,Z9,g.hd,T.cl,T.nQ,dF_u _ _ _ _ _ _ _ _,_,Z9,L.ud,_,Z9,g.putU x,?_};exact{_,Z9,L.d,CD,L.dx,_,_,Z9,Z.hd,T.cl,T.nS,xb _ _ _ _ _ _ _ _,L.st,CS,L.dxs,_,_,Z9,Z.hst,Y.clS,Y.nQ,JI _ _ _ _,_,Z9,L.qd,_,Z9,U,q _ l Z O I}
inductive Cf(CD CS:aa)(bs qs:List Str)(vs:List V)(H:Hp)(Q:VK)(_e:XK):Prop where
 |mk(H0:Hp)(L:Lay)(h:Ev)(ds:List Int)(w:Wk)(x:Str)(n:Int)(_:vs=[.ref L.d,.str x,.int n])(_:Dg CD CS bs qs H0 H L h ds w)(_:x∈bs)(_:Wo n)(_:∀G',Dg CD CS bs qs H0 G' L h ds (GZ w x n)->Q .non G'):Cf CD CS bs qs vs H Q _e
def yF(CD CS:aa)(bs qs:List Str):Sp:=fun vs H Q Z=>Cf CD CS bs qs vs H Q Z
theorem scFl:bK ["self","box","worth"] ["self","box","worth"] (aN gN):={}
theorem yG(M:Mt K CD "fill" "Doing.fill" gN ["self","box","worth"] f fd)(T:DT K mg CD)(Y:MdT K mg CM CS):bh P w K mg base CX0 1 f fd ["self","box","worth"] (yF CD CS bs qs):=by
 refine M.F.ok scFl (fun vs H Q E h=>?_) (fun V A outer s H vs Q E O h=>?_)
 ·obtain⟨H0,L,e,ds,w,x,n,rfl,_⟩:=h;rfl
 obtain⟨H0,L,e,ds,w,x,n,rfl,g,hx,U,q⟩:=h;have W:=lQ O;refine{_,ai (kK W (cO (cO (pv 0) rfl) rfl) (pv 1) (pv 2) rfl) (aA (kK W (cO (pv 0) rfl) (pv 1) lO rfl)),?_};have Z:=g.box (x:=x) U;have J:=Z.wrote (x:=x) (gU _ hx);refine{_,Z9,_,Z9,L.d,CD,L.dx,_,_,Z9,g.hd,T.cl,T.nS,xb _ _ _ _ _ _ _ _,L.st,CS,L.dxs,_,_,Z9,g.hst,Y.clS,Y.nB,JH _ _ _ _,_,Z9,L.bd,_,Z9,g.putB hx,?_};exact{_,Z9,L.d,CD,L.dx,_,_,Z9,Z.hd,T.cl,T.nW,Ha _ _ _ _ _ _ _ _,_,Z9,L.wd,_,Z9,Z.putW x,q _ J}
inductive Cg(cf:Flt->aa)(CD CS:aa)(bs qs:List Str)(vs:List V)(H:Hp)(Q:VK)(E:XK):Prop where
 |mk(H0:Hp)(L:Lay)(h:Ev)(ds:List Int)(w:Wk)(x:Str)(v:V)(F:Fm)(_:vs=[.ref L.d,.str x,v])(_:Dg CD CS bs qs H0 H L h ds w)(_:x∈qs)(_:FmI bs qs H0 v F)(_:w.len<400000)(_:tK cf (fun w' G'=>Dg CD CS bs qs H0 G' L h ds w') H0 (w.len+4) (doD h ds (.push x F) w) Q E):Cg cf CD CS bs qs vs H Q E
def Bi(cf:Flt->aa)(CD CS:aa)(bs qs:List Str):Sp:=fun vs H Q E=>Cg cf CD CS bs qs vs H Q E
theorem Ni:bK ["doing","name","formula","worth","queue"] ["doing","name","formula"] (aN mY):={}
theorem yH(D:Df K mg "do_push" mY ["doing","name","formula"] f fd)(J:Mt K CD "reckon" "Doing.reckon" e8 ["self","formula"] fR fdR)(GR:bh P w K mg base (CXo P w) 18 fR fdR ["self","formula"] (tL cf CD CS bs qs))(O:Mt K CD "queue_of" "Doing.queue_of" eS ["self","name"] fQ fdQ)(T:DT K mg CD)(I:Hh K mg cf)(TM:MdT K mg CM CS)(B:Bl mg) :
  bh P w K mg base (CXo P w) 19 f fd ["doing","name","formula"] (Bi cf CD CS bs qs):=by
 have GQ:bh P w K mg base CX0 1 fQ fdQ ["self","name"] (Hm CD CS bs qs):=Hn O T TM;refine D.F.okX Ni (fun vs H Q E h=>?_) (fun bz A outer s H vs Q E W h=>?_)
 ·obtain⟨H0,L,e,ds,w,x,v,F,rfl,_⟩:=h;rfl
 obtain⟨H0,L,e,ds,w,x,v,F,rfl,g,hx,t,fw,p⟩:=h;have hu:=lQ W;have r1:cZ 1 _:=W.mono (by omega);refine⟨_,ai (bM (i:=3) Ni.nd rfl (Or.inl rfl) (fZ (pv 0) T.cl J.m GR W J.b .nil (dW.passes fun _ _ _ z=>z) (ak (pv 2) aj)))
  (ai (bM (i:=4) Ni.nd rfl (Or.inl rfl) (fZ (pv 0) T.cl O.m GQ r1 O.b .nil aY (ak (pv 1) aj)))
  (ai (cN (bP Fi (cT ij (by rfl) B.len cy (ak (pv 4) aj)) aw (bV _)) (aA (j8 dW rfl rfl I.mF I.xF (ak cg aj))) bZ)
  (ai (dU (oQ bE dD dE iO (pv 4) (ak (pv 3) aj)))
  (aA (kK hu (cO (pv 0) rfl) (pv 1) lO rfl))))),?_⟩
 simp only[doD]at p;refine{_,Z9,L.d,L.dx,_,Z9,g.hd,oS _ _ _ _ _ _ _ _ (by decide +kernel),_,Z9,H0,L,e,ds,w,v,F,Z9,g,t,fw,fun G0 Y=>?_};refine lB p Y.sm fun n en p=>?_;dsimp only at p;refine{_,Z9,L.d,L.dx,_,Z9,Y.hd,oS _ _ _ _ _ _ _ _ (by decide +kernel),_,Z9,H0,L,e,ds,_,x,Z9,Y,hx,fun G1 l Z hl U=>?_};refine{_,Z9,l,_,Z9,.inl (SqL.of U),_,_,Z9,Z9,_,Z9,gp (fun c=>?_) (fun c=>?_)}
 ·have c:(30:Int)<=((((jG w.qu x).map V.int).length:Nat):Int):=kg c;rw[aq]at c;rw[if_pos (by omega)]at p;exact{(by show 1<=aC;decide),p _ Z.sm}
 ·have c:¬(30:Int)<=((((jG w.qu x).map V.int).length:Nat):Int):=kH c;rw[aq]at c;rw[if_neg (by omega)]at p;have wn:Wo n:=uh Z.asks (t.1.same Z.sm) en;have gq:=yE Z.ok hx;have M:=Z.queue (x:=x) (l:=l) (ns:=jG w.qu x++[n]) hl (by rw[ay];simp only[aU,cH];omega) (fun m hm=>by
   rcases cv.mp hm with z|z
   ·exact gq.2 m z
   ·rw[aE.mp z];exact wn)
  have g3:=M.wrote (x:=x) (bC _ hx);have lt:((jG w.qu x).map V.int).length<aC:=by
   rw[aq];have:=dZ;omega
  refine{_,Z9,.inl {Z9,_,SqL.of U},_,Z9,l,_,_,Z9,Z9,U,lt,?_};have eq:(jG w.qu x).map V.int++[V.int n]=(jG w.qu x++[n]).map V.int:=by rw[bT];rfl
  rw[eq];exact{_,Z9,L.d,CD,L.dx,_,_,Z9,M.hd,T.cl,T.nW,Ha _ _ _ _ _ _ _ _,_,Z9,L.wd,_,Z9,M.putW x,p _ g3 (Bh (w:=w) (F:=F))}
end
theorem Ho(ds:List Int)(i:Nat)(h:i<ds.length):(ds.map V.int)[i]?=Z8 (.int (ds.getD i 0)):=by
 rw[cm,aO h,dR,aO h];rfl
section
variable{P:aL}{w:bA}{K:af}{mg:Str->Option ae}{base:cu}{f fN fR fF CD CS CM:aa}{fd fdN fdR fdF:bS}{cf:Flt->aa}{bs qs:List Str}
inductive zZ(cf:Flt->aa)(CD CS:aa)(bs qs:List Str)(vs:List V)(H:Hp)(Q:VK)(E:XK):Prop where
 |mk(H0:Hp)(L:Lay)(h:Ev)(ds:List Int)(w:Wk)(x:Str)(v:V)(F:Fm)(_:vs=[.ref L.d,.str x,v])(_:Dg CD CS bs qs H0 H L h ds w)(_:x∈bs)(_:FmI bs qs H0 v F)(_:w.len<400000)(_:tK cf (fun w' G'=>Dg CD CS bs qs H0 G' L h ds w') H0 (w.len+4) (doD h ds (.draw x F) w) Q E):zZ cf CD CS bs qs vs H Q E
def yI(cf:Flt->aa)(CD CS:aa)(bs qs:List Str):Sp:=fun vs H Q E=>zZ cf CD CS bs qs vs H Q E
theorem JN:bK ["doing","box","formula","divisor","draws","draw"] ["doing","box","formula"] (aN m5):={}
theorem vS(D:Df K mg "do_draw" m5 ["doing","box","formula"] f fd)(J:Mt K CD "reckon" "Doing.reckon" e8 ["self","formula"] fR fdR)(GR:bh P w K mg base (CXo P w) 18 fR fdR ["self","formula"] (tL cf CD CS bs qs))(O:Mt K CD "fill" "Doing.fill" gN ["self","box","worth"] fF fdF)(T:DT K mg CD)(U:Hh K mg cf)(W:MdT K mg CM CS)(B:Bl mg) :
  bh P w K mg base (CXo P w) 19 f fd ["doing","box","formula"] (yI cf CD CS bs qs):=by
 have GF:bh P w K mg base CX0 1 fF fdF ["self","box","worth"] (yF CD CS bs qs):=yG O T W;refine D.F.okX JN (fun vs H Q E h=>?_) (fun bH A outer s H vs Q E M h=>?_)
 ·obtain⟨H0,L,e,ds,w,x,v,F,rfl,_⟩:=h;rfl
 obtain⟨H0,L,e,ds,w,x,v,F,rfl,g,hx,hF,fw,p⟩:=h;have r1:cZ 1 _:=M.mono (by omega);refine⟨_,ai (bM (i:=3) JN.nd rfl (Or.inl rfl) (fZ (pv 0) T.cl J.m GR M J.b .nil (dW.passes fun _ _ _ z=>z) (ak (pv 2) aj)))
  (ai (cN (bP qI (pv 3) aw (bV _)) (aA (j8 dW rfl rfl U.two.mN U.two.xN (ak cg aj))) bZ)
  (ai (bM (i:=4) JN.nd rfl (Or.inl rfl) (bX cD (cO (pv 0) rfl) aw (fun _ _=>rfl)))
  (ai (cN (AB (vz (pv 4) (fun _=>rfl))) (aA (j8 dW rfl rfl U.mD U.xD (ak cg aj))) bZ)
  (ai (bM (i:=5) JN.nd rfl (Or.inl rfl) (bX dQ (pv 4) (cQ qU (cO (cO (pv 0) rfl) rfl) (cT ij (by rfl) B.len cy (ak (pv 4) aj))) (fun _ _=>rfl)))
  (ai (xl (cO (pv 0) rfl) aw Fo)
  (aA (dU (fZ (pv 0) T.cl O.m GF r1 O.b .nil aY (ak (pv 1) (ak (cQ qU (pv 5) (pv 3)) aj)))))))))),?_⟩
 simp only[doD]at p;refine{_,Z9,L.d,L.dx,_,Z9,g.hd,oS _ _ _ _ _ _ _ _ (by decide +kernel),_,Z9,H0,L,e,ds,w,v,F,Z9,g,hF,fw,fun G1 Z=>?_};refine lB p Z.sm fun n en p=>?_;refine{_,Z9,_,_,Z9,Z9,_,Z9,gp (fun c=>?_) (fun c=>?_)}
 ·rw[if_pos (kg c)]at p;exact{(by show 1<=aC;decide),p _ Z.sm}
 have c:¬n<1:=kH c;rw[if_neg c]at p;obtain⟨t,x1,x2,x3,x4,I,em,hm,hdl⟩:=Z.hm;refine{_,Z9,L.d,CD,L.dx,_,_,Z9,Z.hd,T.cl,T.nM,M9 _ _ _ _ _ _ _ _,t,_,_,_,em,Z9,SqT.of (Z.sm _ _ hm),Z9,?_};have Y:=Z.sm _ _ hdl;refine{_,Z9,_,.inl {_,SqL.of Y,Z9},?_}
 cases hds:ds with
 |nil=>
  rw[hds]at p;refine ja ?_;exact{(by show 1<=aC;decide),p _ Z.sm}
 |cons d0 dr=>
  rw[<- hds];have ne:¬ds=[]:=by rw[hds];intro z;cases z
  have pos:0<ds.length:=by rw[hds];exact p8 _
  rw[if_neg ne]at p;have nb:(!(!(ds.map V.int).isEmpty))=false:=by rw[hds];rfl
  rw[nb];refine gf ?_;have lt:w.dr%ds.length<ds.length:=Nat.mod_lt _ pos;have ix:atI (ds.map V.int) ((w.dr:Int)%(((ds.map V.int).length:Nat):Int))=Z8 (.int (ds.getD (w.dr%ds.length) 0)):=by
   rw[aq,<- Int.natCast_emod];exact jU (Ho ds _ lt)
  refine{_,Z9,_,Z9,L.d,CD,L.dx,_,_,Z9,Z.hd,T.cl,T.nS,xb _ _ _ _ _ _ _ _,L.st,CS,L.dxs,_,_,Z9,Z.hst,W.clS,W.nD,Nf _ _ _ _,_,Z9,I,_,Z9,.inl (SqL.of Y),_,_,Z9,Z9,(by rw[aq];omega),I,_,_,_,Z9,Z9,SqL.of Y,ix,?_};refine{_,Z9,L.d,CD,L.dx,_,_,Z9,Z.hd,T.cl,T.nS,xb _ _ _ _ _ _ _ _,L.st,CS,L.dxs,_,_,Z9,Z.hst,W.clS,W.nD,Nf _ _ _ _,_,_,Z9,Z9,L.dxs,_,Z.hst,Hc _ _ _ _,?_};rw[Nc];have g2:=Z.counts (w.dr+1) w.se;have wn:Wo n:=uh Z.asks (hF.1.same Z.sm) en;have wm:Wo (ds.getD (w.dr%ds.length) 0%n):=by
   have a1:=lC (ds.getD (w.dr%ds.length) 0) (show n≠0 by omega);have a2:=jz (ds.getD (w.dr%ds.length) 0) (show 0<n by omega);unfold Wo at wn |-;omega
  exact{_,Z9,L.d,L.dx,_,Z9,g2.hd,oS _ _ _ _ _ _ _ _ (by decide +kernel),_,Z9,_,Z9,_,Z9,_,_,Z9,Z9,(by omega),H0,L,e,ds,_,x,_,Z9,g2,hx,wm,fun G' g3=>p G' g3 (Bh (w:=w) (F:=F))}
inductive Cj(cf:Flt->aa)(CD CS:aa)(bs qs:List Str)(vs:List V)(H:Hp)(Q:VK)(E:XK):Prop where
 |mk(H0:Hp)(L:Lay)(h:Ev)(ds:List Int)(w:Wk)(t:aa)(u u1 u2:V)(to:Int)(sg:Str)(rk:Int)(F F1 F2:Fm)(_:vs=[.ref L.d,.ref t])(_:Dg CD CS bs qs H0 H L h ds w)(_:H0 t=Z8 (.tup [.str "send",.int to,.str sg,u,.int rk,u1,u2]))(_:FmI bs qs H0 u F)(_:FmI bs qs H0 u1 F1)(_:FmI bs qs H0 u2 F2)(_:w.len+4<400000)(_:tK cf (fun w' G'=>Dg CD CS bs qs H0 G' L h ds w') H0 (w.len+4) (doD h ds (.send to sg F rk F1 F2) w) Q E):Cj cf CD CS bs qs vs H Q E
def Bj(cf:Flt->aa)(CD CS:aa)(bs qs:List Str):Sp:=fun vs H Q E=>Cj cf CD CS bs qs vs H Q E
theorem En:bK ["doing","deed","span","first","second","when","key"] ["doing","deed"] (aN m7):={}
theorem yJ(D:Df K mg "do_send" m7 ["doing","deed"] f fd)(V:Mt K CD "reckon" "Doing.reckon" e8 ["self","formula"] fR fdR)(GR:bh P w K mg base (CXo P w) 18 fR fdR ["self","formula"] (tL cf CD CS bs qs))(MN:Mt K CD "now" "Doing.now" jj ["self"] fN fdN)(T:DT K mg CD)(TF:Hh K mg cf)(TM:MdT K mg CM CS)(B:Bl mg) :
  bh P w K mg base (CXo P w) 19 f fd ["doing","deed"] (Bj cf CD CS bs qs):=by
 have GN:bh P w K mg base CX0 1 fN fdN ["self"] (Hj CD CS bs qs):=Hk MN T;refine D.F.okX En (fun vs H Q E h=>?_) (fun da A outer s H vs Q E hr h=>?_)
 ·obtain⟨H0,L,e,ds,w,t,u,u1,u2,to,sg,rk,F,F1,F2,rfl,_⟩:=h;rfl
 obtain⟨H0,L,e,ds,w,t,u,u1,u2,to,sg,rk,F,F1,F2,rfl,g,ht,hF,I,M,lo,p⟩:=h;have r1:cZ 1 _:=hr.mono (by omega);refine⟨_,ai (bM (i:=2) En.nd rfl (Or.inl rfl) (fZ (pv 0) T.cl V.m GR hr V.b .nil (dW.passes fun _ _ _ z=>z) (ak (bX cD (pv 1) aw (fun _ _=>rfl)) aj)))
  (ai (cN (E7 (bP qI (pv 2) aw (bV _)) (AA (bP vx (pv 2) (cQ sQ aw aw) (bV _)))).pt (aA (j8 dW rfl rfl TF.mS TF.xS (ak cg aj))) bZ)
  (ai (bM (i:=3) En.nd rfl (Or.inl rfl) (fZ (pv 0) T.cl V.m GR hr V.b .nil (dW.passes fun _ _ _ z=>z) (ak (bX cD (pv 1) aw (fun _ _=>rfl)) aj)))
  (ai (bM (i:=4) En.nd rfl (Or.inl rfl) (fZ (pv 0) T.cl V.m GR hr V.b .nil (dW.passes fun _ _ _ z=>z) (ak (bX cD (pv 1) aw (fun _ _=>rfl)) aj)))
  (ai (bM (i:=5) En.nd rfl (Or.inl rfl) (cQ gQ (gB (pv 0) T.cl MN.m GN r1 MN.b .nil aY) (pv 2)))
  (ai (cN (bP vx (pv 5) (cQ sQ aw aw) (bV _)) (aA (j8 dW rfl rfl TF.mL TF.xL (ak cg aj))) bZ)
  (ai (bM (i:=6) En.nd rfl (Or.inl rfl) (eg (ak (pv 5) (ak (bX cD (pv 1) aw (fun _ _=>rfl)) (ak (bX cD (cO (pv 0) rfl) aw (fun _ _=>rfl)) (ak (cO (cO (pv 0) rfl) rfl) aj))))))
  (ai (xl (cO (pv 0) rfl) aw Fo)
  (aA (dU (oQ bE dD dE iO (cO (pv 0) rfl) (ak (eg (ak (pv 6) (ak (bX cD (pv 1) aw (fun _ _=>rfl)) (ak (bX cD (pv 1) aw (fun _ _=>rfl)) (ak (pv 3) (ak (pv 4) aj)))))) aj))))))))))),?_⟩
 simp only[doD]at p;have f0:w.len<400000:=by omega
 have f1:Wk.len {w with rk:=w.rk++[F]}<400000:=by
  show w.out.length+(w.rk++[F]).length<400000;rw[ay];have:w.out.length+w.rk.length+4<400000:=lo;show _+(_+1)<_;omega
 have f2:Wk.len {w with rk:=w.rk++[F]++[F1]}<400000:=by
  show w.out.length+(w.rk++[F]++[F1]).length<400000;rw[ay,ay];have:w.out.length+w.rk.length+4<400000:=lo;show _+(_+1+1)<_;omega
 have l1:1<=aC:=by decide
 have c6:Dz 10 6:={by decide,by decide,by decide};have dc:Dz 10 12:={by decide,by decide,by decide};have O:∀{G:Hp},aT H0 G->SqT K G t [.str "send",.int to,.str sg,u,.int rk,u1,u2]:=fun {G} z=>SqT.of (z _ _ ht);refine{_,Z9,L.d,L.dx,_,Z9,g.hd,oS _ _ _ _ _ _ _ _ (by decide +kernel),_,Z9,t,_,_,_,Z9,Z9,O g.sm,Z9,H0,L,e,ds,w,u,F,Z9,g,hF,f0,fun G1 Y=>?_};refine lB p Y.sm fun n en p=>?_;refine{_,Z9,_,_,Z9,Z9,_,Z9,gp (fun c=>?_) (fun c=>?_)}
 ·rw[if_pos (.inl (kg c))]at p;exact ja {l1,p _ Y.sm}
 have c:¬n<1:=kH c;refine{_,Z9,_,_,Z9,Z9,c6,_,_,Z9,Z9,_,Z9,gp (fun c2=>?_) (fun c2=>?_)}
 ·rw[if_pos (.inr (kg c2))]at p;exact{l1,p _ Y.sm}
 have c2:¬10^6<n:=kH c2;rw[if_neg (fun z=>z.elim c c2)]at p;refine{_,Z9,L.d,L.dx,_,Z9,Y.hd,oS _ _ _ _ _ _ _ _ (by decide +kernel),_,Z9,t,_,_,_,Z9,Z9,O Y.sm,Z9,H0,L,e,ds,_,u1,F1,Z9,Y,I,f1,fun G2 U=>?_};refine lB p U.sm fun n1 dg p=>?_;refine{_,Z9,L.d,L.dx,_,Z9,U.hd,oS _ _ _ _ _ _ _ _ (by decide +kernel),_,Z9,t,_,_,_,Z9,Z9,O U.sm,Z9,H0,L,e,ds,_,u2,F2,Z9,U,M,f2,fun G3 Z=>?_};refine lB p Z.sm fun n2 di p=>?_;refine{_,Z9,L.d,L.dx,_,Z9,Z.hd,oS _ _ _ _ _ _ _ _ (by decide +kernel),H0,L,e,ds,_,Z9,Z,_,Z9,_,_,Z9,Z9,?_};refine{_,Z9,_,_,Z9,Z9,dc,_,_,Z9,Z9,_,Z9,gp (fun c3=>?_) (fun c3=>?_)}
 ·rw[if_pos (show 10^12<e.t+n from kg c3)]at p;exact{l1,p _ Z.sm}
 rw[if_neg (show ¬10^12<e.t+n from kH c3)]at p;obtain⟨th,kh,eh,h1,h2⟩:=Z.hh;refine{_,Z9,_,Z9,t,_,_,_,Z9,Z9,O Z.sm,Z9,_,Z9,L.d,CD,L.dx,_,_,Z9,Z.hd,T.cl,T.nH,JG _ _ _ _ _ _ _ _,th,_,_,_,eh,Z9,SqT.of (Z.sm _ _ h1),Z9,_,Z9,L.d,CD,L.dx,_,_,Z9,Z.hd,T.cl,T.nS,xb _ _ _ _ _ _ _ _,L.st,CS,L.dxs,_,_,Z9,Z.hst,TM.clS,TM.nS,Ng _ _ _ _,(by show 4<=aC;decide),fun W hk=>?_};have s4:=aD hk (.tup [.int (e.t+n),.int rk,.int e.to,.int w.se]);have g4:=Z.same s4;refine{_,Z9,L.d,CD,L.dx,_,_,Z9,g4.hd,T.cl,T.nS,xb _ _ _ _ _ _ _ _,L.st,CS,L.dxs,_,_,Z9,g4.hst,TM.clS,TM.nS,Ng _ _ _ _,_,_,Z9,Z9,L.dxs,_,g4.hst,Hc _ _ _ _,?_};rw[Nd];have J:=g4.counts w.dr (w.se+1);have db:∀{G:Hp} {o o':HO},G W=Z8 (.tup [.int (e.t+n),.int rk,.int e.to,.int w.se])->G L.st=Z8 o'->(∀xs,o'≠.tup xs)->upd G L.st o W=Z8 (.tup [.int (e.t+n),.int rk,.int e.to,.int w.se]):=fun h1 h2 h3=>aP h1 (oK h1 h2 (fun z=>h3 _ z.symm));have k5:=db (o:=.ins CS L.dxs (kL (.ref L.bd) (.ref L.qd) (.int w.dr) (.int (w.se+1)))) (ag:upd G3 W _ W=_) g4.hst (fun xs z=>by cases z);obtain⟨vs,o1,o2⟩:=J.ho;refine{_,Z9,L.d,CD,L.dx,_,_,Z9,J.hd,T.cl,T.nO,dF_o _ _ _ _ _ _ _ _,.inl {Z9,_,SqL.of o1},?_};refine{_,Z9,_,Z9,t,_,_,_,Z9,Z9,O J.sm,Z9,_,Z9,t,_,_,_,Z9,Z9,O J.sm,Z9,_,Z9,_,Z9,lt5,fun ev de=>?_};have s6:=aD de (.tup [.ref W,.int to,.str sg,.int n1,.int n2]);have g6:=J.same s6;have ol:vs.length<aC:=by
  have:=aV o2;have z:vs.length=w.out.length:=this;have:400000<aC:=by decide
  have:w.out.length+w.rk.length+4<400000:=lo;omega
 refine{L.od,vs,_,Z9,Z9,s6 _ _ o1,ol,?_};have g7:=g6.sent (v:=.ref ev) (e:={e.t+n,rk,e.to,w.se,to,sg,n1,n2}) (s6 _ _ o1) {ev,W,Z9,ag,s6 _ _ k5} {uh Y.asks (I.1.same Y.sm) dg,uh U.asks (M.1.same U.sm) di};exact p _ g7 (JK (w:=w) (F:=F) (F1:=F1) (F2:=F2))
end
mutual
def Dd.size:Dd->Nat
 |.pull _ _ o=>o.size+1
 |.ife _ t e=>t.size+e.size+1
 |_=>1
def Ds.size:Ds->Nat
 |.nil=>0
 |.cons d r=>d.size+r.size
end
theorem tK.le{cf:Flt->aa}{Z:Wk->Hp->Prop}{H0:Hp}{m n:Nat}{r:Except Flt Wk}{Q:VK}{E:XK}(p:tK cf Z H0 n r Q E)(h:m<=n):tK cf Z H0 m r Q E:=by
 cases r with
 |ok w=>exact fun G g l=>p G g (cY l h)
 |error e=>exact p
section
variable{P:aL}{w:bA}{K:af}{mg:Str->Option ae}{base:cu}{f fR fF fP fD fU fW fS f1 fQ CD CS CM:aa}{fd fdR fdF fdP fdD fdU fdW fdS fd1 fdQ:bS}{cf:Flt->aa}{bs qs:List Str}
inductive Hq(cf:Flt->aa)(CD CS:aa)(bs qs:List Str)(n:Nat)(vs:List V)(H:Hp)(Q:VK)(E:XK):Prop where
 |mk(H0:Hp)(L:Lay)(h:Ev)(ds:List Int)(w:Wk)(v:V)(D:Ds)(_:vs=[.ref L.d,v])(_:Dg CD CS bs qs H0 H L h ds w)(_:lX H0 (fc bs qs H0 D) v)(_:D.deep<n)(_:w.len+4*D.size<400000)(_:tK cf (fun w' G'=>Dg CD CS bs qs H0 G' L h ds w') H0 (w.len+4*D.size) (doS h ds D w) Q E):Hq cf CD CS bs qs n vs H Q E
def vT(cf:Flt->aa)(CD CS:aa)(bs qs:List Str)(n:Nat):Sp:=fun vs H Q E=>Hq cf CD CS bs qs n vs H Q E
inductive Lb(cf:Flt->aa)(CD CS:aa)(bs qs:List Str)(n:Nat)(vs:List V)(H:Hp)(Q:VK)(E:XK):Prop where
 |mk(H0:Hp)(L:Lay)(h:Ev)(ds:List Int)(w:Wk)(v:V)(D:Dd)(_:vs=[.ref L.d,v])(_:Dg CD CS bs qs H0 H L h ds w)(_:eG bs qs H0 D v)(_:D.deep<n)(_:w.len+4*D.size<400000)(_:tK cf (fun w' G'=>Dg CD CS bs qs H0 G' L h ds w') H0 (w.len+4*D.size) (doD h ds D w) Q E):Lb cf CD CS bs qs n vs H Q E
def spDd(cf:Flt->aa)(CD CS:aa)(bs qs:List Str)(n:Nat):Sp:=fun vs H Q E=>Lb cf CD CS bs qs n vs H Q E
inductive Ck(cf:Flt->aa)(CD CS:aa)(bs qs:List Str)(n:Nat)(vs:List V)(H:Hp)(Q:VK)(E:XK):Prop where
 |mk(H0:Hp)(L:Lay)(h:Ev)(ds:List Int)(w:Wk)(q x:Str)(v:V)(D:Ds)(_:vs=[.ref L.d,.str q,.str x,v])(_:Dg CD CS bs qs H0 H L h ds w)(_:q∈qs)(_:x∈bs)(_:lX H0 (fc bs qs H0 D) v)(_:D.deep<n)(_:w.len+4*D.size<400000)(_:tK cf (fun w' G'=>Dg CD CS bs qs H0 G' L h ds w') H0 (w.len+4*D.size) (doD h ds (.pull q x D) w) Q E):Ck cf CD CS bs qs n vs H Q E
def Hr(cf:Flt->aa)(CD CS:aa)(bs qs:List Str)(n:Nat):Sp:=fun vs H Q E=>Ck cf CD CS bs qs n vs H Q E
theorem scPl:bK ["doing","name","box","otherwise","queue"] ["doing","name","box","otherwise"] (aN mZ):={}
theorem JO{n k:Nat}(hk:1<=k)(D:Df K mg "do_pull" mZ ["doing","name","box","otherwise"] f fd)(O:Df K mg "do_deeds" iJ ["doing","deeds"] fD fdD)(GD:bh P w K mg base (CXo P w) k fD fdD ["doing","deeds"] (vT cf CD CS bs qs n))(J:Mt K CD "fill" "Doing.fill" gN ["self","box","worth"] fF fdF)(M:Mt K CD "queue_of" "Doing.queue_of" eS ["self","name"] fQ fdQ)(T:DT K mg CD)(TM:MdT K mg CM CS) :
  bh P w K mg base (CXo P w) (k+1) f fd ["doing","name","box","otherwise"] (Hr cf CD CS bs qs n):=by
 have GF:bh P w K mg base CX0 1 fF fdF ["self","box","worth"] (yF CD CS bs qs):=yG J T TM;have GQ:bh P w K mg base CX0 1 fQ fdQ ["self","name"] (Hm CD CS bs qs):=Hn M T TM;refine D.F.okX scPl (fun vs H Q E h=>?_) (fun bB A outer s H vs Q E U h=>?_)
 ·obtain⟨H0,L,e,ds,w,q,x,v,D,rfl,_⟩:=h;rfl
 obtain⟨H0,L,e,ds,w,q,x,v,D,rfl,g,hq,hx,hv,hn,ho,p⟩:=h;have t:cZ 1 _:=U.mono hk;have hu:=lQ U;refine⟨_,ai (bM (i:=4) scPl.nd rfl (Or.inl rfl) (fZ (pv 0) T.cl M.m GQ t M.b .nil aY (ak (pv 1) aj)))
  (aA (cN (vz (pv 4) (fun _=>rfl))
   (ai (dU (fZ (pv 0) T.cl J.m GF t J.b .nil aY (ak (pv 2) (ak (oQ bE zl zm Fz (pv 4) (ak aw aj)) aj))))
   (aA (kK hu (cO (pv 0) rfl) (pv 1) lO rfl)))
   (aA (dU (aM GD U rfl O.m O.F.kp O.b .nil (dW.passes fun _ _ _ z=>z) (ak (pv 0) (ak (pv 3) aj))))))),?_⟩
 simp only[doD]at p;refine{_,Z9,L.d,L.dx,_,Z9,g.hd,oS _ _ _ _ _ _ _ _ (by decide +kernel),_,Z9,H0,L,e,ds,w,q,Z9,g,hq,fun G0 l W hl Y=>?_};refine{_,Z9,_,.inl {_,SqL.of Y,Z9},?_};have Z:(jG w.qu q).length<=30/\∀n∈jG w.qu q,Wo n:=yE g.ok hq
 cases e1:jG w.qu q with
 |nil=>
  rw[e1]at p;refine gf ?_;exact{_,Z9,_,Z9,H0,L,e,ds,_,v,D,Z9,W,hv,hn,ho,p}
 |cons m ms=>
  rw[e1]at p Y Z;refine ja ?_;have g1:=W.queue (x:=q) (l:=l) (ns:=ms) hl (by have:=Z.1;rw[aU]at this;omega) (fun z hz=>Z.2 z (ah _ hz));refine{_,Z9,L.d,L.dx,_,Z9,W.hd,oS _ _ _ _ _ _ _ _ (by decide +kernel),_,Z9,_,Z9,.inl {Z9,_,SqL.of Y},l,_,_,0,.int m,Z9,Z9,Y,(by decide),(by decide),(ym (n:=((m::ms).map V.int).length) (i:=0) (j:=0) (by unfold ixN;rw[if_pos (by decide),if_pos (by rw[aq,aU];omega)];rfl)).1,Z9,?_};refine{H0,L,e,ds,_,x,m,Z9,g1,hx,Z.2 m ax,fun G2 I=>?_};have g3:=I.wrote (x:=q) (bC _ hq);exact{_,Z9,L.d,CD,L.dx,_,_,Z9,I.hd,T.cl,T.nW,Ha _ _ _ _ _ _ _ _,_,Z9,L.wd,_,Z9,I.putW q,p _ g3 (vU _ _)}
theorem scDd:bK ["doing","deed","kind"] ["doing","deed"] (aN mX):={}
theorem JP{n k:Nat}(hk:19<=k)(D:Df K mg "do_deed" mX ["doing","deed"] f fd)(DD:Df K mg "do_deeds" iJ ["doing","deeds"] fD fdD)(GD:bh P w K mg base (CXo P w) k fD fdD ["doing","deeds"] (vT cf CD CS bs qs n))
  (MF:Mt K CD "fill" "Doing.fill" gN ["self","box","worth"] fF fdF) (MR:Mt K CD "reckon" "Doing.reckon" e8 ["self","formula"] fR fdR) (GR:bh P w K mg base (CXo P w) 18 fR fdR ["self","formula"] (tL cf CD CS bs qs))
  (DP:Df K mg "do_pull" mZ ["doing","name","box","otherwise"] fP fdP) (DU:Df K mg "do_push" mY ["doing","name","formula"] fU fdU) (GU:bh P w K mg base (CXo P w) 19 fU fdU ["doing","name","formula"] (Bi cf CD CS bs qs))
  (DW:Df K mg "do_draw" m5 ["doing","box","formula"] fW fdW) (GW:bh P w K mg base (CXo P w) 19 fW fdW ["doing","box","formula"] (yI cf CD CS bs qs)) (DS:Df K mg "do_send" m7 ["doing","deed"] fS fdS) (GS:bh P w K mg base (CXo P w) 19 fS fdS ["doing","deed"] (Bj cf CD CS bs qs)) (MQ:Mt K CD "queue_of" "Doing.queue_of" eS ["self","name"] fQ fdQ) (T:DT K mg CD) (TM:MdT K mg CM CS) :
  bh P w K mg base (CXo P w) (k+2) f fd ["doing","deed"] (spDd cf CD CS bs qs (n+1)):=by
 have GF:bh P w K mg base CX0 1 fF fdF ["self","box","worth"] (yF CD CS bs qs):=yG MF T TM;have GP:bh P w K mg base (CXo P w) (k+1) fP fdP ["doing","name","box","otherwise"] (Hr cf CD CS bs qs n):=JO (by omega) DP DD GD MF MQ T TM;refine D.F.okX scDd (fun vs H Q E h=>?_) (fun cr A outer s H vs Q E J h=>?_)
 ·obtain⟨H0,L,e,ds,w,v,D,rfl,_⟩:=h;rfl
 obtain⟨H0,L,e,ds,w,v,D,rfl,g,M,hn,ho,p⟩:=h;have r1:cZ 1 _:=J.mono (by omega);have da:cZ 18 _:=J.mono (by omega);have U:cZ 19 _:=J.mono (by omega);have rk:cZ k _:=J.mono (by omega);refine⟨_,ai (bM (i:=2) scDd.nd rfl (Or.inl rfl) (bX cD (pv 1) aw (fun _ _=>rfl)))
  (aA (cN (bP eW (pv 2) cg (bV _)) (aA (dU (fZ (pv 0) T.cl MF.m GF r1 MF.b .nil aY (ak (bX cD (pv 1) aw (fun _ _=>rfl)) (ak (fZ (pv 0) T.cl MR.m GR da MR.b .nil (dW.passes fun _ _ _ z=>z) (ak (bX cD (pv 1) aw (fun _ _=>rfl)) aj)) aj)))))
  (aA (cN (bP eW (pv 2) cg (bV _)) (aA (dU (aM GU U rfl DU.m DU.F.kp DU.b .nil (dW.passes fun _ _ _ z=>z) (ak (pv 0) (ak (bX cD (pv 1) aw (fun _ _=>rfl)) (ak (bX cD (pv 1) aw (fun _ _=>rfl)) aj))))))
  (aA (cN (bP eW (pv 2) cg (bV _)) (aA (dU (aM GP J rfl DP.m DP.F.kp DP.b .nil (dW.passes fun _ _ _ z=>z) (ak (pv 0) (ak (bX cD (pv 1) aw (fun _ _=>rfl)) (ak (bX cD (pv 1) aw (fun _ _=>rfl)) (ak (bX cD (pv 1) aw (fun _ _=>rfl)) aj)))))))
  (aA (cN (bP eW (pv 2) cg (bV _)) (aA (dU (aM GW U rfl DW.m DW.F.kp DW.b .nil (dW.passes fun _ _ _ z=>z) (ak (pv 0) (ak (bX cD (pv 1) aw (fun _ _=>rfl)) (ak (bX cD (pv 1) aw (fun _ _=>rfl)) aj))))))
  (aA (cN (bP eW (pv 2) cg (bV _)) (aA (dU (aM GS U rfl DS.m DS.F.kp DS.b .nil (dW.passes fun _ _ _ z=>z) (ak (pv 0) (ak (pv 1) aj)))))
  (aA (cN (bP eW (pv 2) cg (bV _)) (aA (dU (aM GD rk rfl DD.m DD.F.kp DD.b .nil (dW.passes fun _ _ _ z=>z) (ak (pv 0) (ak (vp (bP KF (fZ (pv 0) T.cl MR.m GR da MR.b .nil (dW.passes fun _ _ _ z=>z) (ak (bX cD (pv 1) aw (fun _ _=>rfl)) aj)) aw (bV _)) (bX cD (pv 1) aw (fun _ _=>rfl)) (bX cD (pv 1) aw (fun _ _=>rfl))) aj)))))
  (aA (cN (bP eW (pv 2) cg (bV _)) (aA (eD (pv 0) lO rfl)) bZ)))))))))))))),?_⟩
 have no:∀{m:Str},Bg.contains m=false->(dF L.m L.hv L.st L.wd L.od w.en L.rd L.ud).lookup m=Z7:=fun z=>oS _ _ _ _ _ _ _ _ z;have nx:∀{a b:Str} {p1 p2:Prop},(a==b)=false->p2->(if decide (V.str a=V.str b)=true then p1 else p2):=fun z q=>ng (uB (sne z)) (gf q);have O:∀{a:Str} {p1 p2:Prop},p1->(if decide (V.str a=V.str a)=true then p1 else p2):=fun q=>ng (Ek _) (ja q);have fw:w.len<400000:=by omega
 cases D with
 |put x F=>
  obtain⟨t,u,rfl,ht,hx,Y⟩:=(by simpa only[eG] using M);have Z:=SqT.of (K:=K) (g.sm _ _ ht);simp only[doD]at p;refine{_,Z9,t,_,_,_,Z9,Z9,Z,Z9,_,Z9,Z9,_,Z9,O ?_};refine{_,Z9,L.d,L.dx,_,Z9,g.hd,no (by decide +kernel),_,Z9,t,_,_,_,Z9,Z9,Z,Z9,?_};refine{_,Z9,L.d,L.dx,_,Z9,g.hd,no (by decide +kernel),_,Z9,t,_,_,_,Z9,Z9,Z,Z9,H0,L,e,ds,w,u,F,Z9,g,Y,fw,fun G1 W=>?_};refine lB p W.sm fun m em p=>?_;exact{H0,L,e,ds,_,x,m,Z9,W,hx,uh W.asks (Y.1.same W.sm) em,fun G' g'=>p G' g' (Bh (w:=w) (F:=F))}
 |push x F=>
  obtain⟨t,u,rfl,ht,hx,Y⟩:=(by simpa only[eG] using M);have Z:=SqT.of (K:=K) (g.sm _ _ ht);refine{_,Z9,t,_,_,_,Z9,Z9,Z,Z9,_,Z9,Z9,_,Z9,nx (by decide +kernel) ?_};refine{_,Z9,Z9,_,Z9,O ?_};exact{_,Z9,_,Z9,t,_,_,_,Z9,Z9,Z,Z9,_,Z9,t,_,_,_,Z9,Z9,Z,Z9,H0,L,e,ds,w,x,u,F,Z9,g,hx,Y,fw,p}
 |pull q x o=>
  obtain⟨t,u,rfl,ht,hq,hx,hl⟩:=(by simpa only[eG] using M);have Z:=SqT.of (K:=K) (g.sm _ _ ht);simp only[Dd.deep]at hn;simp only[Dd.size]at ho p;refine{_,Z9,t,_,_,_,Z9,Z9,Z,Z9,_,Z9,Z9,_,Z9,nx (by decide +kernel) ?_};refine{_,Z9,Z9,_,Z9,nx (by decide +kernel) ?_};refine{_,Z9,Z9,_,Z9,O ?_};exact{_,Z9,_,Z9,t,_,_,_,Z9,Z9,Z,Z9,_,Z9,t,_,_,_,Z9,Z9,Z,Z9,_,Z9,t,_,_,_,Z9,Z9,Z,Z9,H0,L,e,ds,w,q,x,u,o,Z9,g,hq,hx,hl,(by omega),(by omega),p.le (by omega)}
 |draw x F=>
  obtain⟨t,u,rfl,ht,hx,Y⟩:=(by simpa only[eG] using M);have Z:=SqT.of (K:=K) (g.sm _ _ ht);refine{_,Z9,t,_,_,_,Z9,Z9,Z,Z9,_,Z9,Z9,_,Z9,nx (by decide +kernel) ?_};refine{_,Z9,Z9,_,Z9,nx (by decide +kernel) ?_};refine{_,Z9,Z9,_,Z9,nx (by decide +kernel) ?_};refine{_,Z9,Z9,_,Z9,O ?_};exact{_,Z9,_,Z9,t,_,_,_,Z9,Z9,Z,Z9,_,Z9,t,_,_,_,Z9,Z9,Z,Z9,H0,L,e,ds,w,x,u,F,Z9,g,hx,Y,fw,p}
 |send to sg F rk F1 F2=>
  obtain⟨t,u,u1,u2,rfl,ht,Y,cs,cx⟩:=(by simpa only[eG] using M);have Z:=SqT.of (K:=K) (g.sm _ _ ht);simp only[Dd.size]at ho p;refine{_,Z9,t,_,_,_,Z9,Z9,Z,Z9,_,Z9,Z9,_,Z9,nx (by decide +kernel) ?_};refine{_,Z9,Z9,_,Z9,nx (by decide +kernel) ?_};refine{_,Z9,Z9,_,Z9,nx (by decide +kernel) ?_};refine{_,Z9,Z9,_,Z9,nx (by decide +kernel) ?_};refine{_,Z9,Z9,_,Z9,O ?_};exact{_,Z9,_,Z9,H0,L,e,ds,w,t,u,u1,u2,to,sg,rk,F,F1,F2,Z9,g,ht,Y,cs,cx,(by omega),p}
 |ife F x y=>
  obtain⟨t,u,u1,u2,rfl,ht,Y,hX,hY⟩:=(by simpa only[eG] using M);simp only[Dd.deep]at hn;simp only[Dd.size]at ho p;simp only[doD]at p;have Z:=SqT.of (K:=K) (g.sm _ _ ht);refine{_,Z9,t,_,_,_,Z9,Z9,Z,Z9,_,Z9,Z9,_,Z9,nx (by decide +kernel) ?_};refine{_,Z9,Z9,_,Z9,nx (by decide +kernel) ?_};refine{_,Z9,Z9,_,Z9,nx (by decide +kernel) ?_};refine{_,Z9,Z9,_,Z9,nx (by decide +kernel) ?_};refine{_,Z9,Z9,_,Z9,nx (by decide +kernel) ?_};refine{_,Z9,Z9,_,Z9,O ?_};refine{_,Z9,_,Z9,L.d,L.dx,_,Z9,g.hd,no (by decide +kernel),_,Z9,t,_,_,_,Z9,Z9,Z,Z9,H0,L,e,ds,w,u,F,Z9,g,Y,fw,fun G1 W=>?_};have I:=SqT.of (K:=K) (W.sm _ _ ht);have lw:Wk.len {w with rk:=w.rk++[F]}=w.len+1:=by
   show w.out.length+(w.rk++[F]).length=w.out.length+w.rk.length+1;rw[ay];rfl
  refine lB p W.sm fun m em p=>?_;refine{Z9,_,Z9,?_}
  by_cases c:m=0
  ·subst c;rw[if_pos rfl]at p;refine ng (b:=false) rfl (gf ?_);exact{_,Z9,t,_,_,_,Z9,Z9,I,Z9,H0,L,e,ds,_,u2,y,Z9,W,hY,(by omega),(by rw[lw];omega),p.le (by rw[lw];omega)}
  ·rw[if_neg c]at p;refine ng (b:=true) (by rw[decide_eq_false (fun z=>c (yD z))];rfl) (ja ?_);exact{_,Z9,t,_,_,_,Z9,Z9,I,Z9,H0,L,e,ds,_,u1,x,Z9,W,hX,(by omega),(by rw[lw];omega),p.le (by rw[lw];omega)}
 |fin=>
  obtain⟨t,rfl,ht⟩:=(by simpa only[eG] using M);have Z:=SqT.of (K:=K) (g.sm _ _ ht);simp only[doD]at p;refine{_,Z9,t,_,_,_,Z9,Z9,Z,Z9,_,Z9,Z9,_,Z9,nx (by decide +kernel) ?_};refine{_,Z9,Z9,_,Z9,nx (by decide +kernel) ?_};refine{_,Z9,Z9,_,Z9,nx (by decide +kernel) ?_};refine{_,Z9,Z9,_,Z9,nx (by decide +kernel) ?_};refine{_,Z9,Z9,_,Z9,nx (by decide +kernel) ?_};refine{_,Z9,Z9,_,Z9,nx (by decide +kernel) ?_};refine{_,Z9,Z9,_,Z9,O ?_};refine{_,Z9,L.d,CD,L.dx,_,Z9,g.hd,T.cl,T.nE,Nh _ _ _ _ _ _ _ _,?_};rw[Nb];exact p _ g.ended (vU _ _)
theorem scDs:bK ["doing","deeds","deed"] ["doing","deeds"] (aN iJ):={}
theorem Eo{n k:Nat}(D:Df K mg "do_deeds" iJ ["doing","deeds"] f fd)(I:Df K mg "do_deed" mX ["doing","deed"] f1 fd1)(G1:bh P w K mg base (CXo P w) k f1 fd1 ["doing","deed"] (spDd cf CD CS bs qs n)) :
  bh P w K mg base (CXo P w) (k+1) f fd ["doing","deeds"] (vT cf CD CS bs qs n):=by
 refine D.F.okX scDs (fun vs H Q E h=>?_) (fun bz A outer s H vs Q E hr h=>?_)
 ·obtain⟨H0,L,e,ds,w,v,D,rfl,_⟩:=h;rfl
 obtain⟨H0,L,e,ds,w,v,D,rfl,g,⟨l,vs,rfl,t,bB,hD⟩,hn,ho,p⟩:=h;refine{_,aA (iH dW.own rfl (g9 (pv 1)) (df (i:=2) scDs.nd rfl (Or.inl rfl)) (aA (dU (aM G1 hr rfl I.m I.F.kp I.b .nil (dW.passes fun _ _ _ z=>z) (ak (pv 0) (ak (pv 2) aj)))))),?_};refine⟨_,Z9,l,Z9,{_,SqL.of (g.sm _ _ t)},iI (K:=K) (a:=l) (xs:=vs) (fun i σ G=>∃(W:Ds) (Y:Wk) (u:Option V),σ=[Z8 (.ref L.d),Z8 (.ref l),u]/\Dg CD CS bs qs H0 G L e ds Y/\fc bs qs H0 W (vs.drop i)/\W.deep<n/\Y.len+4*W.size<=w.len+4*D.size /\
  tK cf (fun Y G'=>Dg CD CS bs qs H0 G' L e ds Y) H0 (w.len+4*D.size) (doS e ds W Y) Q E) {D,w,Z7,Z9,g,hD,hn,aB _,p} ?_ ?_ ?_⟩
 ·rintro i σ G _ ⟨W,Y,u,rfl,g',_⟩;exact SqL.of (g'.sm _ _ t)
 ·rintro i x σ G hi ⟨W,Y,u,rfl,g',Z,M,O,U⟩;have lt:i<vs.length:=(aF.mp hi).1;have hx:vs[i]=x:=(aF.mp hi).2;rw[yK lt,hx]at Z
  cases W with
  |nil=>
   simp only[fc]at Z
   cases Z
  |cons d r=>
   obtain⟨v0,vr,ev,hd,J⟩:=(by simpa only[fc] using Z)
   cases ev;simp only[Ds.deep]at M;simp only[Ds.size]at O;refine{_,Z9,_,Z9,H0,L,e,ds,Y,x,d,Z9,g',hd,(by omega),(by omega),?_};simp only[doS]at U
   cases ed:doD e ds d Y with
   |error er=>
    rw[ed]at U;exact U
   |ok w2=>
    rw[ed]at U;intro G2 g2 l2;exact{r,w2,_,Z9,g2,J,(by omega),(by omega),U}
 ·rintro σ G ⟨W,Y,u,rfl,g',Z,M,O,U⟩;rw[Iz]at Z
  cases W with
  |nil=>
   simp only[doS]at U;exact U G g' (by omega)
  |cons d r=>
   obtain⟨v0,vr,ev,_⟩:=(by simpa only[fc] using Z)
   cases ev
theorem rQ(D:Df K mg "do_deeds" iJ ["doing","deeds"] f fd)(Z:Df K mg "do_deed" mX ["doing","deed"] f1 fd1)
  (MF:Mt K CD "fill" "Doing.fill" gN ["self","box","worth"] fF fdF) (MR:Mt K CD "reckon" "Doing.reckon" e8 ["self","formula"] fR fdR) (U:bh P w K mg base (CXo P w) 18 fR fdR ["self","formula"] (tL cf CD CS bs qs))
  (g:Df K mg "do_pull" mZ ["doing","name","box","otherwise"] fP fdP) (J:Df K mg "do_push" mY ["doing","name","formula"] fU fdU) (M:bh P w K mg base (CXo P w) 19 fU fdU ["doing","name","formula"] (Bi cf CD CS bs qs))
  (I:Df K mg "do_draw" m5 ["doing","box","formula"] fW fdW) (Y:bh P w K mg base (CXo P w) 19 fW fdW ["doing","box","formula"] (yI cf CD CS bs qs)) (z:Df K mg "do_send" m7 ["doing","deed"] fS fdS) (W:bh P w K mg base (CXo P w) 19 fS fdS ["doing","deed"] (Bj cf CD CS bs qs)) (t:Mt K CD "queue_of" "Doing.queue_of" eS ["self","name"] fQ fdQ) (T:DT K mg CD) (V:MdT K mg CM CS) :
  ∀n:Nat,bh P w K mg base (CXo P w) (20+3*n) f fd ["doing","deeds"] (vT cf CD CS bs qs n)
 |0=>by
  have O:∀vs H Q E,¬vT cf CD CS bs qs 0 vs H Q E:=fun vs H Q E h=>by
   obtain⟨H0,L,e,ds,w,v,D,_,_,_,hn,_⟩:=h;omega
  exact{fun vs H Q E h=>absurd h (O vs H Q E),fun A outer s H args us vs Q E _ _ _ _ h=>absurd h (O vs H Q E)}
 |n+1=>Eo D Z (JP (n:=n) (k:=20+3*n) (by omega) Z D (rQ D Z MF MR U g J M I Y z W t T V n) MF MR U g J M I Y z W t T V)
end
end My
namespace L2
open PySem PySem.Spec PyProof.Rows
theorem Bk{X:Cx}:kR X (.type "dict") (fun xs H Q=>∃d kvs,xs=[V.ref d]/\H d=Z8 (.dK kvs)/\∀p,H p=Z7->Q (.ref p) (upd H p (.dK kvs))):=by
 intro pins s σ H xs us Q I r h;obtain⟨d,kvs,rfl,U,q⟩:=h;obtain⟨u,rfl,O⟩:=vals1 r
 cases O;obtain⟨Z,M,D,k1,Y⟩:=(show eB X.prog X.w H s.heap d (.dK kvs) from I.hok d _ U);refine kt_call_dict (knd:=eN X.prog X.w) M Y (by rw[<- k1.length];exact Z) fun h' J W=>?_;have kk:∀b o,s.heap.get? b=Z8 o->h'.get? b=Z8 o:=fun b o e=>(W.2 b (aR (aQ e))).trans (aK _ e);exact{.ref s.heap.objs.size,_,I.laid (a:=s.heap.objs.size) (o:=.dK kvs) (t':=s.toks) kk (aB _) (vI Z (beq_eq_false_iff_ne.mpr (fX (aR I.big))) k1 J),Z9,q _ (I.hok.fresh (aB _))}
end L2
namespace My
open PySem L2
def iG(CS:aa)(H:Hp)(st:aa)(bx:List (Str×Int))(qu:List (Str×List Int))(dr:Nat)(se:Int):Prop:=
 ∃dx W Y Z,H st=Z8 (.ins CS dx (kL (.ref W) (.ref Y) (.int dr) (.int se)))/\H W=Z8 (.dK (boK bx))/\H Y=Z8 (.dK (quK Z))/\gj H Z qu
theorem gj.same{G G':Hp}(s:aT G G'){Z:List (Str×aa)}{qu:List (Str×List Int)}(q:gj G Z qu):gj G' Z qu:=
 gj.keep (L:={0,0,0,0,0,0,0,0,0,0,.non,.non,Z}) (fun a u e _=>s _ _ e) (fun _ h=>h) q
theorem iG.same{CS:aa}{H H':Hp}(s:aT H H'){st:aa}{bx:List (Str×Int)}{qu:List (Str×List Int)}{dr:Nat}{se:Int}(h:iG CS H st bx qu dr se):iG CS H' st bx qu dr se:=by
 obtain⟨dx,W,Y,V,h1,h2,Z,U⟩:=h;exact{dx,W,Y,V,s _ _ h1,s _ _ h2,s _ _ Z,U.same s}
structure Hs(CS:aa)(H G:Hp)(st:aa)(bx:List (Str×Int))(qu:List (Str×List Int))(dr:Nat)(se:Int)(dxs bd qd:aa)(qa:List (Str×aa)):Prop where
 sm:aT H G
 hst:G st=Z8 (.ins CS dxs (kL (.ref bd) (.ref qd) (.int dr) (.int se)))
 hb:G bd=Z8 (.dK (boK bx))
 hq:G qd=Z8 (.dK (quK qa))
 hl:gj G qa qu
 nd:(st::bd::qd::qa.map (·.2)).Nodup
 fr:∀a∈st::bd::qd::qa.map (·.2),H a=Z7
inductive Cm(CS:aa)(vs:List V)(H:Hp)(Q:VK)(_e:XK):Prop where
 |mk(st:aa)(bx:List (Str×Int))(qu:List (Str×List Int))(dr:Nat)(se:Int)(_:vs=[.ref st])(_:iG CS H st bx qu dr se)(_:(qu.map (·.1)).Nodup)(_:qu.length<100)(_:∀(G:Hp) (st' dxs bd qd:aa) (qa:List (Str×aa)),Hs CS H G st' bx qu dr se dxs bd qd qa->Q (.ref st') G):Cm CS vs H Q _e
def Bm(CS:aa):Sp:=fun vs H Q Z=>Cm CS vs H Q Z
theorem JQ{Z:List (Str×aa)}{x:Str}{l:aa}(h:x∉Z.map (·.1)):iW (quK Z) (Sum.inr x) (.ref l)=quK (Z++[(x,l)]):=by
 have e:Z.lookup x=Z7:=by
  cases z:Z.lookup x with
  |none=>rfl
  |some a=>exact absurd (cq.mpr {_,qc z,Z9}) h
 unfold iW;have v:jF (quK Z) (Sum.inr x)=Z7:=by
  have z:=rP V.ref x Z;rw[e]at z;exact z
 rw[j7,v];show (if false=true then _ else _)=_;rw[if_neg (by decide)];unfold quK;rw[bT];rfl
theorem Co(Z:List (Str×aa)):(quK Z).length=Z.length:=aq _
theorem gj.len{G:Hp}{Z:List (Str×aa)}{qu:List (Str×List Int)}(q:gj G Z qu):Z.length=qu.length:=aV q
theorem gj.nm{G:Hp}:∀{Z:List (Str×aa)} {qu:List (Str×List Int)},gj G Z qu->Z.map (·.1)=qu.map (·.1)
 |_,_,.nil=>rfl
 |_::_,_::_,.cons a b=>by rw[bU,bU,a.1,gj.nm b]
theorem gj.nth{G:Hp}:∀{Z:List (Str×aa)} {qu:List (Str×List Int)} {i:Nat} {p:Str×aa},gj G Z qu->Z[i]?=Z8 p->∃q,qu[i]?=Z8 q/\p.1=q.1/\G p.2=Z8 (.lst (q.2.map V.int))
 |_,_,i,p,.nil,h=>by simp at h
 |_::_,_::_,0,p,.cons a b,h=>by
  simp at h;subst h;exact{_,Z9,a.1,a.2}
 |_::_,_::_,i+1,p,.cons a b,h=>by
  obtain⟨q,h1,h2⟩:=gj.nth (i:=i) (p:=p) b (by simpa using h);exact{q,by simpa using h1,h2}
section
variable{P:aL}{w:bA}{K:af}{mg:Str->Option ae}{base:cu}{f fI CD CS CM:aa}{fd fdI:bS}
theorem JR:bK ["self","queues","name","worths"] ["self"] (aN iR):={}
theorem rR(F:Fun K "copy" "State.copy" iR f fd)(MS:Mk K CS fI)(FI:Fun K "__init__" "State.__init__" jv fI fdI)(bI:Binds K fdI ["self","boxes","queues","drawn","sent"] [])(B:Bl mg)(T:MdT K mg CM CS) :
  bh P w K mg base CX0 3 f fd ["self"] (Bm CS):=by
 have GI:bh P w K mg base CX0 1 fI fdI ["self","boxes","queues","drawn","sent"] (MZ CS):=K0 FI T;refine F.ok JR (fun vs H Q E h=>?_) (fun dg A outer s H vs Q E hr h=>?_)
 ·obtain⟨st,bx,qu,dr,se,rfl,_⟩:=h;rfl
 obtain⟨st,bx,qu,dr,se,rfl,⟨dx,bd,W,J,O,hb,hq,hl⟩,ef,lq,k⟩:=h;have hu:=lQ hr;refine⟨_,ai (bM (i:=1) JR.nd rfl (Or.inl rfl) pK)
  (ai (B4 (iH cF rfl (zN (cO (pv 0) rfl)) (vt rfl (i9 (df (i:=2) JR.nd rfl (Or.inl rfl)) (i9 (df (i:=3) JR.nd rfl (Or.inl rfl)) rC))) (aA (kK hu (pv 1) (pv 2) (fg n6 (by rfl) B.list boot_list (ak (pv 3) aj)) rfl))))
  (aA (bJ (jT MS GI hr (by rfl) T.mS bI .nil aY (ak (fg Bk (by rfl) B.dict boot_dict (ak (cO (pv 0) rfl) aj)) (ak (pv 1) (ak (cO (pv 0) rfl) (ak (cO (pv 0) rfl) aj)))))))),?_⟩
 intro d hd;have s1:aT H (upd H d (.dK [])):=aD hd _;have nf:∀(ob:Obj) (u:HO),H W≠Z8 (.frz ob u):=fun ob u z=>by
  rw[hq]at z
  cases z
 have ei:d≠W:=(av hq hd).symm;have di:(J.map (·.1)).Nodup:=by
  rw[hl.nm];exact ef
 refine{_,Z9,st,CS,dx,_,_,Z9,s1 _ _ O,T.clS,T.nQ,JI _ _ _ _,W,_,Z9,s1 _ _ hq,nf,fun od=>?_};refine xI (d:=W) (od:=od) (kvs:=quK J) (fun i σ G=>∃(v2 v3:Option V) (Z:List (Str×aa)),σ=[Z8 (.ref st),Z8 (.ref d),v2,v3]/\G W=Z8 (.frz od (.dK (quK J)))/\(∀b o,H b=Z8 o->b≠W->G b=Z8 o)/\G d=Z8 (.dK (quK Z)) /\
  gj G Z (qu.take i)/\(Z.map (·.2)).Nodup/\∀a∈Z.map (·.2),H a=Z7/\a≠d) {Z7,Z7,[],Z9,ag,fun b o e n=>?_,?_,?_,ic,fun a h=>by cases h} ?_ ?_ ?_
 ·rw[aJ n];exact s1 _ _ e
 ·rw[aJ ei];exact ag
 ·rw[jL];exact .nil
 ·rintro i σ G _ ⟨_,_,_,_,h1,_⟩;exact h1
 ·rintro i kv t σ G hi ⟨v2,v3,Z,rfl,g1,g2,g3,g,g5,g6⟩ ht;obtain⟨p,hp,rfl⟩:∃p,J[i]?=Z8 p/\kv=((Sum.inr p.1:Key),V.ref p.2):=by
   unfold quK at hi;rw[cm]at hi
   cases z:J[i]? with
   |none=>
    rw[z]at hi
    cases hi
   |some p=>
    rw[z]at hi
    cases hi;exact⟨p,Z9,Z9⟩
  obtain⟨q,ea,dz,dL⟩:=hl.nth hp;have U:=aD ht (.tup [kV (Sum.inr p.1),.ref p.2]);have dn:p.2≠W:=oK dL hq (by intro z;cases z);refine{t,_,Z9,SqT.of ag,Z9,_,_,Z9,_,_,Z9,Z9,?_};refine{_,Z9,p.2,_,Z9,.inl (SqL.of (U _ _ (g2 _ _ dL dn))),fun l dw=>?_};have sl:=aD dw (.lst (q.2.map V.int));have dq:=sl _ _ (U _ _ g3);have de:i<qu.length:=(aF.mp ea).1;have tk:(qu.take (i+1))=qu.take i++[q]:=by
   rw[d9,ea];rfl
  have du:p.1∉Z.map (·.1):=by
   rw[g.nm,dz];intro z;have ee:((qu.take (i+1)).map (·.1)).Nodup:=by
    rw[zo];exact ef.sublist (mP _ _)
   rw[tk,bT]at ee;exact (gY.mp ee).2.2 _ z q.1 (by simp) rfl
  have ed:(quK Z).length<aC:=by
   have z:=g.len;rw[cK]at z;rw[Co];have:=dZ;omega
  have dp:=rH.k (k:=Sum.inr p.1) (v:=.ref l) dq ed;rw[JQ du]at dp;refine{_,Z9,_,Z9,d,_,Z9,dp,?_};have Y:G l=Z7:=by
   cases z:G l with
   |none=>rfl
   |some o=>
    have:=U _ _ z;rw[dw]at this
    cases this
  have dt:H l=Z7:=by
   cases z:H l with
   |none=>rfl
   |some o=>
    by_cases c:l=W
    ·rw[c,g1]at Y
     cases Y
    ·rw[g2 _ _ z c]at Y
     cases Y
  have dG:l≠d:=fun z=>by rw[z,g3]at Y;cases Y
  refine{_,_,Z++[(p.1,l)],Z9,?_,fun b o e n=>?_,ag,?_,?_,fun a ha=>?_}
  ·rw[aJ ei.symm];exact sl _ _ (U _ _ g1)
  ·rw[aJ (av e hd)];exact sl _ _ (U _ _ (g2 _ _ e n))
  ·rw[tk];have old:gj (upd (upd (upd G t (.tup [kV (Sum.inr p.1),.ref p.2])) l (.lst (q.2.map V.int))) d (.dK (quK (Z++[(p.1,l)])))) Z (qu.take i):=
    gj.keep (L:={0,0,0,0,0,0,0,0,0,0,.non,.non,Z}) (fun a u e m=>aP (sl _ _ (U _ _ e)) (g6 a m).2) (fun _ h=>h) g
   exact eJ old {dz,aP ag dG}
  ·rw[bT];refine gY.mpr {g5,by simp,fun a ha b hb=>?_};rw[aE.mp hb];intro z;obtain⟨pp,ej,e⟩:=cq.mp ha;obtain⟨j,hj⟩:=dB ej;obtain⟨_,_,_,y⟩:=g.nth hj;rw[e,z,Y]at y
   cases y
  ·rw[bT]at ha
   rcases cv.mp ha with z|z
   ·exact g6 a z
   ·rw[aE.mp z];exact⟨dt,dG⟩
 ·rintro σ G ⟨v2,v3,Z,rfl,g1,g2,g3,g,g5,g6⟩;rw[Co,hl.len,dS]at g;refine{W,od,_,g1,nf,?_};have I:aT H (upd G W (.dK (quK J))):=fun b o e=>by
   by_cases c:b=W
   ·rw[c,ag];rw[c,hq]at e;exact e
   ·rw[aJ c];exact g2 _ _ e c
  have M:upd G W (.dK (quK J)) d=Z8 (.dK (quK Z)):=aP g3 ei;have eh:gj (upd G W (.dK (quK J))) Z qu:=
   gj.keep (L:={0,0,0,0,0,0,0,0,0,0,.non,.non,Z}) (fun a u e m=>aP e (av hq (g6 a m).1).symm) (fun _ h=>h) g
  generalize upd G W (.dK (quK J))=G2 at I M eh;refine{_,Z9,st,CS,dx,_,_,Z9,I _ _ O,T.clS,T.nB,JH _ _ _ _,bd,_,Z9,I _ _ hb,fun e he=>?_};have s3:=aD he (.dK (boK bx));refine{_,Z9,_,Z9,st,CS,dx,_,_,Z9,s3 _ _ (I _ _ O),T.clS,T.nD,Nf _ _ _ _,_,Z9,st,CS,dx,_,_,Z9,s3 _ _ (I _ _ O),T.clS,T.nS,Ng _ _ _ _,?_};intro x dv nx dl dj;refine{x,dv,_,_,_,_,Z9,ag,fun H' hx bt=>{Z9,?_}};have sm:aT (upd G2 e (.dK (boK bx))) H':=fun b o e2=>by
   have cx:b≠x:=av e2 nx;refine bt b o ?_ cx;rw[aJ cx,aJ (av e2 dl)];exact e2
  have D:=s3.trans sm;have fresh:∀{a:aa},upd G2 e (.dK (boK bx)) a=Z7->H a=Z7:=fun {a} z=>by
   cases y:H a with
   |none=>rfl
   |some o=>
    rw[s3 _ _ (I _ _ y)]at z
    cases z
  have dk:H e=Z7:=by
   cases y:H e with
   |none=>rfl
   |some o=>
    rw[I _ _ y]at he
    cases he
  refine k H' x dv e d Z {I.trans D,hx,sm _ _ ag,D _ _ M,eh.same D,?_,?_}
  ·have eb:x≠e:=(av (ag:upd G2 e (.dK (boK bx)) e=_) nx).symm;have dV:x≠d:=(av (s3 _ _ M) nx).symm;have ec:e≠d:=(av M he).symm;have ql:∀a∈Z.map (·.2),∃o,G2 a=Z8 o:=fun a ha=>by
    obtain⟨pp,ej,e⟩:=cq.mp ha;obtain⟨j,hj⟩:=dB ej;obtain⟨_,_,_,y⟩:=eh.nth hj;rw[<- e];exact{_,y}
   refine cC.mpr {fun z=>?_,cC.mpr {fun z=>?_,cC.mpr {fun z=>(g6 d z).2 rfl,g5}}}
   ·rcases ar.mp z with z|z
    ·exact eb z
    ·rcases ar.mp z with z|z
     ·exact dV z
     ·obtain⟨o,y⟩:=ql x z;exact (av (s3 _ _ y) nx) rfl
   ·rcases ar.mp z with z|z
    ·exact ec z
    ·obtain⟨o,y⟩:=ql e z;exact (av y he) rfl
  ·intro a ha
   rcases ar.mp ha with z|z
   ·rw[z];exact fresh nx
   ·rcases ar.mp z with z|z
    ·rw[z];exact dk
    ·rcases ar.mp z with z|z
     ·rw[z];exact hd
     ·exact (g6 a z).1
end
theorem Dg.base{CD CS:aa}{bs qs:List Str}{H0 Z G G':Hp}{L:Lay}{h:Ev}{ds:List Int}{w:Wk}(g:Dg CD CS bs qs H0 G L h ds w)(s:aT G G')(Y:aT H0 Z)(V:aT Z G')(fr:∀a∈L.all,Z a=Z7):Dg CD CS bs qs Z G' L h ds w:=by
 obtain⟨t,x1,I,H,M,U,O,J,hdl⟩:=g.hm;have g':=g.same s;obtain⟨W,r1,D⟩:=g'.hr;exact{V,g'.hd,g'.hst,g'.hb,g'.hq,g'.hl,g'.hw,g'.ho,{W,r1,Paired.mono (fun _ _ z=>z.same Y) D},g'.hu,g.hh.same Y,{t,x1,I,H,M,U,O,Y _ _ J,Y _ _ hdl},g.nd,fr,g.ok,g.wt,g.wa,g.wb}
theorem gj.there{G:Hp}{Y:List (Str×aa)}{qu:List (Str×List Int)}(q:gj G Y qu){a:aa}(h:a∈Y.map (·.2)):∃xs,G a=Z8 (.lst xs):=by
 obtain⟨V,Z,e⟩:=cq.mp h;obtain⟨j,W⟩:=dB Z;obtain⟨_,_,_,y⟩:=q.nth W;rw[<- e];exact{_,y}
theorem Dg.there{CD CS:aa}{bs qs:List Str}{H0 G:Hp}{L:Lay}{h:Ev}{ds:List Int}{w:Wk}(g:Dg CD CS bs qs H0 G L h ds w):∀a∈L.all,∃o,G a=Z8 o:=fun a ha=>by
 obtain⟨vs,Z,_⟩:=g.ho;obtain⟨W,Y,_⟩:=g.hr;unfold Lay.all at ha;simp only[ar]at ha
 rcases ha with rfl|rfl|rfl|rfl|rfl|rfl|rfl|rfl|ha
 ·exact{_,g.hd}
 ·exact{_,g.hst}
 ·exact{_,g.hb}
 ·exact{_,g.hq}
 ·exact{_,g.hw}
 ·exact{_,Z}
 ·exact{_,Y}
 ·exact{_,g.hu}
 ·obtain⟨xs,e⟩:=g.hl.there ha;exact{_,e}
def Ep(bs qs:List Str)(H:Hp)(v:V)(p:Str×Ds):Prop:=∃t u,v=.ref t/\H t=Z8 (.tup [.str p.1,u])/\lX H (fc bs qs H p.2) u
def jA(hs:List (Str×Ds))(Z:Str):Ds:=(hs.lookup Z).getD .nil
theorem Ep.same{bs qs:List Str}{H H':Hp}(s:aT H H'){v:V}{p:Str×Ds}(h:Ep bs qs H v p):Ep bs qs H' v p:=by
 obtain⟨t,u,e,h1,h2⟩:=h;exact{t,u,e,s _ _ h1,h2.same s (fc.same s p.2)}
section
variable{P:aL}{w:bA}{K:af}{mg:Str->Option ae}{base:cu}{f fC fI CD CS CM:aa}{fd fdC fdI:bS}{bs qs:List Str}
theorem gk{G:Hp}{a b:aa}{o:HO}(h:upd G a o b=Z7):b≠a/\G b=Z7:=by
 by_cases c:b=a
 ·rw[c,ag]at h
  cases h
 ·rw[aJ c]at h;exact⟨c,h⟩
theorem z5{G:Hp}{d M od O U a:aa}{D I H J z o:HO}(W:G M=Z7)(Y:G od=Z7)(V:G O=Z7)(Z:G U=Z7)(e:G a=Z8 o)(n:a≠d):upd (upd (upd (upd (upd (upd (upd (upd (upd G d D) M (.dK [])) d I) od (.lst [])) d H) O (.lst [])) d J) U (.dK [])) d z a=Z8 o:=
 aP (aP (aP (aP (aP (aP (aP (aP (aP e n) (av e W)) n) (av e Y)) n) (av e V)) n) (av e Z)) n
inductive Lc(CD CS:aa)(bs qs:List Str)(vs:List V)(H:Hp)(Q:VK)(_e:XK):Prop where
 |mk(H0:Hp)(d dx st:aa)(m hv:V)(h:Ev)(ds:List Int)(bx:List (Str×Int))(qu:List (Str×List Int))(dr:Nat)(se:Int)(_:vs=[.ref d,m,.ref st,hv])(_:H d=Z8 (.ins CD dx []))(_:H0 d=Z7)(_:aT H0 H)(_:iG CS H0 st bx qu dr se)(_:ip H0 hv h)(_:(∃t x1 x2 x3 x4 dl,m=.ref t/\H0 t=Z8 (.tup [x1,x2,x3,.ref dl,x4])/\H0 dl=Z8 (.lst (ds.map V.int))))(_:p9 bs qs ⟨bx,qu,dr,se,[],[],false,[],[]⟩)(_:Wo h.t)(_:Wo h.a)(_:Wo h.b)(_:∀(G:Hp) (L:Lay),L.d=d->L.m=m->Dg CD CS bs qs H0 G L h ds ⟨bx,qu,dr,se,[],[],false,[],[]⟩->Q .non G):Lc CD CS bs qs vs H Q _e
def Nj(CD CS:aa)(bs qs:List Str):Sp:=fun vs H Q Z=>Lc CD CS bs qs vs H Q Z
theorem scDI:bK ["self","machine","state","happening"] ["self","machine","state","happening"] (aN om):={}
theorem Ht(F:Fun K "__init__" "Doing.__init__" om f fd)(MC:Mt K CS "copy" "State.copy" iR ["self"] fC fdC)(GC:bh P w K mg base CX0 3 fC fdC ["self"] (Bm CS))(T:DT K mg CD)(TM:MdT K mg CM CS):bh P w K mg base CX0 4 f fd ["self","machine","state","happening"] (Nj CD CS bs qs):=by
 refine F.ok scDI (fun vs H Q E h=>?_) (fun dl A outer s H vs Q E hr h=>?_)
 ·obtain⟨H0,d,dx,st,m,hv,h,ds,bx,qu,dr,se,rfl,_⟩:=h;rfl
 obtain⟨H0,d,dx,st,m,hv,h,ds,bx,qu,dr,se,rfl,hd,eb,s0,hS,hE,hM,ok,wt,wa,wb,k⟩:=h;refine{_,ai (eD (pv 0) (pv 1) rfl) (ai (eD (pv 0) (pv 3) rfl) (ai (eD (pv 0) (gB (pv 2) TM.clS MC.m GC hr MC.b .nil aY) rfl) (ai (eD (pv 0) pK rfl) (ai (eD (pv 0) (eR aj) rfl) (ai (eD (pv 0) lO rfl) (ai (eD (pv 0) (eR aj) rfl) (aA (eD (pv 0) pK rfl)))))))),?_};have l1:=hJ "machine" m [];have l2:=hJ "happening" hv (cE "machine" m []);simp only[cH]at l1;refine{_,Z9,_,Z9,d,CD,dx,[],Z9,hd,T.cl,T.nM,(by show 0<1000;decide),?_};refine{_,Z9,_,Z9,d,CD,dx,_,Z9,ag,T.cl,T.nH,(by omega),?_};rw[BF];have sd:∀(o:HO),aT H0 (upd H d o):=fun o b u e=>by
  rw[aJ (av e eb)];exact s0 _ _ e
 obtain⟨ea,dj,dt,dq,dG,_⟩:=id hS;refine{_,Z9,st,ea,_,Z9,sd _ _ _ dG,st_no _ _ _ _ (by decide +kernel),st,bx,qu,dr,se,Z9,hS.same (sd _),(by rw[ok.kq];exact ok.nq),?_,fun G V du bd qd qa N=>?_}
 ·have e:=congrArg jq ok.kq;rw[aq]at e;have:=ok.fw;rw[ay]at this;show qu.length<100;have e:qu.length=qs.length:=e;omega
 have gd:G d=Z8 (.ins CD dx (cE "happening" hv (cE "machine" m []))):=N.sm _ _ ag;have l3:=hJ "state" (.ref V) (cE "happening" hv (cE "machine" m []));have l4:=fun I=>hJ "written" (.ref I) (cE "state" (.ref V) (cE "happening" hv (cE "machine" m [])));have l5:=fun od I=>hJ "outgoing" (.ref od) (cE "written" (.ref I) (cE "state" (.ref V) (cE "happening" hv (cE "machine" m []))));refine{_,Z9,d,CD,dx,_,Z9,gd,T.cl,T.nS,(by omega),?_};have l6:=fun od I=>hJ "ends" (.bl false) (cE "outgoing" (.ref od) (cE "written" (.ref I) (cE "state" (.ref V) (cE "happening" hv (cE "machine" m [])))));have l7:=fun rd od I=>hJ "reckoned" (.ref rd) (cE "ends" (.bl false) (cE "outgoing" (.ref od) (cE "written" (.ref I) (cE "state" (.ref V) (cE "happening" hv (cE "machine" m []))))));intro I J;obtain⟨D,J⟩:=gk J;refine{_,Z9,d,CD,dx,_,Z9,(by rw[aJ D.symm];exact ag),T.cl,T.nW,(by omega),bO _,fun od U=>?_};obtain⟨t,U⟩:=gk U;obtain⟨ed,U⟩:=gk U;obtain⟨_,U⟩:=gk U;have dp:=l4 I;have dk:=l5 od I;have dn:=l6 od I;refine{_,Z9,d,CD,dx,_,Z9,(by rw[aJ t.symm];exact ag),T.cl,T.nO,(by omega),?_};refine{_,Z9,d,CD,dx,_,Z9,ag,T.cl,T.nE,(by omega),bO _,fun rd W=>?_};rw[BF]at W |-;obtain⟨ej,W⟩:=gk W;obtain⟨dv,W⟩:=gk W;obtain⟨_,W⟩:=gk W;obtain⟨dV,W⟩:=gk W;obtain⟨_,W⟩:=gk W;have di:=l7 rd od I;refine{_,Z9,d,CD,dx,_,Z9,(by rw[aJ ej.symm];exact ag),T.cl,T.nR,(by omega),?_};intro ud Z;obtain⟨ec,Z⟩:=gk Z;obtain⟨dz,Z⟩:=gk Z;obtain⟨_,Z⟩:=gk Z;obtain⟨dL,Z⟩:=gk Z;obtain⟨_,Z⟩:=gk Z;obtain⟨dw,Z⟩:=gk Z;obtain⟨_,Z⟩:=gk Z;refine{_,Z9,d,CD,dx,_,Z9,(by rw[aJ ec.symm];exact ag),T.cl,T.nQ,(by omega),?_};rw[Na];have ef:∀{a:aa},G a=Z7->H0 a=Z7:=fun {a} z=>by
  cases y:H0 a with
  |none=>rfl
  |some o=>
   rw[N.sm _ _ (sd _ _ _ y)]at z
   cases z
 have O:∀a∈V::bd::qd::qa.map (·.2),H0 a=Z7/\a≠d:=fun a ha=>by
  have z:=N.fr a ha;have n:a≠d:=fun y=>by
   rw[y,ag]at z
   cases z
  rw[aJ n]at z;refine{?_,n}
  cases y:H0 a with
  |none=>rfl
  |some o=>
   rw[s0 _ _ y]at z
   cases z
 have g:∀a∈V::bd::qd::qa.map (·.2),∃o,G a=Z8 o:=fun a ha=>by
  simp only[ar]at ha
  rcases ha with rfl|rfl|rfl|ha
  ·exact{_,N.hst}
  ·exact{_,N.hb}
  ·exact{_,N.hq}
  ·obtain⟨xs,e⟩:=N.hl.there ha;exact{_,e}
 have M:∀{b:aa} {xs:List aa},b∈b::xs:=ax;have Y:∀{a b:aa} {xs:List aa},b∈xs->b∈a::xs:=fun z=>ah _ z;refine k _ ⟨d,dx,V,du,bd,qd,I,od,rd,ud,m,hv,qa⟩ rfl rfl {fun b o e=>z5 J U W Z (N.sm _ _ (sd _ _ _ e)) (av e eb),ag,z5 J U W Z N.hst (O _ M).2,z5 J U W Z N.hb (O _ (Y M)).2,z5 J U W Z N.hq (O _ (Y (Y M))).2,?_,?_,{[],?_,.nil},{[],?_,.nil},?_,hE,hM,?_,?_,ok,wt,wa,wb}
 ·exact gj.keep (L:={0,0,0,0,0,0,0,0,0,0,.non,.non,qa}) (fun a u e m=>z5 J U W Z e (O a (Y (Y (Y m)))).2) (fun _ h=>h) N.hl
 ·show upd _ d _ I=Z8 (.dK []);rw[aJ D,aJ dw.symm,aJ D,aJ dV.symm,aJ D,aJ ed.symm,aJ D,ag]
 ·show upd _ d _ od=Z8 (.lst []);rw[aJ t,aJ dL.symm,aJ t,aJ dv.symm,aJ t,ag]
 ·show upd _ d _ rd=Z8 (.lst []);rw[aJ ej,aJ dz.symm,aJ ej,ag]
 ·show upd _ d _ ud=Z8 (.dK []);rw[aJ ec,ag]
 ·have nd:=N.nd;have hn:∀{a:aa} {xs:List aa},a∉xs->xs.Nodup->(a::xs).Nodup:=fun p q=>cC.mpr ⟨p,q⟩;obtain⟨n1,nd⟩:=cC.mp nd;obtain⟨n2,nd⟩:=cC.mp nd;obtain⟨n3,nd⟩:=cC.mp nd;simp only[ar,not_or]at n1 n2 n3;have ee:∀a∈V::bd::qd::qa.map (·.2),a≠I:=fun a ha z=>by
   obtain⟨o,y⟩:=g a ha;rw[z,J]at y
   cases y
  have ek:∀a∈V::bd::qd::qa.map (·.2),a≠od:=fun a ha z=>by
   obtain⟨o,y⟩:=g a ha;rw[z,U]at y
   cases y
  have eh:∀a∈V::bd::qd::qa.map (·.2),a≠rd:=fun a ha z=>by
   obtain⟨o,y⟩:=g a ha;rw[z,W]at y
   cases y
  have ei:∀a∈V::bd::qd::qa.map (·.2),a≠ud:=fun a ha z=>by
   obtain⟨o,y⟩:=g a ha;rw[z,Z]at y
   cases y
  show (d::V::bd::qd::I::od::rd::ud::qa.map (·.2)).Nodup;refine hn ?_ (hn ?_ (hn ?_ (hn ?_ (hn ?_ (hn ?_ (hn ?_ (hn ?_ nd)))))))
  ·simp only[ar,not_or];exact{fun z=>(O _ M).2 z.symm,fun z=>(O _ (Y M)).2 z.symm,fun z=>(O _ (Y (Y M))).2 z.symm,D.symm,t.symm,ej.symm,ec.symm,fun z=>(O d (Y (Y (Y z)))).2 rfl}
  ·simp only[ar,not_or];exact{n1.1,n1.2.1,ee _ M,ek _ M,eh _ M,ei _ M,n1.2.2}
  ·simp only[ar,not_or];exact{n2.1,ee _ (Y M),ek _ (Y M),eh _ (Y M),ei _ (Y M),n2.2}
  ·simp only[ar,not_or];exact{ee _ (Y (Y M)),ek _ (Y (Y M)),eh _ (Y (Y M)),ei _ (Y (Y M)),n3}
  ·simp only[ar,not_or];exact{ed.symm,dV.symm,dw.symm,fun z=>ee I (Y (Y (Y z))) rfl}
  ·simp only[ar,not_or];exact{dv.symm,dL.symm,fun z=>ek od (Y (Y (Y z))) rfl}
  ·simp only[ar,not_or];exact{dz.symm,fun z=>eh rd (Y (Y (Y z))) rfl}
  ·exact fun z=>ei ud (Y (Y (Y z))) rfl
 ·intro a ha;unfold Lay.all at ha;simp only[ar]at ha
  rcases ha with rfl|rfl|rfl|rfl|rfl|rfl|rfl|rfl|ha
  ·exact eb
  ·exact (O _ M).1
  ·exact (O _ (Y M)).1
  ·exact (O _ (Y (Y M))).1
  ·exact ef J
  ·exact ef U
  ·exact ef W
  ·exact ef Z
  ·exact (O a (Y (Y (Y ha)))).1
inductive Ld(bs qs:List Str)(vs:List V)(H:Hp)(Q:VK)(_e:XK):Prop where
 |mk(H0:Hp)(t hl:aa)(x0 x1 x2 x3:V)(hv:List V)(hs:List (Str×Ds))(sg:Str)(_:vs=[.ref t,.str sg])(_:aT H0 H)(_:H0 t=Z8 (.tup [x0,x1,x2,x3,.ref hl]))(_:H0 hl=Z8 (.lst hv))(_:aH (Ep bs qs H0) hv hs)(_:(∀u,lX H0 (fc bs qs H0 (jA hs sg)) u->Q u H))(_:∀l,H l=Z7->jA hs sg=.nil->Q (.ref l) (upd H l (.lst []))):Ld bs qs vs H Q _e
def Nl(bs qs:List Str):Sp:=fun vs H Q Z=>Ld bs qs vs H Q Z
theorem scBy:bK ["machine","sign","heard"] ["machine","sign"] (aN iw):={}
theorem nv{Z Y:Type}{R:Z->Y->Prop}:∀{xs:List Z} {ys:List Y} {i:Nat} {x:Z},aH R xs ys->xs[i]?=Z8 x->∃y,ys[i]?=Z8 y/\R x y
 |_,_,i,x,.nil,h=>by simp at h
 |_,_,0,x,.cons a b,h=>by
  simp at h;subst h;exact{_,Z9,a}
 |_,_,i+1,x,.cons a b,h=>by
  obtain⟨y,h1,h2⟩:=nv (i:=i) (x:=x) b (by simpa using h);exact{y,by simpa using h1,h2}
theorem ok_by(D:Df K mg "deeds_by_sign" iw ["machine","sign"] f fd):bh P w K mg base CX0 1 f fd ["machine","sign"] (Nl bs qs):=by
 refine D.F.ok scBy (fun vs H Q E h=>?_) (fun J A outer s H vs Q E hr h=>?_)
 ·obtain⟨H0,t,U,I,x1,x2,x3,O,hs,W,rfl,_⟩:=h;rfl
 obtain⟨H0,t,U,I,x1,x2,x3,O,hs,W,rfl,sm,ht,V,M,k1,k2⟩:=h;have ht:=sm _ _ ht;have V:=sm _ _ V;refine⟨_,ai (iH cF rfl (g9 (bX cD (pv 0) aw (fun _ _=>rfl))) (df (i:=2) scBy.nd rfl (Or.inl rfl)) (aA (cN (bP eW (bX cD (pv 2) aw (fun _ _=>rfl)) (pv 1) (bV _)) (aA (bJ (bX cD (pv 2) aw (fun _ _=>rfl)))) bZ)))
  (aA (bJ (eR aj))),?_⟩
 refine{_,Z9,t,_,_,_,Z9,Z9,SqT.of ht,Z9,U,Z9,{_,SqL.of V},iI (K:=K) (a:=U) (xs:=O) (fun i σ G=>G=H/\(∃u,σ=[Z8 (.ref t),Z8 (.str W),u])/\jA hs W=jA (hs.drop i) W) {Z9,{_,Z9},by rw[xy]} ?_ ?_ ?_}
 ·rintro i σ G _ ⟨rfl,_⟩;exact SqL.of V
 ·rintro i x σ G hi ⟨rfl,⟨u,rfl⟩,e⟩;obtain⟨p,hp,t',u',rfl,Z,Y⟩:=nv M hi;have Z:=sm _ _ Z;have lt:i<hs.length:=(aF.mp hp).1;have hx:hs[i]=p:=(aF.mp hp).2;rw[yK lt,hx]at e;obtain⟨pn,pd⟩:=p;refine{_,Z9,t',_,_,_,Z9,Z9,SqT.of Z,Z9,_,Z9,Z9,_,Z9,?_}
  by_cases c:pn=W
  ·subst c;refine ng (Ek _) (ja ?_);refine{_,Z9,t',_,_,_,Z9,Z9,SqT.of Z,Z9,k1 u' ?_};rw[e];unfold jA;rw[bQ];exact Y
  ·refine ng (uB c) (gf ?_);refine{Z9,{_,Z9},?_};rw[e];unfold jA;rw[cA,beq_eq_false_iff_ne.mpr (fun z=>c z.symm)]
 ·rintro σ G ⟨rfl,⟨u,rfl⟩,e⟩;have g:=aV M;rw[g,Iz]at e;exact{bO _,fun l Y=>k2 l Y e}
end
structure vV(bs qs:List Str)(ds:List Int)(hs:List (Str×Ds))(H:Hp)(m:V):Prop where
 ex:∃(t bl ql dl hl:aa) (nm:V) (vb hv:List V),m=.ref t/\H t=Z8 (.tup [nm,.ref bl,.ref ql,.ref dl,.ref hl])/\H bl=Z8 (.lst vb)/\aH (fun v (x:Str)=>∃a n,v=.ref a/\H a=Z8 (.tup [.str x,n])) vb bs/\H ql=Z8 (.lst (qs.map V.str))/\H dl=Z8 (.lst (ds.map V.int))/\H hl=Z8 (.lst hv)/\aH (Ep bs qs H) hv hs
theorem vV.same{bs qs:List Str}{ds:List Int}{hs:List (Str×Ds)}{H H':Hp}(s:aT H H'){m:V}(h:vV bs qs ds hs H m):vV bs qs ds hs H' m:=by
 obtain⟨t,bl,O,M,J,nm,Y,W,e,h1,h2,Z,D,U,I,g⟩:=h;exact⟨t,bl,O,M,J,nm,Y,W,e,s _ _ h1,s _ _ h2,Paired.mono (fun v x z=>by
  obtain⟨a,n,e,y⟩:=z;exact{a,n,e,s _ _ y}) Z,s _ _ D,s _ _ U,s _ _ I,Paired.mono (fun _ _ z=>z.same s) g⟩
def wrB(bs:List Str)(w:Wk):List (Str×Int):=(bs.filter fun x=>decide (x∈w.wr)).map fun x=>(x,vR w.bx x)
def wrQ(qs:List Str)(w:Wk):List (Str×List Int):=(qs.filter fun x=>decide (x∈w.wr)).map fun x=>(x,jG w.qu x)
def yL(G:Hp)(v:V)(p:Str×Int):Prop:=∃t,v=.ref t/\G t=Z8 (.tup [.str p.1,.int p.2])
def z7(G:Hp)(v:V)(p:Str×aa):Prop:=∃t,v=.ref t/\G t=Z8 (.tup [.str p.1,.ref p.2])
theorem yL.keep{G G':Hp}(k:∀a xs,G a=Z8 (.tup xs)->G' a=Z8 (.tup xs)){v:V}{p:Str×Int}(h:yL G v p):yL G' v p:=by
 obtain⟨t,e,h1⟩:=h;exact{t,e,k _ _ h1}
theorem z7.keep{G G':Hp}(k:∀a xs,G a=Z8 (.tup xs)->G' a=Z8 (.tup xs)){v:V}{p:Str×aa}(h:z7 G v p):z7 G' v p:=by
 obtain⟨t,e,h1⟩:=h;exact{t,e,k _ _ h1}
structure WrIn(bs qs:List Str)(w:Wk)(H G:Hp)(wl:aa)(ws1 ws2:List V)(qa:List (Str×aa)):Prop where
 hl:G wl=Z8 (.lst (ws1++ws2))
 b:aH (yL G) ws1 (wrB bs w)
 q:aH (z7 G) ws2 qa
 l:gj G qa (wrQ qs w)
 nd:(wl::qa.map (·.2)).Nodup
 fr:∀a∈wl::qa.map (·.2),H a=Z7
theorem uj{p:Str->Bool}{xs:List Str}{i:Nat}{x:Str}(h:xs[i]?=Z8 x):(xs.take (i+1)).filter p=(xs.take i).filter p++if p x=true then [x] else []:=by
 rw[d9,h,me];show _++[x].filter p=_
 by_cases c:p x=true
 ·rw[if_pos c,ie c];rfl
 ·rw[if_neg c,ig c];rfl
theorem qe{H G:Hp}{a:aa}(s:aT H G)(n:H a=Z7)(o:HO):aT H (upd G a o):=fun b u e=>by
 rw[aJ (av e n)];exact s _ _ e
theorem none_of{H G:Hp}(s:aT H G){a:aa}(n:G a=Z7):H a=Z7:=by
 cases z:H a with
 |none=>rfl
 |some o=>
  rw[s _ _ z]at n
  cases n
section
variable{P:aL}{w:bA}{K:af}{mg:Str->Option ae}{base:cu}{f CD CS CM:aa}{fd:bS}{bs qs:List Str}
inductive Le(CD CS:aa)(bs qs:List Str)(vs:List V)(H:Hp)(Q:VK)(_e:XK):Prop where
 |mk(H0:Hp)(L:Lay)(h:Ev)(ds:List Int)(w:Wk)(hs:List (Str×Ds))(_:vs=[.ref L.d])(_:Dg CD CS bs qs H0 H L h ds w)(_:vV bs qs ds hs H0 L.m)(_:∀(G:Hp) (wl:aa) (ws1 ws2:List V) (qa:List (Str×aa)),aT H G->WrIn bs qs w H G wl ws1 ws2 qa->Q (.ref wl) G):Le CD CS bs qs vs H Q _e
def spWr(CD CS:aa)(bs qs:List Str):Sp:=fun vs H Q Z=>Le CD CS bs qs vs H Q Z
theorem JS:bK ["doing","writes","box","name"] ["doing"] (aN lU):={}
theorem Er(D:Df K mg "writes_of" lU ["doing"] f fd)(T:DT K mg CD)(TM:MdT K mg CM CS)(B:Bl mg):bh P w K mg base CX0 1 f fd ["doing"] (spWr CD CS bs qs):=by
 refine D.F.ok JS (fun vs H Q E h=>?_) (fun ci A outer s H vs Q E hr h=>?_)
 ·obtain⟨H0,L,h,ds,w,hs,rfl,_⟩:=h;rfl
 obtain⟨H0,L,h,ds,w,hs,rfl,g,⟨t,bl,ql,dl,hl,nm,vb,hv,em,ht,cr,pb,cp,hdl,ce,_⟩,k⟩:=h;have hu:=lQ hr;refine⟨_,ai (bM (i:=1) JS.nd rfl (Or.inl rfl) (eR aj))
  (ai (iH cF rfl (g9 (bX cD (cO (pv 0) rfl) aw (fun _ _=>rfl))) (df (i:=2) JS.nd rfl (Or.inl rfl)) (aA (cN (qR (FD hu (bX cD (pv 2) aw (fun _ _=>rfl)) (cO (pv 0) rfl)))
   (aA (dU (oQ bE dD dE iO (pv 1) (ak (eg (ak (bX cD (pv 2) aw (fun _ _=>rfl)) (ak (qy hu (cO (cO (pv 0) rfl) rfl) (bX cD (pv 2) aw (fun _ _=>rfl)) (fun _ _=>rfl)) aj))) aj)))) bZ)))
  (ai (iH cF rfl (g9 (bX cD (cO (pv 0) rfl) aw (fun _ _=>rfl))) (df (i:=3) JS.nd rfl (Or.inl rfl)) (aA (cN (qR (FD hu (pv 3) (cO (pv 0) rfl)))
   (aA (dU (oQ bE dD dE iO (pv 1) (ak (eg (ak (pv 3) (ak (fg n6 (by rfl) B.list boot_list (ak (qy hu (cO (cO (pv 0) rfl) rfl) (pv 3) (fun _ _=>rfl)) aj)) aj))) aj)))) bZ)))
  (aA (bJ (pv 1))))),?_⟩
 have big:=dZ;have fw:=g.ok.fw;rw[ay]at fw;refine{bO _,fun M de=>?_};have s0:=aD de (.lst []);have da:∀{G:Hp} (g:Dg CD CS bs qs H0 G L h ds w) (x:Str),oW G L.wd (.str x) (if x∈w.wr then Z8 (.bl true) else Z7):=fun {G} g x=>by
  have z:=oW.k (k:=Sum.inr x) g.hw;rw[Ca]at z;exact z
 refine{_,Z9,L.d,CD,L.dx,_,_,Z9,s0 _ _ g.hd,T.cl,T.nM,M9 _ _ _ _ _ _ _ _,t,_,_,_,em,Z9,SqT.of (s0 _ _ (g.sm _ _ ht)),Z9,bl,Z9,{_,SqL.of (s0 _ _ (g.sm _ _ cr))},?_};refine iI (K:=K) (a:=bl) (xs:=vb) (fun i σ G=>∃(u:Option V) (ws:List V),σ=[Z8 (.ref L.d),Z8 (.ref M),u,Z7]/\aT H G/\G M=Z8 (.lst ws)/\aH (yL G) ws (((bs.take i).filter fun x=>decide (x∈w.wr)).map fun x=>(x,vR w.bx x))) {Z7,[],Z9,s0,ag,by rw[jL];exact .nil} ?_ ?_ ?_
 ·rintro i σ G _ ⟨_,_,rfl,sm,_⟩;exact SqL.of (sm _ _ (g.sm _ _ cr))
 ·rintro i x σ G hi ⟨u,ws,rfl,sm,U,O⟩;have Y:=g.same sm;obtain⟨y,hy,a,n,rfl,ha⟩:=nv pb hi;have ha:=Y.sm _ _ ha;have my:y∈bs:=bD hy;have ft:=uj (p:=fun x=>decide (x∈w.wr)) hy;refine{_,Z9,a,_,_,_,Z9,Z9,SqT.of ha,Z9,_,Z9,L.d,CD,L.dx,_,_,Z9,Y.hd,T.cl,T.nW,Ha _ _ _ _ _ _ _ _,L.wd,_,Z9,da Y y,_,Z9,?_}
  by_cases c:y∈w.wr
  ·rw[if_pos c];rw[if_pos (decide_eq_true c)]at ft;refine ja ?_;refine{_,Z9,.inl {Z9,_,SqL.of U},_,Z9,a,_,_,_,Z9,Z9,SqT.of ha,Z9,_,Z9,L.d,CD,L.dx,_,_,Z9,Y.hd,T.cl,T.nS,xb _ _ _ _ _ _ _ _,L.st,CS,L.dxs,_,_,Z9,Y.hst,TM.clS,TM.nB,JH _ _ _ _,_,Z9,a,_,_,_,Z9,Z9,SqT.of ha,Z9,L.bd,_,Z9,(by have z:=oW.k (k:=Sum.inr y) Y.hb;rw[Hf (by rw[Y.ok.kb];exact my)]at z;exact z),lt2,fun I db=>?_};have Z:=aD db (.tup [.str y,.int (vR w.bx y)]);have lw:=aV O;have lf:(((bs.take i).filter fun x=>decide (x∈w.wr)).map fun x=>(x,vR w.bx x)).length<=bs.length:=by
    rw[aq];refine cY (km _ _) ?_;rw[cK];omega
   refine{M,ws,_,Z9,Z9,Z _ _ U,(by omega),_,_,Z9,qe (sm.trans Z) de _,ag,?_};rw[ft,bT];have kp:∀b xs,upd G I (.tup [.str y,.int (vR w.bx y)]) b=Z8 (.tup xs)->upd (upd G I (.tup [.str y,.int (vR w.bx y)])) M (.lst (ws++[.ref I])) b=Z8 (.tup xs):=fun b xs z=>aP z (oK z (Z _ _ U) (by intro q;cases q));exact eJ (Paired.mono (fun _ _ z=>(z.keep fun b xs e=>Z _ _ e).keep kp) O) {I,Z9,kp _ _ ag}
  ·rw[if_neg c];rw[if_neg (by rw[decide_eq_false c];decide),cB]at ft;refine gf {_,ws,Z9,sm,U,?_};rw[ft];exact O
 rintro σ G ⟨u,dg,rfl,sm,U,O⟩;have Y:=g.same sm;have cn:vb.length=bs.length:=aV pb;rw[cn,dS]at O;refine{_,Z9,L.d,CD,L.dx,_,_,Z9,Y.hd,T.cl,T.nM,M9 _ _ _ _ _ _ _ _,t,_,_,_,em,Z9,SqT.of (Y.sm _ _ ht),Z9,ql,Z9,{_,SqL.of (Y.sm _ _ cp)},?_};refine iI (K:=K) (a:=ql) (xs:=qs.map V.str) (fun i σ G=>∃(u v:Option V) (W:List V) (J:List (Str×aa)),σ=[Z8 (.ref L.d),Z8 (.ref M),u,v]/\aT H G/\G M=Z8 (.lst (dg++W))/\aH (yL G) dg (wrB bs w)/\aH (z7 G) W J /\
  gj G J (((qs.take i).filter fun x=>decide (x∈w.wr)).map fun x=>(x,jG w.qu x))/\(M::J.map (·.2)).Nodup/\∀a∈M::J.map (·.2),H a=Z7) {_,_,[],[],Z9,sm,by rw[cB];exact U,O,.nil,by rw[jL];exact .nil,by simp,fun a ha=>by rw[aE.mp ha];exact de} ?_ ?_ ?_
 ·rintro i σ G _ ⟨_,_,_,_,rfl,sm,_⟩;exact SqL.of (sm _ _ (g.sm _ _ cp))
 ·rintro i x σ G hi ⟨u,v,W,J,rfl,sm,U,O,pq,pl,nd,fr⟩;have Y:=g.same sm;obtain⟨y,hy,rfl⟩:∃y,qs[i]?=Z8 y/\x=.str y:=by
   rw[cm]at hi
   cases z:qs[i]? with
   |none=>
    rw[z]at hi
    cases hi
   |some y=>
    rw[z]at hi
    cases hi;exact⟨y,Z9,Z9⟩
  have my:y∈qs:=bD hy;have ft:=uj (p:=fun x=>decide (x∈w.wr)) hy;refine{_,Z9,_,Z9,L.d,CD,L.dx,_,_,Z9,Y.hd,T.cl,T.nW,Ha _ _ _ _ _ _ _ _,L.wd,_,Z9,da Y y,_,Z9,?_}
  by_cases c:y∈w.wr
  ·rw[if_pos c];rw[if_pos (decide_eq_true c)]at ft;refine ja ?_;obtain⟨l,h1,h2,h3⟩:=Y.getL my;refine{_,Z9,.inl {Z9,_,SqL.of U},_,Z9,_,Z9,L.d,CD,L.dx,_,_,Z9,Y.hd,T.cl,T.nS,xb _ _ _ _ _ _ _ _,L.st,CS,L.dxs,_,_,Z9,Y.hst,TM.clS,TM.nQ,JI _ _ _ _,_,Z9,L.qd,_,Z9,h3,l,_,Z9,.inl (SqL.of h2),fun nl dc=>?_};have sn:=aD dc (.lst ((jG w.qu y).map V.int));refine{lt2,fun I db=>?_};have Z:=aD db (.tup [.str y,.ref nl]);have lw:=aV pq;have lb:=aV O;have lq:=aV pl;have lf:(((qs.take i).filter fun x=>decide (x∈w.wr)).map fun x=>(x,jG w.qu x)).length<=qs.length:=by
    rw[aq];refine cY (km _ _) ?_;rw[cK];omega
   have ck:(wrB bs w).length<=bs.length:=by
    unfold wrB;rw[aq];exact km _ _
   have cx:=Z _ _ (sn _ _ U);have cs:nl≠M:=(av U dc).symm;have kp:∀b xs,upd (upd G nl (.lst ((jG w.qu y).map V.int))) I (.tup [.str y,.ref nl]) b=Z8 (.tup xs)->upd (upd (upd G nl (.lst ((jG w.qu y).map V.int))) I (.tup [.str y,.ref nl])) M (.lst (dg++W++[.ref I])) b=Z8 (.tup xs):=fun b xs z=>aP z (oK z cx (by intro q;cases q));refine{M,_,_,Z9,Z9,cx,(by rw[ay];omega),_,_,W++[.ref I],J++[(y,nl)],Z9,qe ((sm.trans sn).trans Z) de _,(by rw[<- jK];exact ag),?_,?_,?_,?_,?_}
   ·exact Paired.mono (fun _ _ z=>(z.keep fun b xs e=>Z _ _ (sn _ _ e)).keep kp) O
   ·exact eJ (Paired.mono (fun _ _ z=>(z.keep fun b xs e=>Z _ _ (sn _ _ e)).keep kp) pq) {I,Z9,kp _ _ ag}
   ·rw[ft,bT];refine eJ (gj.keep (L:={0,0,0,0,0,0,0,0,0,0,.non,.non,J}) (fun a u e m=>aP (Z _ _ (sn _ _ e)) fun z=>?_) (fun _ h=>h) pl) {Z9,aP (Z _ _ ag) cs};rw[z]at m;exact (cC.mp nd).1 m
   ·rw[bT,<- IA];refine gY.mpr {nd,by simp,fun a ha b hb=>?_};rw[aE.mp hb];intro z
    rcases ar.mp ha with q|q
    ·exact cs ((show a=nl from z).symm.trans q)
    ·obtain⟨xs,q⟩:=pl.there q;rw[show a=nl from z,dc]at q
     cases q
   ·intro a ha;rw[bT,<- IA]at ha
    rcases cv.mp ha with z|z
    ·exact fr a z
    ·rw[aE.mp z];exact none_of sm dc
  ·rw[if_neg c];rw[if_neg (by rw[decide_eq_false c];decide),cB]at ft;refine gf {_,_,W,J,Z9,sm,U,O,pq,?_,nd,fr};rw[ft];exact pl
 rintro σ G ⟨u,v,W,J,rfl,sm,U,O,pq,pl,nd,fr⟩;rw[aq,dS]at pl;exact{_,Z9,k G M dg W J sm ⟨U,O,pq,pl,nd,fr⟩}
end
structure Hu(CD CS:aa)(bs qs:List Str)(H G:Hp)(L:Lay)(h:Ev)(ds:List Int)(w:Wk)(t rc wl:aa)(ws1 ws2:List V)(qa:List (Str×aa)):Prop where
 dg:∃H0,aT H H0/\Dg CD CS bs qs H0 G L h ds w
 ht:G t=Z8 (.tup [.ref L.st,.ref rc,.bl w.en])
 hrc:∃k,G rc=Z8 (.tup [.ref k,.int h.to,.str h.sg,.int h.a,.int h.b,.ref wl,.ref L.od])/\H k=Z8 (.tup [.int h.t,.int h.r,.int h.fr,.int h.c])
 wr:WrIn bs qs w H G wl ws1 ws2 qa
 nd:(L.all++wl::qa.map (·.2)).Nodup
theorem Hu.sm{CD CS:aa}{bs qs:List Str}{H G:Hp}{L:Lay}{h:Ev}{ds:List Int}{w:Wk}{t W U:aa}{Z Y:List V}{O:List (Str×aa)}(n:Hu CD CS bs qs H G L h ds w t W U Z Y O):aT H G:=by
 obtain⟨H0,s,g⟩:=n.dg;exact s.trans g.sm
def w0(bx:List (Str×Int))(qu:List (Str×List Int))(dr:Nat)(se:Int):Wk:={bx,qu,dr,se,[],[],false,[],[]}
section
variable{P:aL}{w:bA}{K:af}{mg:Str->Option ae}{base:cu}{f fI fS fB fW fO CD CS CM:aa}{fd fdI fdS fdB fdW fdO:bS}{bs qs:List Str}{cf:Flt->aa}
inductive Cp(cf:Flt->aa)(CM CD CS:aa)(bs qs:List Str)(n:Nat)(vs:List V)(H:Hp)(Q:VK)(E:XK):Prop where
 |mk(m dxm ml st:aa)(fs:List (Str×V))(ms:List V)(hv mv:V)(h:Ev)(ds:List Int)(hs:List (Str×Ds))(bx:List (Str×Int))(qu:List (Str×List Int))(dr:Nat)(se:Int)(_:vs=[.ref m,.ref st,hv])(_:H m=Z8 (.ins CM dxm fs))(_:fs.lookup ("machines":Str)=Z8 (.ref ml))(_:H ml=Z8 (.lst ms))(_:ip H hv h)(_:atI ms h.to=Z8 mv)(_:vV bs qs ds hs H mv)(_:iG CS H st bx qu dr se)(_:p9 bs qs (w0 bx qu dr se))(_:Wo h.t)(_:Wo h.a)(_:Wo h.b)(_:(jA hs h.sg).deep<n)(_:(jA hs h.sg).size<100000) (_:match doS h ds (jA hs h.sg) (w0 bx qu dr se) with
 |.ok w'=>∀(G:Hp) (L:Lay) (t rc wl:aa) (ws1 ws2:List V) (qa:List (Str×aa)),Hu CD CS bs qs H G L h ds w' t rc wl ws1 ws2 qa->Q (.ref t) G
 |.error e=>∀G,aT H G->E (.ref (cf e)) Z7 G):Cp cf CM CD CS bs qs n vs H Q E
def Hv(cf:Flt->aa)(CM CD CS:aa)(bs qs:List Str)(n:Nat):Sp:=fun vs H Q E=>Cp cf CM CD CS bs qs n vs H Q E
theorem by_go{CD CS:aa}{bs qs:List Str}{H G:Hp}{L:Lay}{h:Ev}{ds:List Int}{w:Wk}{M J:aa}{x0 x1 x2 x3:V}{Z:List V}{hs:List (Str×Ds)}{U:Str}{D:VK}{E:XK}(g:Dg CD CS bs qs H G L h ds w)(I:H M=Z8 (.tup [x0,x1,x2,x3,.ref J]))(O:H J=Z8 (.lst Z))(ph:aH (Ep bs qs H) Z hs)
  (k:∀(H0 W:Hp) (u:V),aT H H0->aT G W->Dg CD CS bs qs H0 W L h ds w->lX H0 (fc bs qs H0 (jA hs U)) u->D u W):Nl bs qs [.ref M,.str U] G D E:=by
 refine{H,M,J,_,_,_,_,Z,hs,U,Z9,g.sm,I,O,ph,fun u hu=>k H G u (aT.refl _) (aT.refl _) g hu,fun l Y e=>?_};have sl:=aD Y (.lst []);have nl:=none_of g.sm Y;have t:=aD nl (.lst []);have s1:aT (upd H l (.lst [])) (upd G l (.lst [])):=fun b o z=>by
  by_cases c:b=l
  ·rw[c]at z |-;rw[ag]at z |-;exact z
  ·rw[aJ c]at z |-;exact g.sm _ _ z
 refine k _ _ _ t sl (g.base sl t s1 fun a ha=>?_) {l,[],Z9,ag,by show 0<1000;decide,?_}
 ·obtain⟨o,z⟩:=g.there a ha;rw[aJ (av z Y)];exact g.fr a ha
 ·rw[e];simp only[fc]
inductive Hw(cf:Flt->aa)(CM CD CS:aa)(bs qs:List Str)(n:Nat)(vs:List V)(H:Hp)(Q:VK)(E:XK):Prop where
 |mk(m dxm ml st:aa)(fs:List (Str×V))(ms:List V)(hv mv:V)(h:Ev)(ds:List Int)(hs:List (Str×Ds))(bx:List (Str×Int))(qu:List (Str×List Int))(dr:Nat)(se:Int)(_:vs=[.ref m,.ref st,hv])(_:H m=Z8 (.ins CM dxm fs))(_:fs.lookup ("machines":Str)=Z8 (.ref ml))(_:H ml=Z8 (.lst ms))(_:ip H hv h)(_:atI ms h.to=Z8 mv)(_:vV bs qs ds hs H mv)(_:iG CS H st bx qu dr se)(_:p9 bs qs (w0 bx qu dr se))(_:Wo h.t)(_:Wo h.a)(_:Wo h.b)(_:(jA hs h.sg).deep<n)(_:(jA hs h.sg).size<100000) (_:match doS h ds (jA hs h.sg) (w0 bx qu dr se) with
 |.ok w'=>∀(H0 G:Hp) (L:Lay),aT H H0->Dg CD CS bs qs H0 G L h ds w'->L.m=mv->Q (.ref L.d) G
 |.error e=>∀G,aT H G->E (.ref (cf e)) Z7 G):Hw cf CM CD CS bs qs n vs H Q E
def Lg(cf:Flt->aa)(CM CD CS:aa)(bs qs:List Str)(n:Nat):Sp:=fun vs H Q E=>Hw cf CM CD CS bs qs n vs H Q E
theorem Nm:bK ["model","state","happening","machine","doing"] ["model","state","happening"] (aN oo):={}
theorem Nn{n:Nat}(D:Df K mg "doing_of" oo ["model","state","happening"] f fd)(MD:Mk K CD fI)(bI:Binds K fdI ["self","machine","state","happening"] [])(GI:bh P w K mg base CX0 4 fI fdI ["self","machine","state","happening"] (Nj CD CS bs qs))
  (DS:Df K mg "do_deeds" iJ ["doing","deeds"] fS fdS) (GS:bh P w K mg base (CXo P w) (20+3*n) fS fdS ["doing","deeds"] (vT cf CD CS bs qs n)) (M:Df K mg "deeds_by_sign" iw ["machine","sign"] fB fdB) (T:DT K mg CD) (TM:MdT K mg CM CS) :
  bh P w K mg base (CXo P w) (20+3*n+1) f fd ["model","state","happening"] (Lg cf CM CD CS bs qs n):=by
 have GB:bh P w K mg base CX0 1 fB fdB ["machine","sign"] (Nl bs qs):=ok_by M;refine D.F.okX Nm (fun vs H Q E h=>?_) (fun dz A outer s H vs Q E hr h=>?_)
 ·obtain⟨m,Y,ml,st,fs,ms,hv,mv,h,ds,hs,bx,qu,dr,se,rfl,_⟩:=h;rfl
 obtain⟨m,Y,ml,st,fs,ms,hv,mv,h,ds,hs,bx,qu,dr,se,rfl,hm,J,ea,hE,ed,hM,hS,ok,wt,wa,wb,dn,sz,p⟩:=h;have r1:cZ 1 _:=hr.mono (by omega);have r5:cZ 5 _:=hr.mono (by omega);refine⟨_,ai (bM (i:=3) Nm.nd rfl (Or.inl rfl) (bX dQ (cO (pv 0) rfl) (bX cD (pv 2) aw (fun _ _=>rfl)) (fun _ _=>rfl)))
  (ai (bM (i:=4) Nm.nd rfl (Or.inl rfl) (jT MD GI r5 (by rfl) T.mD bI .nil aY (ak (pv 3) (ak (pv 1) (ak (pv 2) aj)))))
  (ai (dU (aM GS hr (by rfl) DS.m DS.F.kp DS.b .nil (dW.passes fun _ _ _ z=>z) (ak (pv 4) (ak (aM GB r1 (by rfl) M.m M.F.kp M.b .nil aY (ak (pv 3) (ak (bX cD (pv 2) aw (fun _ _=>rfl)) aj))) aj))))
  (aA (bJ (pv 4))))),?_⟩
 obtain⟨th,kh,rfl,U,dV⟩:=id hE;obtain⟨tm,bl,ql,dl,hl,nm,vb,dv,rfl,W,dG,pb,dw,hdl,eb,ph⟩:=hM.ex;refine{_,Z9,m,CM,Y,_,_,Z9,hm,TM.clM,TM.nM,J,_,Z9,th,_,_,_,Z9,Z9,SqT.of U,Z9,ml,_,_,_,Z9,Z9,SqL.of ea,ed,?_};refine{_,Z9,_,Z9,_,Z9,?_};intro d dx O ec dL;have sA:aT H (upd (upd H dx (.own d)) d (.ins CD dx [])):=fun b o e=>by
  rw[aJ (av e O),aJ (av e ec)];exact e
 refine{H,d,dx,st,.ref tm,.ref th,h,ds,bx,qu,dr,se,Z9,ag,O,sA,hS,hE,{tm,_,_,_,_,dl,Z9,W,hdl},ok,wt,wa,wb,fun G L eL em g=>{Z9,?_}};have I:=g.sm _ _ U;refine{_,Z9,_,Z9,_,Z9,th,_,_,_,Z9,Z9,SqT.of I,Z9,?_};subst eL;refine by_go (E:=E0) g W eb ph fun H0 G1 u s0 s1 g1 hu=>?_;refine{H0,L,h,ds,w0 bx qu dr se,u,jA hs h.sg,Z9,g1,hu,dn,(by show 0+_<_;omega),?_};have t:∀{dg:Wk->Hp->Prop} {r:Except Flt Wk} {Q1:VK} {k:Nat},r=doS h ds (jA hs h.sg) (w0 bx qu dr se)->(∀V Z,r=.ok V->dg V Z->Q1 .non Z)->tK cf dg H0 k r Q1 E:=fun {dg r Q1 k} e q=>by
  cases r with
  |ok V=>exact fun Z g2 _=>q V Z rfl g2
  |error er=>
   rw[<- e]at p;exact fun Z s2=>p Z (s0.trans s2)
 refine t rfl fun V Z ew g2=>?_;rw[ew]at p;exact{_,Z9,p H0 Z L s0 g2 em}
theorem Np:bK ["model","state","happening","doing","record"] ["model","state","happening"] (aN yB):={}
theorem yM{n:Nat}(D:Df K mg "done" yB ["model","state","happening"] f fd)(U:Df K mg "doing_of" oo ["model","state","happening"] fO fdO)(MD:Mk K CD fI)(bI:Binds K fdI ["self","machine","state","happening"] [])(GI:bh P w K mg base CX0 4 fI fdI ["self","machine","state","happening"] (Nj CD CS bs qs))
  (DS:Df K mg "do_deeds" iJ ["doing","deeds"] fS fdS) (GS:bh P w K mg base (CXo P w) (20+3*n) fS fdS ["doing","deeds"] (vT cf CD CS bs qs n)) (DB:Df K mg "deeds_by_sign" iw ["machine","sign"] fB fdB) (O:Df K mg "writes_of" lU ["doing"] fW fdW) (T:DT K mg CD) (TM:MdT K mg CM CS) (B:Bl mg) :
  bh P w K mg base (CXo P w) (20+3*n+2) f fd ["model","state","happening"] (Hv cf CM CD CS bs qs n):=by
 have GO:bh P w K mg base (CXo P w) (20+3*n+1) fO fdO ["model","state","happening"] (Lg cf CM CD CS bs qs n):=Nn U MD bI GI DS GS DB T TM;have GW:bh P w K mg base CX0 1 fW fdW ["doing"] (spWr CD CS bs qs):=Er O T TM B;refine D.F.okX Np (fun vs H Q E h=>?_) (fun dk A outer s H vs Q E hr h=>?_)
 ·obtain⟨m,W,ml,st,fs,ms,hv,mv,h,ds,hs,bx,qu,dr,se,rfl,_⟩:=h;rfl
 obtain⟨m,W,ml,st,fs,ms,hv,mv,h,ds,hs,bx,qu,dr,se,rfl,hm,J,dl,hE,du,hM,hS,ok,wt,wa,wb,dn,sz,p⟩:=h;have r1:cZ 1 _:=hr.mono (by omega);refine⟨_,ai (bM (i:=3) Np.nd rfl (Or.inl rfl) (aM GO hr (by rfl) U.m U.F.kp U.b .nil (dW.passes fun _ _ _ z=>z) (ak (pv 0) (ak (pv 1) (ak (pv 2) aj)))))
  (ai (bM (i:=4) Np.nd rfl (Or.inl rfl) (cQ IV (pv 2) (eg (ak (aM GW r1 (by rfl) O.m O.F.kp O.b .nil aY (ak (pv 3) aj)) (ak (cO (pv 3) rfl) aj)))))
  (aA (bJ (eg (ak (cO (pv 3) rfl) (ak (pv 4) (ak (cO (pv 3) rfl) aj))))))),?_⟩
 obtain⟨th,kh,rfl,dt,g⟩:=id hE;refine{_,Z9,_,Z9,_,Z9,m,W,ml,st,fs,ms,_,mv,h,ds,hs,bx,qu,dr,se,Z9,hm,J,dl,hE,du,hM,hS,ok,wt,wa,wb,dn,sz,?_}
 cases ew:doS h ds (jA hs h.sg) (w0 bx qu dr se) with
 |error e=>
  rw[ew]at p;exact p
 |ok w'=>
 rw[ew]at p;intro H0 G2 L M Y em;have V:=Y.sm _ _ (M _ _ dt);have gM:vV bs qs ds hs H0 L.m:=by
  rw[em];exact hM.same M
 refine{_,Z9,_,Z9,H0,L,h,ds,w',hs,Z9,Y,gM,fun G3 I dw dq qa s3 wr=>?_};have g3:=Y.same s3;refine{_,Z9,L.d,CD,L.dx,_,_,Z9,g3.hd,T.cl,T.nO,dF_o _ _ _ _ _ _ _ _,lt2,fun tt dv=>?_};have s4:=aD dv (.tup [.ref I,.ref L.od]);refine{th,tt,_,_,Z9,Z9,SqT.of (s4 _ _ (s3 _ _ V)),SqT.of ag,(by intro z;cases z),(by show 7<=aC;decide),(fun z=>by cases z),fun _ rc dp=>?_};have s5:=aD dp (.tup [.ref kh,.int h.to,.str h.sg,.int h.a,.int h.b,.ref I,.ref L.od]);have g5:=(g3.same s4).same s5;refine{_,Z9,L.d,CD,L.dx,_,_,Z9,g5.hd,T.cl,T.nS,xb _ _ _ _ _ _ _ _,_,Z9,_,Z9,L.d,CD,L.dx,_,_,Z9,g5.hd,T.cl,T.nE,dF_e _ _ _ _ _ _ _ _,(by show 3<=aC;decide),fun t ht=>?_};have s6:=aD ht (.tup [.ref L.st,.ref rc,.bl w'.en]);have Z:=(s4.trans s5).trans s6;refine p _ L t rc I dw dq qa {{H0,M,g5.same s6},ag,{kh,s6 _ _ ag,g},{Z _ _ wr.hl,Paired.mono (fun _ _ z=>z.keep fun b xs e=>Z _ _ e) wr.b,Paired.mono (fun _ _ z=>z.keep fun b xs e=>Z _ _ e) wr.q,wr.l.same Z,wr.nd,fun a ha=>none_of (M.trans Y.sm) (wr.fr a ha)},?_};refine gY.mpr {Y.nd,wr.nd,fun a ha b hb z=>?_};obtain⟨o,y⟩:=Y.there a ha;rw[z,wr.fr b hb]at y
 cases y
end
theorem cb{t u:TS}{D:mJ}{σ:St}{H:Hp}(h:t {D with nx:=u D} σ H):L0 t u D σ H:=h
theorem dy{te:TE}{g:TG}{D:mJ}{σ:St}{H:Hp}(h:te σ H fun x H1=>g x σ H1 D.nx):II te g D σ H:=h
theorem bL{i:Nat}{v:V}{σ:St}{H:Hp}{Q:St->Hp->Prop}(h:Q (σ.set i (Z8 v)) H):BH i v σ H Q:=h
theorem tM{C:aa}{sp:Sp}{dvs:List V}{E:XK}{t:TA}{σ:St}{H:Hp}{Q:VK} (h:t σ H fun vs H1=>∀x dx,H1 x=Z7->H1 dx=Z7->dx≠x ->
  sp (.ref x::(vs++dvs)) (upd (upd H1 dx (.own x)) x (.ins C dx [])) (fun v H2=>v=.non/\Q (.ref x) H2) E):KH C sp dvs E t σ H Q:=h
section
variable{X:Cx}{e:cL}{ta:TE}{f:Str}{pos:Pos}
theorem cM(K:af)(Z:X.K=K)(Y:PE X e ta)(hb:lF e f X.env (fy e X.env)=fy e X.env):PE X (.Attribute e f pos) (Me K ta f):=by
 rw[<- Z];exact cO Y hb
theorem qf(K:af)(Z:X.K=K):kR X (.type "list") (fun xs H Q=>∃p ys,xs=[.ref p]/\(SqL K H p ys\/SqT K H p ys)/\∀l,H l=Z7->Q (.ref l) (upd H l (.lst ys))):=by
 rw[<- Z];exact n6
end
theorem Cq{H:Hp}{n:Nat}{t:aa}{xs:List V}(ht:H t=Z8 (.tup xs)\/H t=Z8 (.lst xs))(T:Tree H n (.ref t)):∃m,n=m+1/\∀x∈xs,Tree H m x:=by
 cases n with
 |zero=>exact T.elim
 |succ m=>
  refine{m,Z9,?_}
  rcases T with T|⟨p,ys,e,h1,_,h2⟩
  ·exact T.elim
  ·cases e;have Z:xs=ys:=by
    rcases ht with ht|ht<;>rcases h1 with h1|h1<;>rw[ht]at h1<;>cases h1<;>rfl
   rw[Z];exact h2
theorem iX{H H':Hp}{n:Nat}{t:aa}{xs:List V}{Z:V}(ht:H t=Z8 (.tup xs))(T:Tree H n (.ref t))(Y:Alike H H' n (.ref t) Z):∃m t' ys,Z=.ref t'/\H' t'=Z8 (.tup ys)/\aH (Alike H H' m) xs ys/\∀x∈xs,Tree H m x:=by
 obtain⟨m,rfl,h⟩:=Cq (.inl ht) T;obtain⟨t',ys,e,h1,h2⟩:=tH ht Y;exact⟨m,t',ys,e,h1,h2,h⟩
theorem vW{H H':Hp}{n:Nat}{t:aa}{xs:List V}{Z:V}(ht:H t=Z8 (.lst xs))(T:Tree H n (.ref t))(Y:Alike H H' n (.ref t) Z):∃m t' ys,Z=.ref t'/\H' t'=Z8 (.lst ys)/\aH (Alike H H' m) xs ys/\∀x∈xs,Tree H m x:=by
 obtain⟨m,rfl,h⟩:=Cq (.inr ht) T;obtain⟨t',ys,e,h1,h2⟩:=m9 ht Y;exact⟨m,t',ys,e,h1,h2,h⟩
theorem dH{R:V->V->Prop}{x:V}{xs ys:List V}(r:aH R (x::xs) ys):∃y Z,ys=y::Z/\R x y/\aH R xs Z:=by
 cases r with
 |cons a b=>exact{_,_,Z9,a,b}
theorem ny{R:V->V->Prop}{ys:List V}(r:aH R [] ys):ys=[]:=by
 cases r;rfl
theorem jo.alike{bs qs:List Str}{H H':Hp}{v:V}{F:Fm}(h:jo bs qs H v F):∀{n:Nat} {U:V},Tree H n v->Alike H H' n v U->jo bs qs H' U F:=by
 induction h with
 |num h1 h2=>
  intro n U T W;obtain⟨m,t',ys,rfl,Z,Y,_⟩:=iX h1 T W;rw[iS Y (by intro x hx;simp only[ar,aI,or_false]at hx;rcases hx with rfl|rfl<;>exact trivial)]at Z;exact .num Z h2
 |box h1 h2=>
  intro n U T W;obtain⟨m,t',ys,rfl,Z,Y,_⟩:=iX h1 T W;rw[iS Y (by intro x hx;simp only[ar,aI,or_false]at hx;rcases hx with rfl|rfl<;>exact trivial)]at Z;exact .box Z h2
 |long h1 h2=>
  intro n U T W;obtain⟨m,t',ys,rfl,Z,Y,_⟩:=iX h1 T W;rw[iS Y (by intro x hx;simp only[ar,aI,or_false]at hx;rcases hx with rfl|rfl<;>exact trivial)]at Z;exact .long Z h2
 |got h1=>
  intro n U T W;obtain⟨m,t',ys,rfl,Z,Y,_⟩:=iX h1 T W;rw[iS Y (by intro x hx;simp only[ar,aI,or_false]at hx;rcases hx with rfl|rfl<;>exact trivial)]at Z;exact .got Z
 |now h1=>
  intro n U T W;obtain⟨m,t',ys,rfl,Z,Y,_⟩:=iX h1 T W;rw[iS Y (by intro x hx;rw[aE.mp hx];exact trivial)]at Z;exact .now Z
 |two h1 h2 _ _ D I=>
  intro n U T W;obtain⟨m,t',ys,rfl,Z,Y,tr⟩:=iX h1 T W;obtain⟨t,O,rfl,M,Y⟩:=dH Y;obtain⟨g,O,rfl,a1,Y⟩:=dH Y;obtain⟨z,O,rfl,a2,Y⟩:=dH Y;obtain rfl:=ny Y;have J:=fb (v:=.str _) trivial M;rw[J]at Z;exact .two Z h2 (D (tr _ (by simp)) a1) (I (tr _ (by simp)) a2)
theorem FmI.alike{bs qs:List Str}{H H':Hp}{v Z:V}{F:Fm}{n:Nat}(h:FmI bs qs H v F)(T:Tree H n v)(Y:Alike H H' n v Z):FmI bs qs H' Z F:={h.1.alike T Y,h.2}
theorem lX.alike{H H':Hp}{R Z:List V->Prop}{v Y:V}{n:Nat}(h:lX H R v)(T:Tree H n v)(M:Alike H H' n v Y)(k:∀m vs ys,R vs->aH (Alike H H' m) vs ys->(∀x∈vs,Tree H m x)->Z ys):lX H' Z Y:=by
 obtain⟨l,vs,rfl,h1,h2,U⟩:=h;obtain⟨m,t',ys,rfl,O,W,tr⟩:=vW h1 T M;exact{t',ys,Z9,O,by rw[<- aV W];exact h2,k m vs ys U W tr}
mutual
theorem eG.alike{bs qs:List Str}{H H':Hp}:∀(d:Dd) (v I:V) (n:Nat),eG bs qs H d v->Tree H n v->Alike H H' n v I->eG bs qs H' d I
 |.put x f,v,I,n,h,T,O=>by
  obtain⟨t,u,rfl,h1,h2,M⟩:=(by simpa only[eG] using h);obtain⟨m,t',ys,rfl,W,Z,tr⟩:=iX h1 T O;obtain⟨D,Y,rfl,U,Z⟩:=dH Z;obtain⟨z,Y,rfl,a1,Z⟩:=dH Z;obtain⟨J,Y,rfl,a2,Z⟩:=dH Z;obtain rfl:=ny Z;rw[fb (v:=.str _) trivial U,fb (v:=.str _) trivial a1]at W;simp only[eG];exact{t',J,Z9,W,h2,M.alike (tr _ (by simp)) a2}
 |.push x f,v,I,n,h,T,O=>by
  obtain⟨t,u,rfl,h1,h2,M⟩:=(by simpa only[eG] using h);obtain⟨m,t',ys,rfl,W,Z,tr⟩:=iX h1 T O;obtain⟨D,Y,rfl,U,Z⟩:=dH Z;obtain⟨z,Y,rfl,a1,Z⟩:=dH Z;obtain⟨J,Y,rfl,a2,Z⟩:=dH Z;obtain rfl:=ny Z;rw[fb (v:=.str _) trivial U,fb (v:=.str _) trivial a1]at W;simp only[eG];exact{t',J,Z9,W,h2,M.alike (tr _ (by simp)) a2}
 |.pull q x o,v,I,n,h,T,O=>by
  obtain⟨t,u,rfl,h1,h2,M,g⟩:=(by simpa only[eG] using h);obtain⟨m,t',ys,rfl,W,Z,tr⟩:=iX h1 T O;obtain⟨D,Y,rfl,U,Z⟩:=dH Z;obtain⟨z,Y,rfl,a1,Z⟩:=dH Z;obtain⟨J,Y,rfl,a2,Z⟩:=dH Z;obtain⟨y3,Y,rfl,a3,Z⟩:=dH Z;obtain rfl:=ny Z;rw[fb (v:=.str _) trivial U,fb (v:=.str _) trivial a1,fb (v:=.str _) trivial a2]at W;simp only[eG];exact{t',y3,Z9,W,h2,M,g.alike (tr _ (by simp)) a3 fun m vs ys a b c=>fc.alike o vs ys m a b c}
 |.draw x f,v,I,n,h,T,O=>by
  obtain⟨t,u,rfl,h1,h2,M⟩:=(by simpa only[eG] using h);obtain⟨m,t',ys,rfl,W,Z,tr⟩:=iX h1 T O;obtain⟨D,Y,rfl,U,Z⟩:=dH Z;obtain⟨z,Y,rfl,a1,Z⟩:=dH Z;obtain⟨J,Y,rfl,a2,Z⟩:=dH Z;obtain rfl:=ny Z;rw[fb (v:=.str _) trivial U,fb (v:=.str _) trivial a1]at W;simp only[eG];exact{t',J,Z9,W,h2,M.alike (tr _ (by simp)) a2}
 |.send to sg sp rk a b,v,I,n,h,T,O=>by
  obtain⟨t,u,u1,u2,rfl,h1,h2,M,g⟩:=(by simpa only[eG] using h);obtain⟨m,t',ys,rfl,W,Z,tr⟩:=iX h1 T O;obtain⟨D,Y,rfl,U,Z⟩:=dH Z;obtain⟨z,Y,rfl,a1,Z⟩:=dH Z;obtain⟨J,Y,rfl,a2,Z⟩:=dH Z;obtain⟨y3,Y,rfl,a3,Z⟩:=dH Z;obtain⟨y4,Y,rfl,a4,Z⟩:=dH Z;obtain⟨y5,Y,rfl,a5,Z⟩:=dH Z;obtain⟨y6,Y,rfl,a6,Z⟩:=dH Z;obtain rfl:=ny Z;rw[fb (v:=.str _) trivial U,fb (v:=.int _) trivial a1,fb (v:=.str _) trivial a2,fb (v:=.int _) trivial a4]at W;simp only[eG];exact{t',y3,y5,y6,Z9,W,h2.alike (tr _ (by simp)) a3,M.alike (tr _ (by simp)) a5,g.alike (tr _ (by simp)) a6}
 |.ife f x y,v,I,n,h,T,O=>by
  obtain⟨t,u,u1,u2,rfl,h1,h2,M,g⟩:=(by simpa only[eG] using h);obtain⟨m,t',ys,rfl,W,Z,tr⟩:=iX h1 T O;obtain⟨D,Y,rfl,U,Z⟩:=dH Z;obtain⟨z,Y,rfl,a1,Z⟩:=dH Z;obtain⟨J,Y,rfl,a2,Z⟩:=dH Z;obtain⟨y3,Y,rfl,a3,Z⟩:=dH Z;obtain rfl:=ny Z;rw[fb (v:=.str _) trivial U]at W;simp only[eG];exact{t',z,J,y3,Z9,W,h2.alike (tr _ (by simp)) a1,M.alike (tr _ (by simp)) a2 fun m vs ys a b c=>fc.alike x vs ys m a b c,g.alike (tr _ (by simp)) a3 fun m vs ys a b c=>fc.alike y vs ys m a b c}
 |.fin,v,I,n,h,T,O=>by
  obtain⟨t,rfl,h1⟩:=(by simpa only[eG] using h);obtain⟨m,t',ys,rfl,W,Z,tr⟩:=iX h1 T O;obtain⟨D,Y,rfl,U,Z⟩:=dH Z;obtain rfl:=ny Z;rw[fb (v:=.str _) trivial U]at W;simp only[eG];exact⟨t',Z9,W⟩
theorem fc.alike{bs qs:List Str}{H H':Hp}:∀(d:Ds) (vs ys:List V) (n:Nat),fc bs qs H d vs->aH (Alike H H' n) vs ys->(∀x∈vs,Tree H n x)->fc bs qs H' d ys
 |.nil,vs,ys,n,h,Z,T=>by
  have e:vs=[]:=by simpa only[fc] using h
  subst e;obtain rfl:=ny Z;simp only[fc]
 |.cons d r,vs,ys,n,h,Z,T=>by
  obtain⟨v,W,rfl,h1,h2⟩:=(by simpa only[fc] using h);obtain⟨y,Y,rfl,a,b⟩:=dH Z;simp only[fc];exact{y,Y,Z9,eG.alike d v y n h1 (T v ax) a,fc.alike r W Y n h2 b fun x hx=>T x (ah _ hx)}
end
theorem qz{Y:Type}{R W:V->Y->Prop}{S:V->V->Prop}{T:V->Prop}(f:∀v a U,R v a->S v U->T v->W U a):∀{xs ys:List V} {Z:List Y},aH R xs Z->aH S xs ys->(∀x∈xs,T x)->aH W ys Z:=by
 intro xs ys Z p
 induction p generalizing ys with
 |nil=>
  intro q _
  cases q;exact .nil
 |cons a b O=>
  intro q t
  cases q with
  |cons c d=>exact .cons (f _ _ _ a c (t _ ax)) (O d fun x hx=>t x (ah _ hx))
theorem vV.alike{bs qs:List Str}{ds:List Int}{hs:List (Str×Ds)}{H H':Hp}{v W:V}{n:Nat}(h:vV bs qs ds hs H v)(T:Tree H n v)(al:Alike H H' n v W):vV bs qs ds hs H' W:=by
 obtain⟨t,bl,ql,dl,hl,nm,vb,hv,rfl,h1,h2,h3,h4,h5,h6,h7⟩:=h.ex;obtain⟨m,t',ys,rfl,g1,Z,tr⟩:=iX h1 T al;obtain⟨y0,Y,rfl,a0,Z⟩:=dH Z;obtain⟨y1,Y,rfl,a1,Z⟩:=dH Z;obtain⟨y2,Y,rfl,a2,Z⟩:=dH Z;obtain⟨y3,Y,rfl,a3,Z⟩:=dH Z;obtain⟨y4,Y,rfl,a4,Z⟩:=dH Z;obtain rfl:=ny Z;obtain⟨m1,b',I,rfl,c1,d1,t1⟩:=vW h2 (tr _ (by simp)) a1;obtain⟨m2,q',dq,rfl,c2,d2,t2⟩:=vW h4 (tr _ (by simp)) a2;obtain⟨m3,e',dt,rfl,g,d3,t3⟩:=vW h5 (tr _ (by simp)) a3;obtain⟨m4,f',M,rfl,c4,d4,t4⟩:=vW h6 (tr _ (by simp)) a4;rw[iS d2 (by intro x hx;obtain⟨z,_,rfl⟩:=cq.mp hx;exact trivial)]at c2;rw[iS d3 (by intro x hx;obtain⟨z,_,rfl⟩:=cq.mp hx;exact trivial)]at g;refine{t',b',q',e',f',y0,I,M,Z9,g1,c1,qz (fun v a W x y z=>?_) h3 d1 t1,c2,g,c4,qz (fun v a W x y z=>?_) h7 d4 t4}
 ·obtain⟨p,k,rfl,hp⟩:=x;obtain⟨m',J,ws,rfl,k1,k2,_⟩:=iX hp z y;obtain⟨w0,wr,rfl,O,k2⟩:=dH k2;obtain⟨D,wr,rfl,b1,k2⟩:=dH k2;obtain rfl:=ny k2;rw[fb (v:=.str _) trivial O]at k1;exact⟨J,D,Z9,k1⟩
 ·obtain⟨p,u,rfl,hp,hu⟩:=x;obtain⟨m',J,ws,rfl,k1,k2,U⟩:=iX hp z y;obtain⟨w0,wr,rfl,O,k2⟩:=dH k2;obtain⟨D,wr,rfl,b1,k2⟩:=dH k2;obtain rfl:=ny k2;rw[fb (v:=.str _) trivial O]at k1;exact{J,D,Z9,k1,hu.alike (U _ (by simp)) b1 fun m vs ys a b c=>fc.alike _ vs ys m a b c}
def Lh(K:af):List V->Hp->VK->Prop:=fun xs H Q=>∃p ys,xs=[.ref p]/\(SqL K H p ys\/SqT K H p ys)/\Q (.int ys.length) H
theorem fj{X:Cx}(K:af)(Z:X.K=K):kR X (.builtin "len") (Lh K):=by
 rw[<- Z];exact ij
theorem Hx{X:Cx}(K:af)(Z:X.K=K):IxR X (Mh K):=by
 rw[<- Z];exact dQ
theorem oC{X:Cx}(K:af)(Z:X.K=K):IxR X (rIxT K):=by
 rw[<- Z];exact cD
theorem JT{X:Cx}{pos:Pos}{es:List cL}{k:Nat}{t:TGs}{n:Nat}(K:af)(W:X.K=K)(hc:X.calm=true)(h:PGs X es t)
  (Y:(kQ es X.env).length=n:=by rfl) (Z:(kQ es X.env).findIdx? (·.1)=Z7:=by rfl):PG X (.Tuple es k pos) (gTup K n t):=by
 rw[<- W];exact vt hc h Y Z
theorem Es:1<=aC:=by decide
theorem fH{te:TE}{D:mJ}{σ:St}{H:Hp}(h:te σ H D.rt):tRet te D σ H:=h
theorem Et{K:af}{m C dx U:aa}{fs:List (Str×V)}{f:Str}{ms:List V}{n i:Nat}{g:TG}{tc:L2.TT}{te:TE}{σ:St}{H:Hp}{Q:VK}(z:σ[i]?=Z8 (Z8 (.ref m)))(hm:H m=Z8 (.ins C dx fs))(cl:Cls K C)(na:eC K C f)(D:fs.lookup f=Z8 (.ref U))(O:H U=Z8 (.lst ms))(J:ms.length<1000)
  (Z:Nat->List V->Hp->Prop) (h0:Z 0 [] H) (hl:∀i ys H,i<=ms.length->Z i ys H->ys.length<aC)
  (hs:∀i ys H,i<ms.length->Z i ys H->g (.int (0+i)) (cz n Z7++σ) H fun W H2=>W.drop n=σ/\tc W H2 fun b M=>if b=true then te W M fun y H4=>Z (i+1) (ys++[y]) H4 else Z (i+1) ys M)
  (hd:∀ys H,Z ms.length ys H->∀p,H p=Z7->Q (.ref p) (upd H p (.lst ys))):t9 n (Fe (oN (tCB (Lh K) (oN (Me K (IH i) f) AL)) AL)) g tc te σ H Q:=by
 refine{.ref m,z,m,C,dx,fs,.ref U,Z9,hm,cl,na,D,U,ms,Z9,.inl (SqL.of O),(ms.length:Int),Z9,by omega,by omega,?_};rw[uv];refine{fun i k ys H=>k=ms.length-i/\i<=ms.length/\Z i ys H,{ms.length,by simp,bO _,h0},?_};rintro i k ys H ⟨rfl,hi,Y⟩;refine{hl i ys H hi Y,?_}
 by_cases lt:i<ms.length
 ·refine .inr {lt,Z (i+1),fun I H' t=>{ms.length-(i+1),by omega,Z9,lt,t},fun x H' y=>?_};obtain⟨e,y⟩:=y;subst e y;exact hs i ys _ lt Y
 ·have e:i=ms.length:=by omega
  subst e;exact .inl {aB _,hd ys H Y}
theorem Bn{K:af}{a:aa}{xs:List V}{n i:Nat}{g:TG}{tc:L2.TT}{te:TE}{σ:St}{H:Hp}{Q:VK}(U:σ[i]?=Z8 (Z8 (.ref a)))(hx:SqL K H a xs)(Z:Nat->List V->Hp->Prop)(h0:Z 0 [] H)(M:∀i ys H,i<=xs.length->Z i ys H->SqL K H a xs/\ys.length<aC)
  (hs:∀i x t ys H,xs[i]?=Z8 x->Z i ys H->H t=Z7->g (.ref t) (cz n Z7++σ) (upd H t (.tup [.int i,x])) fun Y H2=>Y.drop n=σ/\tc Y H2 fun b W=>if b=true then te Y W fun y J=>Z (i+1) (ys++[y]) J else Z (i+1) ys W)
  (O:∀ys H,Z xs.length ys H->∀p,H p=Z7->Q (.ref p) (upd H p (.lst ys))):t9 n (KS K (oN (IH i) AL)) g tc te σ H Q:=
 {.ref a,U,a,Z9,⟨xs,hx⟩,Eh Z h0 M hs O}
def xc(H:Hp)(v:V)(e:Ev):Prop:=∃t,v=.ref t/\H t=Z8 (.tup [.int e.t,.int e.r,.int e.to,.str e.sg,.int e.a,.int e.b])
theorem xc.same{H H':Hp}(s:aT H H'){v:V}{e:Ev}(h:xc H v e):xc H' v e:=by
 obtain⟨t,e,h⟩:=h;exact{t,e,s _ _ h}
def atP(e:Ev)(i:Nat):Ev:={e with fr:=-1,c:=i}
section
variable{P:aL}{w:bA}{K:af}{mg:Str->Option ae}{base:cu}{f fP CB:aa}{fd fdP:bS}
inductive Hy(vs:List V)(H:Hp)(Q:VK)(_e:XK):Prop where
 |mk(sl:aa)(svs:List V)(es:List Ev)(_:vs=[.ref sl])(_:H sl=Z8 (.lst svs))(_:aH (xc H) svs es)(_:es.length<1000)(_:∀(G:Hp) (l:aa) (ys:List V),aT H G->H l=Z7->G l=Z8 (.lst ys)->ys.length=es.length->(∀i y e,ys[i]?=Z8 y->es[i]?=Z8 e->ip G y (atP e i))->Q (.ref l) G):Hy vs H Q _e
def Li:Sp:=fun vs H Q Z=>Hy vs H Q Z
theorem scPf:bK ["signs"] ["signs"] (aN gC):={}
theorem ndPf:((["place","sign"]:List Str)++(["signs"]:List Str)).Nodup:=by decide +kernel
theorem Bo(D:Df K mg "pending_at_first" gC ["signs"] f fd)(ME:mg "enumerate"=Z7):bh P w K mg base CX0 1 f fd ["signs"] Li:=by
 refine D.F.ok scPf (fun vs H Q E h=>?_) (fun bw A outer s H vs Q E hr h=>?_)
 ·obtain⟨sl,O,es,rfl,_⟩:=h;rfl
 obtain⟨sl,O,es,rfl,M,ps,bz,k⟩:=h;refine⟨_,aA (bJ (lS ["place","sign"] (iC.open (NN:=["signs"]) (N:=["signs"]) (sc:=aN gC) rfl rfl (by decide +kernel) rfl (by decide +kernel) (by decide +kernel) rfl (by decide +kernel)) rfl (Js (by rfl) ME (ak (pv 0) aj))
  (fun _ _ _ _=>JT (n:=2) K (by rfl) rfl (i9 (df (i:=0) ndPf rfl (Or.inl rfl)) (i9 (df (i:=1) ndPf rfl (Or.inl rfl)) rC))) (fun _ _ _ _=>jW)
  (fun _ _ _ _=>eg (ak (eg (ak (bX (oC K (by rfl)) (pv 1) aw (by intro _ _;rfl)) (ak (bX (oC K (by rfl)) (pv 1) aw (by intro _ _;rfl)) (ak (Ff AE aw) (ak (pv 0) aj)))))
   (ak (bX (oC K (by rfl)) (pv 1) aw (by intro _ _;rfl)) (ak (bX (oC K (by rfl)) (pv 1) aw (by intro _ _;rfl)) (ak (bX (oC K (by rfl)) (pv 1) aw (by intro _ _;rfl)) (ak (bX (oC K (by rfl)) (pv 1) aw (by intro _ _;rfl)) aj)))))))),?_⟩
 have big:=dZ;have bv:=aV ps;refine fH ?_;refine Bn (K:=K) (a:=sl) (xs:=O) rfl (SqL.of M) (fun i ys G=>ys.length=i/\aT H G/\∀j y e,ys[j]?=Z8 y->es[j]?=Z8 e->ip G y (atP e j)) {Z9,aT.refl _,fun j y e h=>by simp at h} ?_ ?_ ?_
 ·rintro i ys G hi ⟨h1,h2,_⟩;exact{SqL.of (h2 _ _ M),by omega}
 ·rintro i x t ys G hi ⟨h1,h2,J⟩ ht;obtain⟨e,z,Y,rfl,bB⟩:=nv ps hi;have V:=aD ht (.tup [.int i,.ref Y]);have hq:=V _ _ (h2 _ _ bB);refine{t,_,Z9,SqT.of ag,Z9,_,_,Z9,_,_,Z9,Z9,?_};refine{Z9,?_};unfold w5;refine ja ?_;refine{_,Z9,Y,_,_,_,Z9,Z9,SqT.of hq,Z9,_,Z9,Y,_,_,_,Z9,Z9,SqT.of hq,Z9,_,Z9,_,Z9,(by show 4<=aC;decide),fun kt g=>?_};have sk:=aD g (.tup [.int e.t,.int e.r,.int (-1),.int i]);have Z:=sk _ _ hq;refine{_,Z9,Y,_,_,_,Z9,Z9,SqT.of Z,Z9,_,Z9,Y,_,_,_,Z9,Z9,SqT.of Z,Z9,_,Z9,Y,_,_,_,Z9,Z9,SqT.of Z,Z9,_,Z9,Y,_,_,_,Z9,Z9,SqT.of Z,Z9,(by show 5<=aC;decide),fun et I=>?_};have se:=aD I (.tup [.ref kt,.int e.to,.str e.sg,.int e.a,.int e.b]);have sA:=(V.trans sk).trans se;refine{by rw[ay,h1];rfl,h2.trans sA,fun j y e' hy W=>?_}
  rcases uz j ys.length with lt|ge
  ·rw[eI lt]at hy;exact (J j y e' hy W).same sA
  ·rw[dP ge]at hy;have ej:j=i:=by
    by_cases c:j-ys.length=0
    ·omega
    ·rw[List.getElem?_cons,if_neg c]at hy;simp at hy
   subst ej;rw[h1,qg]at hy
   cases hy;rw[z]at W
   cases W;exact{et,kt,Z9,ag,se _ _ ag}
 ·rintro ys G ⟨h1,h2,J⟩ l hl;have U:=aD hl (.lst ys);exact k _ l ys (h2.trans U) (none_of h2 hl) ag (by omega) fun i y e hy z=>(J i y e hy z).same U
inductive Nq(vs:List V)(H:Hp)(Q:VK)(_e:XK):Prop where
 |mk(q:aa)(v:V)(_:vs=[.ref q,v])(_:H q=Z8 (.lst []))(_:Q (.int 0) H):Nq vs H Q _e
inductive Nr(vs:List V)(H:Hp)(Q:VK)(_e:XK):Prop where
 |mk(q:aa)(v:V)(_:vs=[.ref q,v])(_:H q=Z8 (.lst []))(_:Q .non (upd H q (.lst [v]))):Nr vs H Q _e
theorem xU:bK ["falling","thing","low","high","middle"] ["falling","thing"] (aN oq):={}
theorem scPic:bK ["falling","thing"] ["falling","thing"] (aN rM):={}
def z8(r e s:V):List (Str×V):=cE "states" s (cE "ending" e (cE "records" r []))
structure BkT(K:af)(mg:Str->Option ae)(CB:aa):Prop where
 cl:Cls K CB
 nR:eC K CB "records"
 nE:eC K CB "ending"
 nS:eC K CB "states"
 m:mg "Book"=Z8 (.ref CB)
inductive Lj(CB:aa)(vs:List V)(H:Hp)(Q:VK)(_e:XK):Prop where
 |mk(b dx:aa)(r e s:V)(_:vs=[.ref b,r,e,s])(_:H b=Z8 (.ins CB dx []))(_:∀G,G b=Z8 (.ins CB dx (z8 r e s))->But b H G->Q .non G):Lj CB vs H Q _e
def Nt(CB:aa):Sp:=fun vs H Q Z=>Lj CB vs H Q Z
theorem scBk:bK ["self","records","ending","states"] ["self","records","ending","states"] (aN p0):={}
theorem Ll(F:Fun K "__init__" "Book.__init__" p0 f fd)(T:BkT K mg CB):bh P w K mg base CX0 1 f fd ["self","records","ending","states"] (Nt CB):=by
 refine F.ok scBk (fun vs H Q E h=>?_) (fun Z A outer s H vs Q E V h=>?_)
 ·obtain⟨b,dx,r,e,s',rfl,_⟩:=h;rfl
 obtain⟨b,dx,r,e,s',rfl,hb,k⟩:=h;refine{_,ai (eD (pv 0) (pv 1) rfl) (ai (eD (pv 0) (pv 2) rfl) (aA (eD (pv 0) (pv 3) rfl))),?_};have Y:=hJ "records" r [];have W:=hJ "ending" e (cE "records" r []);simp only[cH]at Y;refine{_,Z9,_,Z9,b,CB,dx,[],Z9,hb,T.cl,T.nR,(by show 0<1000;decide),_,Z9,_,Z9,b,CB,dx,_,Z9,ag,T.cl,T.nE,(by omega),_,Z9,_,Z9,b,CB,dx,_,Z9,ag,T.cl,T.nS,(by omega),?_};exact k _ ag (((But.upd b H _).trans (But.upd b _ _)).trans (But.upd b _ _))
theorem Bp(r e s:V):(z8 r e s).lookup ("records":Str)=Z8 r:=rfl
theorem Nu(r e s:V):(z8 r e s).lookup ("ending":Str)=Z8 e:=rfl
theorem Nv(r e s:V):(z8 r e s).lookup ("states":Str)=Z8 s:=rfl
def qh(Z:Str):Sp:=fun vs H Q _=>∃a,vs=[a]/\Q (.str Z) H
theorem Eu:bK ["self"] ["self"] (aN mw):={}
theorem qZ(F:Fun K "word" "Nought.word" mw f fd):pV P w K mg base CX0 1 f fd ["self"] (qh "nought"):=by
 refine F.okH Eu (fun vs H Q E h=>?_) (fun Z A outer s H vs Q E h=>?_)
 ·obtain⟨a,rfl,_⟩:=h;rfl
 obtain⟨a,rfl,q⟩:=h;exact{_,aA (bJ cg),q}
end
mutual
def Dd.toOk(m:Int):Dd->Prop
 |.send to _ _ _ _ _=>0<=to/\to<m
 |.pull _ _ o=>o.toOk m
 |.ife _ t e=>t.toOk m/\e.toOk m
 |_=>True
def Ds.toOk(m:Int):Ds->Prop
 |.nil=>True
 |.cons d r=>d.toOk m/\r.toOk m
end
def ddz:Nat->Nat
 |0=>1
 |n+1=>1+6*ddz n
structure MD where
 nm:Str
 bs:List Str
 qs:List Str
 ds:List Int
 hs:List (Str×Ds)
 ps:List (Str×Int)
def Bq(H:Hp)(v:V)(M:MD):Prop:=∃(t bl Y:aa) (W O U:V) (Z:List V),v=.ref t/\H t=Z8 (.tup [W,.ref bl,.ref Y,O,U])/\H bl=Z8 (.lst Z)/\gO H M.ps Z/\H Y=Z8 (.lst (M.qs.map V.str))
structure MoI(m:Int)(H:Hp)(v:V)(M:MD):Prop where
 ma:vV M.bs M.qs M.ds M.hs H v
 fs:Bq H v M
 kb:M.ps.map (·.1)=M.bs
 nb:M.bs.Nodup
 nq:M.qs.Nodup
 lb:M.bs.length<=9
 lq:M.qs.length<=9
 ld:M.ds.length<=100
 lh:M.hs.length<=9
 wb:∀q∈M.ps,Wo q.2
 hk:∀q∈M.hs,q.2.toOk m/\q.2.deep<=4/\q.2.size<=3*ddz 4
theorem Bq.same{H H':Hp}(s:aT H H'){v:V}{M:MD}(h:Bq H v M):Bq H' v M:=by
 obtain⟨t,bl,U,Y,J,O,W,e,h1,h2,Z,I⟩:=h;exact{t,bl,U,Y,J,O,W,e,s _ _ h1,s _ _ h2,Z.same s,s _ _ I}
theorem MoI.same{m:Int}{H H':Hp}(s:aT H H'){v:V}{M:MD}(h:MoI m H v M):MoI m H' v M:=
 {h.ma.same s,h.fs.same s,h.kb,h.nb,h.nq,h.lb,h.lq,h.ld,h.lh,h.wb,h.hk}
def yN(m:Int)(H:Hp)(Z:aa)(Ms:List MD):Prop:=∃xs,H Z=Z8 (.lst xs)/\aH (MoI m H) xs Ms
theorem yN.same{m:Int}{H H':Hp}(s:aT H H'){Z:aa}{Ms:List MD}(h:yN m H Z Ms):yN m H' Z Ms:=by
 obtain⟨xs,h1,h2⟩:=h;exact{xs,s _ _ h1,Paired.mono (fun _ _ z=>z.same s) h2}
abbrev qi(zs:List (V×List Int)):Prop:=zs.Pairwise (fun a b=>HT.lexLt b.2 a.2=true)
theorem qi.put{zs:List (V×List Int)}{x:V×List Int}{i:Nat}(h:qi zs)(h1:∀(j:Nat) z,j<i->zs[j]?=Z8 z->HT.lexLt x.2 z.2=true)(h2:∀(j:Nat) z,i<=j->zs[j]?=Z8 z->HT.lexLt z.2 x.2=true):qi (zs.take i++x::zs.drop i):=by
 have a1:∀a∈zs.take i,HT.lexLt x.2 a.2=true:=fun a ha=>by
  obtain⟨j,Z⟩:=dB ha;have lt:j<(zs.take i).length:=(aF.mp Z).1;rw[cK]at lt;rw[ze (by omega)]at Z;exact h1 j a (by omega) Z
 have a2:∀a∈zs.drop i,HT.lexLt a.2 x.2=true:=fun a ha=>by
  obtain⟨j,Z⟩:=dB ha;rw[EY]at Z;exact h2 (i+j) a (by omega) Z
 have Y:qi (zs.take i++zs.drop i):=by
  rw[qA];exact h
 obtain⟨W,p2,U⟩:=gZ.mp Y;refine gZ.mpr {W,gH.mpr {fun b hb=>a2 b hb,p2},fun a ha b hb=>?_}
 rcases ar.mp hb with z|z
 ·rw[z];exact a1 a ha
 ·exact U a ha b z
theorem qi.at_{zs:List (V×List Int)}(h:qi zs){i j:Nat}(lt:i<j){y z:V×List Int}(hi:zs[i]?=Z8 y)(Z:zs[j]?=Z8 z):HT.lexLt z.2 y.2=true:=by
 obtain⟨W,e1⟩:=aF.mp hi;obtain⟨U,Y⟩:=aF.mp Z;have:=c9.mp h i j W U lt;rw[e1,Y]at this;exact this
section
variable{P:aL}{w:bA}{K:af}{mg:Str->Option ae}{base:cu}{f fP:aa}{fd fdP:bS}
inductive Hz(vs:List V)(H:Hp)(Q:VK)(_e:XK):Prop where
 |mk(q b:aa)(zs:List (V×List Int))(n:List Int)(_:vs=[.ref q,.ref b])(_:H q=Z8 (.lst (zs.map (·.1))))(_:(∀z∈zs,Bc H z))(_:qi zs)(_:Bc H (.ref b,n))(_:n∉zs.map (·.2))(_:zs.length<=10000000)(_:∀i:Nat,i<=zs.length->qi (zs.take i++(V.ref b,n)::zs.drop i)->Q (.int i) H):Hz vs H Q _e
def Lm:Sp:=fun vs H Q Z=>Hz vs H Q Z
theorem Nx(D:Df K mg "place_in" oq ["falling","thing"] f fd)(B:Bl mg):bh P w K mg base CX0 1 f fd ["falling","thing"] Lm:=by
 refine D.F.ok xU (fun vs H Q E h=>?_) (fun cp A outer s H vs Q E hr h=>?_)
 ·obtain⟨q,b,zs,n,rfl,_⟩:=h;rfl
 obtain⟨q,b,zs,n,rfl,hq,hz,W,hb,nn,hl,k⟩:=h;have hu:=lQ hr;obtain⟨b0,kb,rb,eb,J,Y⟩:=hb
 cases eb;refine⟨_,ai (bM (i:=2) xU.nd rfl (Or.inl rfl) aw)
  (ai (bM (i:=3) xU.nd rfl (Or.inl rfl) (cT ij (by rfl) B.len cy (ak (pv 0) aj)))
  (ai (vv cF (bP qI (pv 2) (pv 3) (bV _))
   (ai (bM (i:=4) xU.nd rfl (Or.inl rfl) (cQ IM (cQ gQ (pv 2) (pv 3)) aw))
   (aA (cN (bP (MP hu) (bX dQ (pv 0) (pv 4) (fun _ _=>rfl)) (pv 1) (bV _))
    (aA (bM (i:=2) xU.nd rfl (Or.inl rfl) (cQ gQ (pv 4) aw)))
    (aA (bM (i:=3) xU.nd rfl (Or.inl rfl) (pv 4)))))))
  (aA (bJ (pv 2))))),?_⟩
 refine{_,Z9,q,_,Z9,.inl (SqL.of hq),?_};refine zu (fun σ H2=>∃(lo hi:Nat) (m:Option V),σ=[Z8 (.ref q),Z8 (.ref b),Z8 (.int lo),Z8 (.int hi),m]/\H2=H/\lo<=hi/\hi<=zs.length /\
   (∀(j:Nat) (z:V×List Int),j<lo->zs[j]?=Z8 z->HT.lexLt n z.2=true)/\∀(j:Nat) (z:V×List Int),hi<=j->zs[j]?=Z8 z->HT.lexLt n z.2=false)
  (fun σ _=>match σ with | [_,_,Z8 (.int lo),Z8 (.int hi),_]=>(hi-lo).toNat|_=>0) ?_ ?_ ?_
 ·refine{0,zs.length,Z7,?_,Z9,bO _,aB _,fun j z h=>absurd h (gX _),fun j z h e=>?_}
  ·rw[aq];rfl
  ·rw[gI (by omega)]at e
   cases e
 ·rintro σ H2 ⟨lo,hi,m,rfl,rfl,h1,h2,h3,h4⟩;refine{_,Z9,_,Z9,_,_,Z9,Z9,_,Z9,?_};refine gp (fun c=>?_) (fun c=>?_)
  ·have c:lo<hi:=by
    have z:=of_decide_eq_true c;omega
   refine{_,Z9,_,Z9,_,_,Z9,Z9,_,_,Z9,Z9,{by decide,by decide},?_};have em:((lo:Int)+(hi:Int))/2=(((lo+hi)/2:Nat):Int):=by omega
   have lm:(lo+hi)/2<zs.length:=by omega
   obtain⟨z,Z⟩:∃z,zs[(lo+hi)/2]?=Z8 z:={_,aO lm};have mz:=bD Z;obtain⟨az,kz,rz,ez,U,cr⟩:=hz z mz;have ea:(zs.map (·.1))[(lo+hi)/2]?=Z8 (.ref az):=by rw[cm,Z,F3,ez]
   have nz:z.2≠n:=fun y=>nn (by rw[<- y];exact je mz);refine{_,Z9,_,Z9,q,_,_,_,Z9,Z9,SqL.of hq,(by rw[em];exact jU ea),_,Z9,az,b,kz,kb,z.2,n,rz,rb,Z9,Z9,U,J,cr,Y,nz,_,Z9,?_};refine gp (fun g=>?_) (fun g=>?_)
   ·refine{_,Z9,_,_,Z9,Z9,{(lo+hi)/2+1,hi,Z8 (.int (((lo:Int)+(hi:Int))/2)),?_,Z9,by omega,h2,fun j y M e=>?_,h4},?_}
    ·have t:(((lo+hi)/2+1:Nat):Int)=((lo:Int)+(hi:Int))/2+1:=by omega
     rw[t];rfl
    ·by_cases O:j=(lo+hi)/2
     ·rw[O,Z]at e
      cases e;exact g
     ·exact HT.lx_trans g (W.at_ (show j<(lo+hi)/2 by omega) e Z)
    ·show ((hi:Int)-(((lo:Int)+(hi:Int))/2+1)).toNat<((hi:Int)-(lo:Int)).toNat;omega
   ·refine{_,Z9,{lo,(lo+hi)/2,Z8 (.int (((lo:Int)+(hi:Int))/2)),?_,Z9,by omega,by omega,h3,fun j y M e=>?_},?_}
    ·rw[<- em];rfl
    ·have g':HT.lexLt n z.2=false:=by
      cases e':HT.lexLt n z.2 with
      |false=>rfl
      |true=>exact absurd e' g
     by_cases O:j=(lo+hi)/2
     ·rw[O,Z]at e
      cases e;exact g'
     ·have z1:=W.at_ (show (lo+hi)/2<j by omega) Z e
      cases e':HT.lexLt n y.2 with
      |false=>rfl
      |true=>
       have z2:=HT.lx_trans e' z1;rw[g']at z2
       cases z2
    ·show ((((lo:Int)+(hi:Int))/2)-(lo:Int)).toNat<((hi:Int)-(lo:Int)).toNat;omega
  ·have e:lo=hi:=by
    have z:¬((lo:Int)<(hi:Int)):=fun z=>c (decide_eq_true z);omega
   subst e;refine{_,Z9,k lo h2 (W.put h3 fun j z M e=>?_)};exact HT.lx_of_not (h4 j z M e) fun y=>nn (by
    have y:n=z.2:=y;rw[y];exact je (bD e))
 ·rintro σ H2 Q1 Q2 I h;obtain⟨a1,e1,a2,t,i,j,e3,e4,b',e5,h⟩:=h;exact{a1,e1,a2,t,i,j,e3,e4,b',e5,I _ _ h}
inductive HA(vs:List V)(H:Hp)(Q:VK)(_e:XK):Prop where
 |mk(q b:aa)(zs:List (V×List Int))(n:List Int)(_:vs=[.ref q,.ref b])(_:H q=Z8 (.lst (zs.map (·.1))))(_:(∀z∈zs,Bc H z))(_:qi zs)(_:Bc H (.ref b,n))(_:n∉zs.map (·.2))(_:zs.length<=10000000)(_:∀zs':List (V×List Int),zs'.Perm ((V.ref b,n)::zs)->qi zs'->Q .non (upd H q (.lst (zs'.map (·.1))))):HA vs H Q _e
def Cr:Sp:=fun vs H Q Z=>HA vs H Q Z
theorem Br(D:Df K mg "put_in" rM ["falling","thing"] f fd)(Z:Df K mg "place_in" oq ["falling","thing"] fP fdP)(B:Bl mg):bh P w K mg base CX0 2 f fd ["falling","thing"] Cr:=by
 have t:bh P w K mg base CX0 1 fP fdP ["falling","thing"] Lm:=Nx Z B;refine D.F.ok scPic (fun vs H Q E h=>?_) (fun Y A outer s H vs Q E I h=>?_)
 ·obtain⟨q,b,zs,n,rfl,_⟩:=h;rfl
 obtain⟨q,b,zs,n,rfl,hq,W,O,hb,U,J,k⟩:=h;refine{_,aA (dU (oQ bE PySem.F.slot_list_insert PySem.F.type_list_insert Ee (pv 0) (ak (aM t I rfl Z.m Z.F.kp Z.b .nil aY (ak (pv 0) (ak (pv 1) aj))) (ak (pv 1) aj)))),?_};have sl:10000000<aC:=by decide
 refine{_,Z9,.inl {Z9,_,SqL.of hq},_,Z9,_,Z9,q,b,zs,n,Z9,hq,W,O,hb,U,J,fun i hi M=>{_,Z9,q,_,i,.ref b,Z9,Z9,hq,by rw[aq];exact hi,by rw[aq];omega,?_}};have z:=k (zs.take i++(V.ref b,n)::zs.drop i) ?_ M
 ·rw[bT,bU,zo,List.map_drop]at z;exact z
 ·refine IB.trans ?_;rw[qA]
end
structure Sta where
 bx:List (Str×Int)
 qu:List (Str×List Int)
 dr:Nat
 se:Int
def Sta.w(s:Sta):Wk:=w0 s.bx s.qu s.dr s.se
structure Rec where
 h:Ev
 wb:List (Str×Int)
 wq:List (Str×List Int)
 out:List Ev
inductive Stp where
 |fin(h:Ev)
 |flt(e:Flt)(h:Ev)
inductive End where
 |empty
 |cut
 |stp(s:Stp)
structure RS where
 sts:List Sta
 pd:List Ev
 re:Option Ev
 sp:Option Stp
def Ev.key(e:Ev):List Int:=[e.t,e.r,e.fr,e.c]
def vX(x:Ev):List Ev->List Ev
 | []=>[x]
 |y::ys=>if HT.lexLt x.key y.key=true then y::vX x ys else x::y::ys
def oE(xs pd:List Ev):List Ev:=xs.foldl (fun p e=>vX e p) pd
abbrev mh(es:List Ev):Prop:=es.Pairwise (fun a b=>HT.lexLt b.key a.key=true)
def ib(r:RS)(left:Int):Option End:=match r.sp with
 |some s=>Z8 (.stp s)
 |none=>if r.pd.isEmpty=true then Z8 .empty else if left<=0 then Z8 .cut else Z7
def gP(Ms:List MD)(r:RS):RS×List Rec:=match r.pd.getLast? with
 |none=>(r,[])
 |some h=>match Ms[h.to.toNat]?,r.sts[h.to.toNat]? with
  |some M,Z8 s=>(match doS h M.ds (jA M.hs h.sg) s.w with
   |.error e=>({r with pd:=r.pd.dropLast,sp:=Z8 (.flt e h)},[])
   |.ok w=>({r.sts.set h.to.toNat ⟨w.bx,w.qu,w.dr,w.se⟩,oE w.out r.pd.dropLast,Z8 h,if w.en=true then Z8 (.fin h) else Z7},[{h,wrB M.bs w,wrQ M.qs w,w.out}]))
  |_,_=>(r,[])
def itR(Ms:List MD)(r:RS):Nat->RS×List Rec
 |0=>(r,[])
 |n+1=>((gP Ms (itR Ms r n).1).1,(itR Ms r n).2++(gP Ms (itR Ms r n).1).2)
theorem nA(x:Ev):∀ys:List Ev,(vX x ys).Perm (x::ys)
 | []=>jn _
 |y::ys=>by
  unfold vX
  split
  ·exact ((nA x ys).cons y).trans (List.Perm.swap x y ys)
  ·exact jn _
theorem gb:∀(xs pd:List Ev),(oE xs pd).Perm (xs++pd)
 | [],pd=>jn _
 |x::xs,pd=>by
  show (oE xs (vX x pd)).Perm _;refine (gb xs (vX x pd)).trans ?_;refine ((jn xs).append (nA x pd)).trans ?_;exact IB
theorem tN{x:Ev}:∀{ys:List Ev},mh ys->(∀y∈ys,x.key≠y.key)->mh (vX x ys)
 | [],_,_=>oR _ _
 |y::ys,h,n=>by
  obtain⟨h1,h2⟩:=gH.mp h;unfold vX
  by_cases c:HT.lexLt x.key y.key=true
  ·rw[if_pos c];refine gH.mpr {fun z Z=>?_,tN h2 fun z Z=>n z (ah _ Z)}
   rcases ar.mp ((nA x ys).mem_iff.mp Z) with e|e
   ·rw[e];exact c
   ·exact h1 z e
  ·rw[if_neg c];have lt:HT.lexLt y.key x.key=true:=HT.lx_of_not (by
    cases e:HT.lexLt x.key y.key with
    |false=>rfl
    |true=>exact absurd e c) (n y ax)
   refine gH.mpr {fun z Z=>?_,h}
   rcases ar.mp Z with e|e
   ·rw[e];exact lt
   ·exact HT.lx_trans (h1 z e) lt
theorem xV:∀{xs ys:List Ev},mh xs->mh ys->xs.Perm ys->xs=ys
 | [],ys,_,_,p=>(List.nil_perm.mp p).symm ▸ rfl
 |x::xs,[],_,_,p=>absurd p (by intro z;have:=z.length_eq;simp at this)
 |x::xs,y::ys,h,k,p=>by
  obtain⟨h1,h2⟩:=gH.mp h;obtain⟨k1,k2⟩:=gH.mp k;have e:x=y:=by
   rcases ar.mp (p.mem_iff.mp (ax (a:=x) (l:=xs))) with z|z
   ·exact z
   ·rcases ar.mp (p.mem_iff.mpr (ax (a:=y) (l:=ys))) with q|q
    ·exact q.symm
    ·have a:=k1 x z;have b:=HT.lx_asym (h1 y q);rw[a]at b
     cases b
  subst e;rw[xV h2 k2 ((List.perm_cons x).mp p)]
structure Ln(m:Int)(h:Ev)(se se':Int)(e:Ev):Prop where
 fr:e.fr=h.to
 c0:se<=e.c
 c1:e.c<se'
 t0:h.t<e.t
 t1:e.t<=10^12
 to0:0<=e.to
 to1:e.to<m
structure News(m:Int)(h:Ev)(n:Nat)(w w':Wk):Prop where
 se:w.se<=w'.se
 ex:∃new,w'.out=w.out++new/\new.length<=n/\(∀e∈new,Ln m h w.se w'.se e)/\new.Pairwise (fun a b=>a.c<b.c)
theorem News.none{m:Int}{h:Ev}{n:Nat}{w Z:Wk}(e1:Z.se=w.se)(Y:Z.out=w.out):News m h n w Z:=
 {by rw[e1];exact wO _,[],by rw[Y,cB],bO _,(fun e W=>by cases W),List.Pairwise.nil}
theorem News.trans{m:Int}{h:Ev}{U I:Nat}{w D V:Wk}(a:News m h U w D)(b:News m h I D V):News m h (U+I) w V:=by
 obtain⟨s1,x1,e1,l1,M,t⟩:=a;obtain⟨s2,x2,g,l2,H,p2⟩:=b;refine{Int.le_trans s1 s2,x1++x2,by rw[g,e1,jK],by rw[ay];omega,fun e he=>?_,gZ.mpr {t,p2,fun a ha b hb=>?_}}
 ·rcases cv.mp he with z|z
  ·obtain⟨f,J,O,Z,t1,Y,W⟩:=M e z;exact{f,J,by omega,Z,t1,Y,W}
  ·obtain⟨f,J,O,Z,t1,Y,W⟩:=H e z;exact{f,by omega,O,Z,t1,Y,W}
 ·have:=(M a ha).c1;have:=(H b hb).c0;omega
theorem News.le{m:Int}{h:Ev}{Z Y:Nat}{w W:Wk}(a:News m h Z w W)(l:Z<=Y):News m h Y w W:=by
 obtain⟨U,x1,e1,M,O,V⟩:=a;exact{U,x1,e1,by omega,O,V}
theorem News.from{m:Int}{h:Ev}{n:Nat}{w0 w Z:Wk}(a:News m h n w Z)(e1:w.se=w0.se)(U:w.out=w0.out):News m h n w0 Z:=by
 obtain⟨Y,x1,f1,O,W,V⟩:=a;rw[e1]at Y W;exact{Y,x1,by rw[f1,U],O,W,V}
theorem q8{h:Ev}{w Z:Wk}{f:Fm}{k:Wk->Int->Except Flt Wk}(e:rck h w f k=.ok Z):∃n,k {w with rk:=w.rk++[f]} n=.ok Z:=by
 unfold rck at e
 split at e
 ·exact{_,e}
 ·cases e
 ·cases e
mutual
theorem HB{m:Int}{h:Ev}{ds:List Int}:∀(D:Dd) (w Z:Wk),D.toOk m->doD h ds D w=.ok Z->News m h D.size w Z
 |.put x f,w,Z,_,e=>by
  simp only[doD]at e;obtain⟨n,e⟩:=q8 e
  cases e;exact News.none rfl rfl
 |.push q f,w,Z,_,e=>by
  simp only[doD]at e;obtain⟨n,e⟩:=q8 e;try dsimp only at e
  split at e
  ·cases e
  ·cases e;exact News.none rfl rfl
 |.pull q x o,w,Z,to,e=>by
  simp only[doD]at e;simp only[Dd.toOk]at to
  split at e
  ·exact ((nC o _ _ to e).le (gc _)).from rfl rfl
  ·cases e;exact News.none rfl rfl
 |.draw x f,w,Z,_,e=>by
  simp only[doD]at e;obtain⟨n,e⟩:=q8 e;try dsimp only at e
  split at e
  ·cases e
  ·split at e
   ·cases e
   ·cases e;exact News.none rfl rfl
 |.send to V sp rk a b,w,Z,Y,e=>by
  simp only[doD]at e;simp only[Dd.toOk]at Y;obtain⟨n,e⟩:=q8 e;try dsimp only at e
  split at e
  ·cases e
  ·rename_i c
   obtain⟨x,e⟩:=q8 e;obtain⟨y,e⟩:=q8 e;try dsimp only at e
   split at e
   ·cases e
   ·rename_i c2
    cases e;refine{?_,[_],Z9,aB _,fun q hq=>?_,oR _ _}
    ·show w.se<=w.se+1;omega
    ·rw[aE.mp hq];exact{Z9,wO _,(by show w.se<w.se+1;omega),(by show h.t<h.t+n;omega),(by show h.t+n<=10^12;omega),Y.1,Y.2}
 |.ife f t W,w,Z,to,e=>by
  simp only[doD]at e;simp only[Dd.toOk]at to;obtain⟨n,e⟩:=q8 e;try dsimp only at e
  simp only[Dd.size]
  split at e
  ·exact ((nC W _ _ to.2 e).le (by omega)).from rfl rfl
  ·exact ((nC t _ _ to.1 e).le (by omega)).from rfl rfl
 |.fin,w,Z,_,e=>by
  simp only[doD]at e
  cases e;exact News.none rfl rfl
theorem nC{m:Int}{h:Ev}{ds:List Int}:∀(D:Ds) (w Z:Wk),D.toOk m->doS h ds D w=.ok Z->News m h D.size w Z
 |.nil,w,Z,_,e=>by
  simp only[doS]at e
  cases e;exact News.none rfl rfl
 |.cons d r,w,Z,to,e=>by
  simp only[doS]at e;simp only[Ds.toOk]at to;simp only[Ds.size]
  split at e
  ·rename_i w1 e1
   exact (HB d _ _ to.1 e1).trans (nC r _ _ to.2 e)
  ·cases e
end
structure z9(m:Nat)(e:Ev):Prop where
 to0:0<=e.to
 to1:e.to<m
 wt:Wo e.t
 wa:Wo e.a
 wb:Wo e.b
structure ROk(m:Nat)(r:RS):Prop where
 len:r.sts.length=m
 fall:mh r.pd
 ev:∀e∈r.pd,z9 m e
 cn:∀e∈r.pd,e.fr=-1\/∃(i:Nat) (s:Sta),e.fr=(i:Int)/\r.sts[i]?=Z8 s/\e.c<s.se
theorem tO{pd:List Ev}{h:Ev}(f:mh (pd++[h])):mh pd/\∀e∈pd,HT.lexLt h.key e.key=true:=by
 obtain⟨f1,_,Z⟩:=gZ.mp f;exact{f1,fun e Y=>Z e Y h (aE.mpr rfl)}
theorem vY{pd:List Ev}{h:Ev}(e:pd.getLast?=Z8 h):pd=pd.dropLast++[h]:=by
 obtain⟨ys,rfl⟩:=List.getLast?_eq_some_iff.mp e;rw[Cs]
theorem vZ{a b:Ev}(h:a.fr≠b.fr\/a.c≠b.c):a.key≠b.key:=fun z=>by
 unfold Ev.key at z;simp only[Ct]at z
 rcases h with h|h
 ·exact h z.2.2.1
 ·exact h z.2.2.2.1
theorem qB:∀{xs pd:List Ev},mh pd->(∀x∈xs,∀y∈pd,x.key≠y.key)->xs.Pairwise (fun a b=>a.key≠b.key)->mh (oE xs pd)
 | [],_,h,_,_=>h
 |x::xs,pd,h,n,p=>by
  obtain⟨Y,p2⟩:=gH.mp p;refine qB (xs:=xs) (tN h fun y hy=>n x ax y hy) (fun z Z y hy=>?_) p2
  rcases ar.mp ((nA x pd).mem_iff.mp hy) with e|e
  ·rw[e];exact fun q=>Y z Z q.symm
  ·exact n z (ah _ Z) y e
structure Did(Ms:List MD)(r:RS)(h:Ev)(M:MD)(s:Sta):Prop where
 pd:r.pd=r.pd.dropLast++[h]
 hM:Ms[h.to.toNat]?=Z8 M
 hs:r.sts[h.to.toNat]?=Z8 s
theorem rS{Ms:List MD}{r:RS}{h:Ev}{M:MD}{s:Sta}(d:Did Ms r h M s){e:Flt}(q:doS h M.ds (jA M.hs h.sg) s.w=.error e):gP Ms r=({r with pd:=r.pd.dropLast,sp:=Z8 (.flt e h)},[]):=by
 have l:r.pd.getLast?=Z8 h:=by
  rw[d.pd,Cu]
 unfold gP;rw[l];dsimp only;rw[d.hM,d.hs];dsimp only;rw[q]
theorem ve{Ms:List MD}{r:RS}{h:Ev}{M:MD}{s:Sta}(d:Did Ms r h M s){w:Wk}(q:doS h M.ds (jA M.hs h.sg) s.w=.ok w):gP Ms r=({r.sts.set h.to.toNat ⟨w.bx,w.qu,w.dr,w.se⟩,oE w.out r.pd.dropLast,Z8 h,if w.en=true then Z8 (.fin h) else Z7},[{h,wrB M.bs w,wrQ M.qs w,w.out}]):=by
 have l:r.pd.getLast?=Z8 h:=by
  rw[d.pd,Cu]
 unfold gP;rw[l];dsimp only;rw[d.hM,d.hs];dsimp only;rw[q]
theorem Aa{m:Nat}{Ms:List MD}{r:RS}{h:Ev}{M:MD}{s:Sta}(k:ROk m r)(d:Did Ms r h M s){n:Nat}{w:Wk}(N:News m h n s.w w):(∀x∈w.out,∀y∈r.pd.dropLast,x.key≠y.key)/\w.out.Pairwise (fun a b=>a.key≠b.key)/\(∀x∈w.out,Ln m h s.se w.se x):=by
 obtain⟨J,new,e,I,W,hp⟩:=N;have e:w.out=new:=e;rw[e];have Y:h∈r.pd:=by
  rw[d.pd];exact bC _ (aE.mpr rfl)
 have h0:=(k.ev h Y).to0;refine{fun x hx y hy=>?_,hp.imp fun z=>vZ (.inr (by omega)),W};have o:=W x hx;have Z:y∈r.pd:=iV _ hy
 rcases k.cn y Z with z|⟨i,s',O,U,D⟩
 ·refine vZ (.inl ?_);rw[o.fr,z];omega
 ·by_cases c:y.fr=h.to
  ·refine vZ (.inr ?_);have V:h.to.toNat=i:=by omega
   have:=d.hs;rw[V,U]at this
   cases this;have H:s.se<=x.c:=o.c0;omega
  ·refine vZ (.inl ?_);rw[o.fr];exact fun q=>c q.symm
theorem HC{m:Nat}{Ms:List MD}{r:RS}{h:Ev}{M:MD}{s:Sta}(k:ROk m r)(d:Did Ms r h M s){n:Nat}{w:Wk}(q:doS h M.ds (jA M.hs h.sg) s.w=.ok w)(N:News m h n s.w w)(O:∀e∈w.out,Wo e.a/\Wo e.b):ROk m (gP Ms r).1:=by
 rw[ve d q];obtain⟨I,H,V⟩:=Aa k d N;have f:=k.fall;rw[d.pd]at f;obtain⟨f1,f2⟩:=tO f;refine{by rw[IY];exact k.len,qB f1 I H,fun e Y=>?_,fun e Y=>?_}
 ·rcases cv.mp ((gb _ _).mem_iff.mp Y) with z|z
  ·obtain⟨a,b,c,d',e',D,g'⟩:=V e z;have Z:h∈r.pd:=by
    rw[d.pd];exact bC _ (aE.mpr rfl)
   have ht:=(k.ev h Z).wt;have w1:(10:Int)^15=1000000000000000:=by decide
   have t:(10:Int)^12=1000000000000:=by decide
   refine{D,g',?_,(O e z).1,(O e z).2};unfold Wo at ht |-;omega
  ·exact k.ev e (iV _ z)
 ·have lt:h.to.toNat<r.sts.length:=(aF.mp d.hs).1;have Z:h∈r.pd:=by
   rw[d.pd];exact bC _ (aE.mpr rfl)
  have h0:=(k.ev h Z).to0
  rcases cv.mp ((gb _ _).mem_iff.mp Y) with z|z
  ·obtain⟨a,b,c,_⟩:=V e z;refine .inr {h.to.toNat,_,by omega,fq lt,c}
  ·rcases k.cn e (iV _ z) with y|⟨i,s',W,J,U⟩
   ·exact .inl y
   ·by_cases c:h.to.toNat=i
    ·subst c;have es:s=s':=cI (d.hs.symm.trans J);rw[<- es]at U;refine .inr {_,_,W,fq lt,?_};have g:s.se<=w.se:=N.se;show e.c<w.se;omega
    ·exact .inr {i,s',W,by rw[iU c];exact J,U}
theorem Ew{m:Nat}{Ms:List MD}{r:RS}{h:Ev}{M:MD}{s:Sta}(k:ROk m r)(d:Did Ms r h M s){e:Flt}(q:doS h M.ds (jA M.hs h.sg) s.w=.error e):ROk m (gP Ms r).1:=by
 rw[rS d q];have f:=k.fall;rw[d.pd]at f;exact{k.len,(tO f).1,fun e Z=>k.ev e (iV _ Z),fun e Z=>k.cn e (iV _ Z)}
structure Ex where
 l:List aa
 b:Hp
def Ex.In(ex:Ex)(a:aa):Prop:=a∈ex.l\/∃o,ex.b a=Z8 o/\∀xs,o≠.tup xs
instance:Membership Addr Ex:={fun ex a=>ex.In a}
def Ex.add(ex:Ex)(a:aa):Ex:={a::ex.l,ex.b}
theorem Ex.here{ex:Ex}{a:aa}:a∈ex.add a:=.inl ax
theorem Ex.more{ex:Ex}{a b:aa}(h:b∈ex):b∈ex.add a:=h.elim (fun z=>.inl (ah _ z)) .inr
theorem Ex.or{ex:Ex}{a b:aa}(h:b∈ex.add a):b=a\/b∈ex:=h.elim (fun z=>(ar.mp z).elim .inl fun y=>.inr (.inl y)) fun z=>.inr (.inr z)
open Classical in
noncomputable def Hid(ex:Ex)(G:Hp):Hp:=fun a=>if a∈ex then Z7 else G a
section
variable{ex:Ex}{G G':Hp}{a:aa}{o:HO}
theorem dN(e:Hid ex G a=Z8 o):a∉ex:=fun m=>by
 unfold Hid at e;rw[if_pos m]at e
 cases e
theorem cW(n:a∉ex):Hid ex G a=G a:=if_neg n
theorem cG:aT (Hid ex G) G:=fun b o e=>by
 rw[cW (dN e)]at e;exact e
theorem iD(m:a∈ex):Hid ex (upd G a o)=Hid ex G:=by
 funext b
 unfold Hid
 by_cases c:b∈ex
 ·rw[if_pos c,if_pos c]
 ·rw[if_neg c,if_neg c,aJ fun z=>c (by rw[z];exact m)]
theorem gD(s:aT G G'):aT (Hid ex G) (Hid ex G'):=fun b o e=>by
 rw[cW (dN e)];exact s _ _ (cG _ _ e)
theorem Ny(s:∀b o,G b=Z8 o->b∉ex->G' b=Z8 o):aT (Hid ex G) (Hid ex G'):=fun b o e=>by
 rw[cW (dN e)];exact s _ _ (cG _ _ e) (dN e)
theorem gs{xs:List V}(Z:∀a∈ex,∃o,G a=Z8 o/\∀xs,o≠.tup xs)(h:G a=Z8 (.tup xs)):Hid ex G a=Z8 (.tup xs):=by
 rw[cW fun m=>by
  obtain⟨o,e,n⟩:=Z a m;rw[e]at h
  cases h;exact n _ rfl]
 exact h
theorem qj(n:G a=Z7):Hid (ex.add a) (upd G a o)=Hid ex G:=by
 funext b
 unfold Hid
 by_cases c:b=a
 ·rw[c,if_pos Ex.here]
  by_cases d:a∈ex
  ·rw[if_pos d]
  ·rw[if_neg d,n]
 ·by_cases d:b∈ex
  ·rw[if_pos d,if_pos (Ex.more d)]
  ·rw[if_neg d,if_neg (fun z=>(Ex.or z).elim c d),aJ c]
theorem Ab:aT (Hid (ex.add a) G) (Hid ex G):=fun b o e=>by
 rw[cW fun m=>dN e (Ex.more m)];exact cG _ _ e
end
abbrev Bs(h:Ev):HO:=.tup [.int h.t,.int h.r,.int h.fr,.int h.c]
def RcIn(F:Hp)(v:V)(q:Rec):Prop:=∃(W k U od:aa) (Z Y vs:List V) (O:List (Str×aa)),v=.ref W/\F W=Z8 (.tup [.ref k,.int q.h.to,.str q.h.sg,.int q.h.a,.int q.h.b,.ref U,.ref od])/\F k=Z8 (Bs q.h) /\
 F U=Z8 (.lst (Z++Y))/\aH (yL F) Z q.wb/\aH (z7 F) Y O/\gj F O q.wq/\F od=Z8 (.lst vs)/\aH (ip F) vs q.out
theorem RcIn.same{F W:Hp}(s:aT F W){v:V}{q:Rec}(h:RcIn F v q):RcIn W v q:=by
 obtain⟨O,k,J,od,Z,Y,vs,D,e,h1,h2,U,t,M,I,g,H⟩:=h;exact{O,k,J,od,Z,Y,vs,D,e,s _ _ h1,s _ _ h2,s _ _ U,Paired.mono (fun _ _ z=>z.keep fun a xs e=>s _ _ e) t,Paired.mono (fun _ _ z=>z.keep fun a xs e=>s _ _ e) M,I.same s,s _ _ g,Paired.mono (fun _ _ z=>z.same s) H}
def qO:Flt->Str
 |.nought=>"nought"
 |.great=>"great"
 |.full=>"full"
 |.dry=>"dry"
 |.span=>"span"
 |.late=>"late"
def yO(F:Hp)(v:V):Option Ev->Prop
 |none=>v=.non
 |some h=>∃k,v=.ref k/\F k=Z8 (Bs h)
def v9(F:Hp)(v:V):Stp->Prop
 |.fin h=>∃t k,v=.ref t/\F t=Z8 (.tup [.str "end",.ref k])/\F k=Z8 (Bs h)
 |.flt e h=>∃t k,v=.ref t/\F t=Z8 (.tup [.str "fault",.str (qO e),.ref k])/\F k=Z8 (Bs h)
def yP(F:Hp)(v:V):Option Stp->Prop
 |none=>v=.non
 |some s=>v9 F v s
def nF(F:Hp)(v:V):End->Prop
 |.empty=>∃t,v=.ref t/\F t=Z8 (.tup [.str "empty"])
 |.cut=>∃t,v=.ref t/\F t=Z8 (.tup [.str "cut"])
 |.stp s=>v9 F v s
theorem yO.same{F Z:Hp}(s:aT F Z){v:V}:∀{q:Option Ev},yO F v q->yO Z v q
 |none,h=>h
 |some _,⟨k,e,h⟩=>{k,e,s _ _ h}
theorem v9.same{F Z:Hp}(s:aT F Z){v:V}:∀{q:Stp},v9 F v q->v9 Z v q
 |.fin _,⟨t,k,e,h1,h2⟩=>{t,k,e,s _ _ h1,s _ _ h2}
 |.flt _ _,⟨t,k,e,h1,h2⟩=>{t,k,e,s _ _ h1,s _ _ h2}
theorem yP.same{F Z:Hp}(s:aT F Z){v:V}:∀{q:Option Stp},yP F v q->yP Z v q
 |none,h=>h
 |some _,h=>v9.same s h
theorem nF.same{F Z:Hp}(s:aT F Z){v:V}:∀{q:End},nF F v q->nF Z v q
 |.empty,⟨t,e,h⟩=>{t,e,s _ _ h}
 |.cut,⟨t,e,h⟩=>{t,e,s _ _ h}
 |.stp _,h=>v9.same s h
def iz(m s p r e:V):List (Str×V):=[("model",m),("states",s),("pending",p),("reached",r),("stopped",e)]
structure CoT(K:af)(mg:Str->Option ae)(CC:aa):Prop where
 cl:Cls K CC
 nM:eC K CC "model"
 nS:eC K CC "states"
 nP:eC K CC "pending"
 nR:eC K CC "reached"
 nE:eC K CC "stopped"
 m:mg "Course"=Z8 (.ref CC)
theorem co_m(m s p r e:V):(iz m s p r e).lookup ("model":Str)=Z8 m:=rfl
theorem HD(m s p r e:V):(iz m s p r e).lookup ("states":Str)=Z8 s:=rfl
theorem JU(m s p r e:V):(iz m s p r e).lookup ("pending":Str)=Z8 p:=rfl
theorem co_r(m s p r e:V):(iz m s p r e).lookup ("reached":Str)=Z8 r:=rfl
theorem JV(m s p r e:V):(iz m s p r e).lookup ("stopped":Str)=Z8 e:=rfl
theorem wc(m s p r e:V):(iz m s p r e).length<1000:=by show 5<1000;decide
theorem Nz(m s p r e:V):cE "stopped" e (cE "reached" r (cE "pending" p (cE "states" s (cE "model" m []))))=iz m s p r e:=rfl
theorem Cv(m s p r e Z:V):cE "reached" Z (iz m s p r e)=iz m s p Z e:=rfl
theorem yQ(m s p r e Z:V):cE "stopped" Z (iz m s p r e)=iz m s p r Z:=rfl
theorem wg(m s p r e:V){x:Str}(hx:(["model","states","pending","reached","stopped"]:List Str).contains x=false):(iz m s p r e).lookup x=Z7:=by
 have z:∀k∈(["model","states","pending","reached","stopped"]:List Str),(x==k)=false:=fun k hk=>beq_eq_false_iff_ne.mpr fun e=>by
  rw[e,kj.mpr hk]at hx
  cases hx
 unfold iz;rw[dM (z _ (by simp)),dM (z _ (by simp)),dM (z _ (by simp)),dM (z _ (by simp)),dM (z _ (by simp))];rfl
def uC(CM:aa)(Ms:List MD)(H:Hp)(m:aa):Prop:=∃(dx Z:aa) (fs:List (Str×V)),H m=Z8 (.ins CM dx fs)/\fs.lookup ("machines":Str)=Z8 (.ref Z)/\yN (Ms.length:Int) H Z Ms
theorem uC.same{CM:aa}{Ms:List MD}{H H':Hp}(s:aT H H'){m:aa}(h:uC CM Ms H m):uC CM Ms H' m:=by
 obtain⟨dx,Y,fs,h1,h2,Z⟩:=h;exact{dx,Y,fs,s _ _ h1,h2,Z.same s}
abbrev StA(CS:aa)(F:Hp):aa->Sta->Prop:=fun a s=>iG CS F a s.bx s.qu s.dr s.se
structure iq(CC CS:aa)(Ms:List MD)(Hb:Hp)(ex:Ex)(G:Hp)(co m sl pl:aa)(r:RS):Prop where
 ok:ROk Ms.length r
 sm:∀b o,Hb b=Z8 o->b≠co/\b≠sl/\b≠pl/\G b=Z8 o
 i1:co∈ex
 i2:sl∈ex
 i3:pl∈ex
 n1:co≠sl
 n2:co≠pl
 n3:sl≠pl
 hc:∃dx rv sv,G co=Z8 (.ins CC dx (iz (.ref m) (.ref sl) (.ref pl) rv sv))/\yO (Hid ex G) rv r.re/\yP (Hid ex G) sv r.sp
 hs:∃ss:List aa,G sl=Z8 (.lst (ss.map V.ref))/\aH (StA CS (Hid ex G)) ss r.sts
 hp:∃ps,G pl=Z8 (.lst ps)/\aH (ip (Hid ex G)) ps r.pd
 wk:∀(i:Nat) (M:MD) (s:Sta),Ms[i]?=Z8 M->r.sts[i]?=Z8 s->p9 M.bs M.qs s.w
 nt:∀a∈ex,∃o,G a=Z8 o/\∀xs,o≠.tup xs
theorem iG.same'{CS:aa}{H H':Hp}(s:aT H H'){st:aa}{bx:List (Str×Int)}{qu:List (Str×List Int)}{dr:Nat}{se:Int}(h:iG CS H st bx qu dr se):iG CS H' st bx qu dr se:=by
 obtain⟨dx,W,Y,V,h1,h2,Z,U⟩:=h;exact{dx,W,Y,V,s _ _ h1,s _ _ h2,s _ _ Z,U.same s}
section
variable{CC CS:aa}{Ms:List MD}{Hb G G':Hp}{ex:Ex}{co m sl pl:aa}{r:RS}
theorem iq.same(c:iq CC CS Ms Hb ex G co m sl pl r)(s:aT G G'):iq CC CS Ms Hb ex G' co m sl pl r:=by
 obtain⟨dx,O,U,h1,h2,Z⟩:=c.hc;obtain⟨ss,W,Y⟩:=c.hs;obtain⟨ps,V,M⟩:=c.hp;have f:=gD (ex:=ex) s;exact⟨c.ok,fun b o e=>(c.sm b o e).imp id (xW id (xW id (s _ _))),c.i1,c.i2,c.i3,c.n1,c.n2,c.n3,{dx,O,U,s _ _ h1,h2.same f,Z.same f},{ss,s _ _ W,Paired.mono (fun _ _ z=>iG.same' f z) Y},{ps,s _ _ V,Paired.mono (fun _ _ z=>z.same f) M},c.wk,fun a ha=>by
  obtain⟨o,e,n⟩:=c.nt a ha;exact{o,s _ _ e,n}⟩
theorem iq.more(c:iq CC CS Ms Hb ex G co m sl pl r){a:aa}{o:HO}(n:G a=Z7)(O:∀xs,o≠.tup xs):iq CC CS Ms Hb (ex.add a) (upd G a o) co m sl pl r:=by
 obtain⟨dx,V,M,h1,h2,W⟩:=c.hc;obtain⟨ss,Z,U⟩:=c.hs;obtain⟨ps,Y,I⟩:=c.hp;refine{c.ok,?_,Ex.more c.i1,Ex.more c.i2,Ex.more c.i3,c.n1,c.n2,c.n3,{dx,V,M,aP h1 (av h1 n),?_,?_},{ss,aP Z (av Z n),?_},{ps,aP Y (av Y n),?_},c.wk,fun b hb=>?_}
 ·exact fun b o e=>(c.sm b o e).imp id (xW id (xW id fun z=>aP z (av z n)))
 ·rw[qj n];exact h2
 ·rw[qj n];exact W
 ·rw[qj n];exact U
 ·rw[qj n];exact I
 ·rcases Ex.or hb with z|z
  ·rw[z];exact⟨o,ag,O⟩
  ·obtain⟨o',e,J⟩:=c.nt b z;exact{o',aP e (av e n),J}
theorem iq.less{a:aa}(c:iq CC CS Ms Hb (ex.add a) G co m sl pl r)(a1:co≠a)(a2:sl≠a)(a3:pl≠a):iq CC CS Ms Hb ex G co m sl pl r:=by
 obtain⟨dx,O,U,h1,h2,Z⟩:=c.hc;obtain⟨ss,W,Y⟩:=c.hs;obtain⟨ps,V,M⟩:=c.hp;have f:aT (Hid (ex.add a) G) (Hid ex G):=Ab;have out:∀{b:aa},b∈ex.add a->b≠a->b∈ex:=fun m n=>(Ex.or m).elim (fun z=>absurd z n) id;exact{c.ok,c.sm,out c.i1 a1,out c.i2 a2,out c.i3 a3,c.n1,c.n2,c.n3,{dx,O,U,h1,h2.same f,Z.same f},{ss,W,Paired.mono (fun _ _ z=>iG.same' f z) Y},{ps,V,Paired.mono (fun _ _ z=>z.same f) M},c.wk,fun b hb=>c.nt b (Ex.more hb)}
theorem iq.upd(c:iq CC CS Ms Hb ex G co m sl pl r){a:aa}{o:HO}(ha:a∈ex)(ab:Hb a=Z7)(a1:co≠a)(a2:sl≠a)(a3:pl≠a)(O:∀xs,o≠.tup xs):iq CC CS Ms Hb ex (L2.upd G a o) co m sl pl r:=by
 obtain⟨dx,Y,M,h1,h2,Z⟩:=c.hc;obtain⟨ss,V,W⟩:=c.hs;obtain⟨ps,U,I⟩:=c.hp;refine{c.ok,?_,c.i1,c.i2,c.i3,c.n1,c.n2,c.n3,{dx,Y,M,aP h1 a1,?_,?_},{ss,aP V a2,?_},{ps,aP U a3,?_},c.wk,fun b hb=>?_}
 ·exact fun b o e=>(c.sm b o e).imp id (xW id (xW id fun z=>aP z (av e ab)))
 ·rw[iD ha];exact h2
 ·rw[iD ha];exact Z
 ·rw[iD ha];exact W
 ·rw[iD ha];exact I
 ·by_cases z:b=a
  ·rw[z];exact⟨o,ag,O⟩
  ·obtain⟨o',e,J⟩:=c.nt b hb;exact{o',aP e z,J}
end
theorem Paired.snoc_inv{W Y:Type}{R:W->Y->Prop}:∀{ys:List Y} {xs:List W} {y:Y},aH R xs (ys++[y])->∃Z x,xs=Z++[x]/\aH R Z ys/\R x y
 | [],xs,y,p=>by
  cases p with
  |cons a b=>
   cases b;exact{[],_,Z9,.nil,a}
 |z::ys,xs,y,p=>by
  cases p with
  |cons a b=>
   obtain⟨Z,x,e,V,r⟩:=Paired.snoc_inv (ys:=ys) b;exact{_::Z,x,by rw[e];rfl,.cons a V,r}
theorem jQ{Y Z:Type}{R:Y->Z->Prop}:∀{xs:List Y} {ys:List Z} {i:Nat} {y:Z},aH R xs ys->ys[i]?=Z8 y->∃x,xs[i]?=Z8 x/\R x y
 |_,_,i,y,.nil,h=>by simp at h
 |_,_,0,y,.cons a b,h=>by
  simp at h;subst h;exact{_,Z9,a}
 |_,_,i+1,y,.cons a b,h=>by
  obtain⟨x,h1,h2⟩:=jQ (i:=i) (y:=y) b (by simpa using h);exact{x,by simpa using h1,h2}
theorem Paired.set{Z Y:Type}{R:Z->Y->Prop}:∀{xs:List Z} {ys:List Y},aH R xs ys->∀(i:Nat) {x:Z} {y:Y},R x y->aH R (xs.set i x) (ys.set i y)
 |_,_,.nil,i,x,y,h=>.nil
 |_,_,.cons a b,0,x,y,h=>.cons h b
 |_,_,.cons a b,i+1,x,y,h=>.cons a (Paired.set b i h)
theorem Ey{Y O:Type}{f:Y->O}{xs ys:List O}(p:xs.Perm ys):∀us:List Y,us.map f=ys->∃Z:List Y,Z.Perm us/\Z.map f=xs:=by
 induction p with
 |nil=>
  intro us e;have:us=[]:=List.map_eq_nil_iff.mp e;subst this;exact{[],jn _,Z9}
 |cons x _ z=>
  intro us e
  cases us with
  |nil=>cases e
  |cons u us=>
   rw[bU]at e;obtain⟨e1,W⟩:=wj e;obtain⟨Z,H,I⟩:=z us W;exact{u::Z,H.cons u,by rw[bU,I,e1]}
 |swap x y l=>
  intro us e
  match us,e with
  |a::b::r,e=>
   rw[bU,bU]at e;obtain⟨e1,e⟩:=wj e;obtain⟨W,e3⟩:=wj e;exact{b::a::r,List.Perm.swap _ _ _,by rw[bU,bU,e1,W,e3]}
 |trans _ _ V U=>
  intro us e;obtain⟨u1,M,J⟩:=U us e;obtain⟨u2,p2,D⟩:=V u1 J;exact{u2,p2.trans M,D}
theorem uk{Z Y:Type}{R:Z->Y->Prop}:∀{us:List (Z×Y)},(∀u∈us,R u.1 u.2)->aH R (us.map (·.1)) (us.map (·.2))
 | [],_=>.nil
 |u::us,h=>.cons (h u ax) (uk fun v W=>h v (ah _ W))
theorem wx{Y W:Type}{R:Y->W->Prop}{xs:List Y}{ys:List W}(p:aH R xs ys):(xs.zip ys).map (·.1)=xs/\(xs.zip ys).map (·.2)=ys/\∀u∈xs.zip ys,R u.1 u.2:=by
 induction p with
 |nil=>exact{Z9,Z9,fun u Z=>by cases Z}
 |cons a _ U=>
  obtain⟨h1,h2,V⟩:=U;refine{by rw[gG,bU,h1],by rw[gG,bU,h2],fun u Z=>?_};rw[gG]at Z
  rcases ar.mp Z with z|z
  ·rw[z];exact a
  ·exact V u z
theorem Bt{G:Hp}{v:V}{e:Ev}(h:ip G v e):Bc G (v,e.key):=by
 obtain⟨t,k,e1,h1,h2⟩:=h;exact{t,k,_,e1,h1,h2}
theorem xX{F:Hp}{us:List (V×Ev)}{es:List Ev}{zs:List (V×List Int)}(M:∀u∈us,ip F u.1 u.2)(p:zs.Perm (us.map fun u=>(u.1,u.2.key)))(f:qi zs)(q:(us.map (·.2)).Perm es)(J:mh es):∃ps,zs.map (·.1)=ps/\aH (ip F) ps es:=by
 obtain⟨Z,O,U⟩:=Ey p us rfl;have h:=uk (R:=ip F) (us:=Z) fun u Y=>M u (O.mem_iff.mp Y);have W:mh (Z.map (·.2)):=by
  rw[<- U]at f;have I:=iL.mp f;exact iL.mpr I
 rw[xV W J ((O.map _).trans q)]at h;refine{Z.map (·.1),?_,h};rw[<- U,dC];rfl
theorem JW{F G:Hp}(s:aT F G){pl:aa}{v:V}{ps:List V}{pd:List Ev}{e:Ev}{Q:VK}{E:XK}(hp:G pl=Z8 (.lst ps))(I:aH (ip F) ps pd)(g:mh pd)(J:ip F v e)(H:∀y∈pd,e.key≠y.key)(len:pd.length<=10000000)
  (k:∀Z,aH (ip F) Z (vX e pd)->Q .non (upd G pl (.lst Z))):Cr [.ref pl,v] G Q E:=by
 obtain⟨z1,O,D⟩:=wx I;have ln:=aV I;obtain⟨t,kk,rfl,h1,h2⟩:=id J;refine{pl,t,(ps.zip pd).map fun u=>(u.1,u.2.key),e.key,Z9,?_,fun z hz=>?_,?_,(Bt J).imp fun a ⟨k,U,e1,M,e3⟩=>{k,U,e1,s _ _ M,s _ _ e3},?_,?_,fun bt p f=>?_}
 ·rw[dC];have:((fun x:V×List Int=>x.1) ∘ fun u:V×Ev=>(u.1,u.2.key))=(fun u:V×Ev=>u.1):=rfl;rw[this,z1];exact hp
 ·obtain⟨u,Y,rfl⟩:=cq.mp hz;obtain⟨a,k,U,e1,M,e3⟩:=Bt (D u Y);exact{a,k,U,e1,s _ _ M,s _ _ e3}
 ·refine iL.mpr ?_;have f2:=g;rw[<- O]at f2;exact iL.mp f2
 ·intro m;obtain⟨x,hx,ex⟩:=cq.mp m;obtain⟨u,Y,rfl⟩:=cq.mp hx;refine H u.2 ?_ ex.symm;rw[<- O];exact je Y
 ·rw[aq,p7];omega
 ·have hA:∀u∈(V.ref t,e)::ps.zip pd,ip F u.1 u.2:=fun u Y=>by
   rcases ar.mp Y with z|z
   ·rw[z];exact J
   ·exact D u z
  have hB:(((V.ref t,e)::ps.zip pd).map (·.2)).Perm (vX e pd):=by
   rw[bU,O];exact (nA e pd).symm
  obtain⟨Z,e',W⟩:=xX hA p f hB (tN g H);rw[e'];exact k Z W
section
variable{P:aL}{w:bA}{K:af}{mg:Str->Option ae}{base:cu}{f:aa}{fd:bS}
theorem HE:bK ["self"] ["self"] (aN oh):={}
theorem tP(F:Fun K "word" "Great.word" oh f fd):pV P w K mg base CX0 1 f fd ["self"] (qh "great"):=by
 refine F.okH HE (fun vs H Q E h=>?_) (fun Z A outer s H vs Q E h=>?_)
 ·obtain⟨a,rfl,_⟩:=h;rfl
 obtain⟨a,rfl,q⟩:=h;exact{_,aA (bJ cg),q}
theorem JX:bK ["self"] ["self"] (aN pX):={}
theorem wy(F:Fun K "word" "Full.word" pX f fd):pV P w K mg base CX0 1 f fd ["self"] (qh "full"):=by
 refine F.okH JX (fun vs H Q E h=>?_) (fun Z A outer s H vs Q E h=>?_)
 ·obtain⟨a,rfl,_⟩:=h;rfl
 obtain⟨a,rfl,q⟩:=h;exact{_,aA (bJ cg),q}
theorem NA:bK ["self"] ["self"] (aN qY):={}
theorem yR(F:Fun K "word" "Dry.word" qY f fd):pV P w K mg base CX0 1 f fd ["self"] (qh "dry"):=by
 refine F.okH NA (fun vs H Q E h=>?_) (fun Z A outer s H vs Q E h=>?_)
 ·obtain⟨a,rfl,_⟩:=h;rfl
 obtain⟨a,rfl,q⟩:=h;exact{_,aA (bJ cg),q}
theorem JY:bK ["self"] ["self"] (aN pY):={}
theorem wz(F:Fun K "word" "Span.word" pY f fd):pV P w K mg base CX0 1 f fd ["self"] (qh "span"):=by
 refine F.okH JY (fun vs H Q E h=>?_) (fun Z A outer s H vs Q E h=>?_)
 ·obtain⟨a,rfl,_⟩:=h;rfl
 obtain⟨a,rfl,q⟩:=h;exact{_,aA (bJ cg),q}
theorem JZ:bK ["self"] ["self"] (aN pZ):={}
theorem wA(F:Fun K "word" "Late.word" pZ f fd):pV P w K mg base CX0 1 f fd ["self"] (qh "late"):=by
 refine F.okH JZ (fun vs H Q E h=>?_) (fun Z A outer s H vs Q E h=>?_)
 ·obtain⟨a,rfl,_⟩:=h;rfl
 obtain⟨a,rfl,q⟩:=h;exact{_,aA (bJ cg),q}
end
def um{Z:Type}(a b c d e f:Z):Flt->Z
 |.nought=>a
 |.great=>b
 |.full=>c
 |.dry=>d
 |.span=>e
 |.late=>f
theorem gj.hid{ex:Ex}{G:Hp}{Z:List (Str×aa)}{qu:List (Str×List Int)}(n:∀a∈Z.map (·.2),a∉ex)(q:gj G Z qu):gj (Hid ex G) Z qu:=
 gj.keep (L:={0,0,0,0,0,0,0,0,0,0,.non,.non,Z}) (fun a u e m=>by rw[cW (n a m)];exact e) (fun _ h=>h) q
theorem ip.hid{ex:Ex}{G:Hp}(Z:∀a∈ex,∃o,G a=Z8 o/\∀xs,o≠.tup xs){v:V}{e:Ev}(h:ip G v e):ip (Hid ex G) v e:=by
 obtain⟨t,k,e1,h1,h2⟩:=h;exact{t,k,e1,gs Z h1,gs Z h2}
theorem Dg.sta{CD CS:aa}{bs qs:List Str}{H0 G:Hp}{L:Lay}{h:Ev}{ds:List Int}{w:Wk}(g:Dg CD CS bs qs H0 G L h ds w){ex:Ex}(n:∀a∈L.all,a∉ex):iG CS (Hid ex G) L.st w.bx w.qu w.dr w.se:=
 {L.dxs,L.bd,L.qd,L.qa,by rw[cW (n _ K8)];exact g.hst,by rw[cW (n _ K9)];exact g.hb,by rw[cW (n _ in_qd)];exact g.hq,g.hl.hid fun a m=>n a (in_l m)}
theorem Hu.told{CD CS:aa}{bs qs:List Str}{H G:Hp}{L:Lay}{h:Ev}{ds:List Int}{w:Wk}{t M J:aa}{U W:List V}{qa:List (Str×aa)}(d:Hu CD CS bs qs H G L h ds w t M J U W qa){ex:Ex}(D:∀a∈ex,∃o,H a=Z8 o/\∀xs,o≠.tup xs) :
  ∃vs,G L.od=Z8 (.lst vs)/\L.od∉ex/\aH (ip (Hid ex G)) vs w.out/\RcIn (Hid ex G) (.ref M) {h,wrB bs w,wrQ qs w,w.out}:=by
 have Z:∀a∈ex,∃o,G a=Z8 o/\∀xs,o≠.tup xs:=fun a ha=>by
  obtain⟨o,e,n⟩:=D a ha;exact{o,d.sm _ _ e,n}
 have nx:∀{a},H a=Z7->a∉ex:=fun {a} z m=>by
  obtain⟨o,e,_⟩:=D a m;rw[z]at e
  cases e
 obtain⟨H0,s0,g⟩:=d.dg;obtain⟨vs,I,o2⟩:=g.ho;obtain⟨k,h1,h2⟩:=d.hrc;have O:L.od∉ex:=nx (none_of s0 (g.fr _ La));have Y:=Paired.mono (fun _ _ z=>ip.hid Z z) o2;refine{vs,I,O,Y,M,k,J,L.od,U,W,vs,qa,Z9,gs Z h1,gs Z (d.sm _ _ h2),?_,Paired.mono (fun _ _ z=>z.keep fun a xs e=>gs Z e) d.wr.b,Paired.mono (fun _ _ z=>z.keep fun a xs e=>gs Z e) d.wr.q,d.wr.l.hid fun a m=>nx (d.wr.fr a (ah _ m)),?_,Y}
 ·rw[cW (nx (d.wr.fr _ ax))];exact d.wr.hl
 ·rw[cW O];exact I
theorem p9.clean{bs qs:List Str}{w:Wk}(k:p9 bs qs w):p9 bs qs (w0 w.bx w.qu w.dr w.se):=
 {k.kb,k.kq,k.nb,k.nq,k.wb,k.wq,ic,(fun x hx=>by cases hx),ic,(fun x hx=>by cases hx),(fun x hx=>by cases hx),k.fw}
theorem Cw{P:Ds->Prop}{hs:List (Str×Ds)}(h:∀q∈hs,P q.2)(n:P .nil)(Z:Str):P (jA hs Z):=by
 unfold jA
 cases e:hs.lookup Z with
 |none=>exact n
 |some d=>exact h _ (qc e)
def ToldR(F:Hp)(v:V):List Rec->Prop
 | []=>v=.non
 |q::_=>RcIn F v q
def Oth(ex:Ex)(co sl pl:aa)(H G:Hp):Prop:=∀a,a≠co->a≠sl->a≠pl->∀o,H a=Z8 o->G a=Z8 o
theorem Bu{Hb H G:Hp}{co sl pl:aa}(s:∀b o,Hb b=Z8 o->b≠co/\b≠sl/\b≠pl/\H b=Z8 o)(V:∀a,a≠co->a≠sl->a≠pl->∀o,H a=Z8 o->G a=Z8 o):∀b o,Hb b=Z8 o->b≠co/\b≠sl/\b≠pl/\G b=Z8 o:=fun b o e=>by
 obtain⟨W,Y,Z,z⟩:=s b o e;exact{W,Y,Z,V b W Y Z o z}
theorem bh.some{ι:Type}{P:aL}{w:bA}{K:af}{mg:Str->Option ae}{base:cu}{CX:CXT}{k:Nat}{f:aa}{fd:bS}{ps:List Str}{sp:ι->Sp}(F:∀i,bh P w K mg base CX k f fd ps (sp i)) :
  bh P w K mg base CX k f fd ps (fun vs H Q E=>∃i,sp i vs H Q E):=
 {fun vs H Q E ⟨i,q⟩=>(F i).len vs H Q E q,fun A outer s H args us vs Q E Y W hb Z ⟨i,hs⟩=>(F i).run A outer s H args us vs Q E Y W hb Z hs}
theorem J0{X:Cx}{o value:cL}{f:Str}{ta tv:TE}{pos pos':Pos}(K:af)(Y:X.K=K)(ha:PE X o ta)(Z:PE X value tv)(hs:tV value (Z8 (.Attribute o f pos')) pos.line X.env=pure false):PS X (.Assign [.Attribute o f pos'] value pos) (sFld K ta tv f):=by
 rw[<- Y];exact eD ha Z hs
theorem wB{σ:St}{H:Hp}{Q:List V->Hp->Prop}(h:Q [] H):AL σ H Q:=h
theorem Bv{D:mJ}{σ:St}{H:Hp}(h:D.nx σ H):lP D σ H:=h
theorem Ez(xs:List Ev)(x:Ev)(pd:List Ev):oE (xs++[x]) pd=vX x (oE xs pd):=by
 unfold oE;rw[Gv];rfl
section
variable{P:aL}{w:bA}{K:af}{mg:Str->Option ae}{base:cu}{f fPu fDn CC CM CS CD CF:aa}{fd fdPu fdDn:bS}{cf fW:Flt->aa}{fdW:Flt->bS}
seal PS PSs PE PA PT PW PI PG PGs PC
inductive Lo(CC CS:aa)(vs:List V)(H:Hp)(Q:VK)(_e:XK):Prop where
 |mk(Ms:List MD)(Hb:Hp)(ex:Ex)(co m sl pl:aa)(r:RS)(left:Int)(_:vs=[.ref co,.int left])(_:iq CC CS Ms Hb ex H co m sl pl r)(_:∀v G,aT H G->((ib r left=Z7/\v=.non)\/∃e,ib r left=Z8 e/\nF (Hid ex G) v e)->Q v G):Lo CC CS vs H Q _e
def NB(CC CS:aa):Sp:=fun vs H Q Z=>Lo CC CS vs H Q Z
theorem scEd:bK ["self","left"] ["self","left"] (aN fi):={}
theorem Cy(M:Mt K CC "ending_due" "Course.ending_due" fi ["self","left"] f fd)(T:CoT K mg CC):bh P w K mg base CX0 1 f fd ["self","left"] (NB CC CS):=by
 refine M.F.ok scEd (fun vs H Q E h=>?_) (fun I A outer s H vs Q E hr h=>?_)
 ·obtain⟨Ms,Hb,ex,co,m,sl,pl,r,left,rfl,_⟩:=h;rfl
 obtain⟨Ms,Hb,ex,co,m,sl,pl,r,left,rfl,c,q⟩:=h;refine⟨_,ai (cN (qR (BG (cO (pv 0) rfl))) (aA (bJ (cO (pv 0) rfl))) bZ)
  (ai (cN (AB (vz (cO (pv 0) rfl) (fun _=>rfl))) (aA (bJ (eg (ak cg aj)))) bZ)
  (ai (cN (bP op_le (pv 1) aw (bV _)) (aA (bJ (eg (ak cg aj)))) bZ)
  (aA (bJ yd)))),?_⟩
 obtain⟨dx,rv,J,h1,h2,Z⟩:=c.hc;obtain⟨ps,D,g⟩:=c.hp;have U:=aV g;have W:∀{G:Hp},aT H G->∀a∈ex,∃o,G a=Z8 o/\∀xs,o≠.tup xs:=fun s a ha=>by
  obtain⟨o,e,n⟩:=c.nt a ha;exact{o,s _ _ e,n}
 cases hsp:r.sp with
 |some st=>
  rw[hsp]at Z;have O:ib r left=Z8 (.stp st):=by
   unfold ib;rw[hsp]
  obtain⟨t,rfl⟩:∃t,J=.ref t:=by
   cases st with
   |fin h=>
    obtain⟨t,_,e,_⟩:=Z;exact⟨t,e⟩
   |flt e h=>
    obtain⟨t,_,e,_⟩:=Z;exact⟨t,e⟩
  refine{_,Z9,co,CC,dx,_,_,Z9,h1,T.cl,T.nE,JV _ _ _ _ _,_,Z9,ja ?_};exact{_,Z9,co,CC,dx,_,_,Z9,h1,T.cl,T.nE,JV _ _ _ _ _,q _ _ (aT.refl _) (.inr {_,O,Z})}
 |none=>
  rw[hsp]at Z;have Z:J=.non:=Z;subst Z;refine{_,Z9,co,CC,dx,_,_,Z9,h1,T.cl,T.nE,JV _ _ _ _ _,_,Z9,gf ?_};refine{_,Z9,co,CC,dx,_,_,Z9,h1,T.cl,T.nP,JU _ _ _ _ _,_,.inl {_,SqL.of D,Z9},?_}
  cases ps with
  |nil=>
   have V:r.pd=[]:=wC U.symm;refine ja {Es,fun t ht=>q _ _ (aD ht _) (.inr {.empty,?_,t,Z9,gs (W (aD ht _)) ag})};unfold ib;rw[hsp,V];rfl
  |cons x xs=>
   have V:r.pd.isEmpty=false:=by
    cases z:r.pd with
    |nil=>
     rw[z]at U
     cases U
    |cons _ _=>rfl
   refine gf ?_;refine{_,Z9,_,_,Z9,Z9,_,Z9,gp (fun Y=>?_) (fun Y=>?_)}
   ·have Y:=of_decide_eq_true Y;refine{Es,fun t ht=>q _ _ (aD ht _) (.inr {.cut,?_,t,Z9,gs (W (aD ht _)) ag})};unfold ib;rw[hsp];dsimp only;rw[V,if_neg (by decide),if_pos Y]
   ·have Y:¬left<=0:=fun z=>Y (decide_eq_true z);refine q _ _ (aT.refl _) (.inl {?_,Z9});unfold ib;rw[hsp];dsimp only;rw[V,if_neg (by decide),if_neg Y]
inductive HF(CC CM CS:aa)(vs:List V)(H:Hp)(Q:VK)(_e:XK):Prop where
 |mk(Ms:List MD)(Hb:Hp)(ex:Ex)(co m sl pl:aa)(r:RS)(_:vs=[.ref co])(_:uC CM Ms Hb m)(_:iq CC CS Ms Hb ex H co m sl pl r)(_:r.sp=Z7)(_:r.pd≠[])(_:r.pd.length<=9000000)(_:∀v G,iq CC CS Ms Hb ex G co m sl pl (gP Ms r).1->aT (Hid ex H) (Hid ex G)->Oth ex co sl pl H G->ToldR (Hid ex G) v (gP Ms r).2->Q v G):HF CC CM CS vs H Q _e
def Lp(CC CM CS:aa):Sp:=fun vs H Q Z=>HF CC CM CS vs H Q Z
abbrev nD1:List Str:=["self","happening","at","told","fault","sent"]
theorem EA:bK nD1 ["self"] (aN iy):={}
theorem NC{n j:Nat}(h:j<n):ixN n (j:Int)=Z8 j:=by
 unfold ixN;rw[if_pos (by omega),if_pos (by omega)];simp
theorem Bw(M:Mt K CC "do_one" "Course.do_one" iy ["self"] f fd)(ix:Df K mg "put_in" rM ["falling","thing"] fPu fdPu)(fa:bh P w K mg base CX0 2 fPu fdPu ["falling","thing"] Cr)
  (il:Df K mg "done" yB ["model","state","happening"] fDn fdDn) (fk:∀bq:List Str×List Str,bh P w K mg base (CXo P w) 37 fDn fdDn ["model","state","happening"] (Hv cf CM CD CS bq.1 bq.2 5))
  (mW:∀e,yj K (cf e) "word" (fW e)) (bW:∀e,Binds K (fdW e) ["self"] []) (GW:∀e,pV P w K mg base CX0 1 (fW e) (fdW e) ["self"] (qh (qO e))) (XN:∀e,w9 K (cf e)) (mF:mg "Fault"=Z8 (.ref CF)) (hx:∀e,dh K (.ref (cf e)) (.ref CF)=Z8 true) (T:CoT K mg CC) (TM:MdT K mg CM CS) :
  bh P w K mg base CX0 38 f fd ["self"] (Lp CC CM CS):=by
 have GD:=bh.some fk;refine M.F.ok EA (fun vs H Q E h=>?_) (fun ey A outer s H vs Q E hr h=>?_)
 ·obtain⟨Ms,Hb,ex,co,m,sl,pl,r,rfl,_⟩:=h;rfl
 obtain⟨Ms,Hb,ex,co,m,sl,pl,r,rfl,hM,c,hh,hb,et,k⟩:=h;have r1:cZ 1 _:=hr.mono (by decide);have r2:cZ 2 _:=hr.mono (by decide);obtain⟨dx,rv,sv,hO,hg,kd⟩:=c.hc;obtain⟨ss,gl,jp⟩:=c.hs;obtain⟨ps,hL,hQ⟩:=c.hp
 -- the last one
 obtain⟨h,hl⟩:∃h,r.pd.getLast?=Z8 h:=by
  cases e:r.pd.getLast? with
  |none=>exact absurd (yS.mp e) hb
  |some h=>exact⟨h,Z9⟩
 have kt:=vY hl;have eH:h∈r.pd:=by
  rw[kt];exact bC _ (aE.mpr rfl)
 have eo:=c.ok.ev h eH;obtain⟨j,hj⟩:∃j:Nat,h.to=(j:Int):={h.to.toNat,by have:=eo.to0;omega};have jl:j<Ms.length:=by have:=eo.to1;omega
 have ej:h.to.toNat=j:=by omega
 have js:j<r.sts.length:=by rw[c.ok.len];exact jl
 obtain⟨Mm,kr⟩:∃M,Ms[j]?=Z8 M:={_,aO jl};obtain⟨st0,kG⟩:∃s,r.sts[j]?=Z8 s:={_,aO js};have d:Did Ms r h Mm st0:={kt,by rw[ej];exact kr,by rw[ej];exact kG};obtain⟨Z,v,hG,ka,hv⟩:∃Z v,ps=Z++[v]/\aH (ip (Hid ex H)) Z r.pd.dropLast/\ip (Hid ex H) v h:=by
  rw[kt]at hQ;exact Paired.snoc_inv hQ
 obtain⟨th,Y,rfl,gM,hI⟩:=id hv
 -- the aX and the machine
 obtain⟨gh,ml,fs,hm,hn,xs,gn,fx⟩:=id hM;obtain⟨mv,ge,hB⟩:=jQ fx kr;obtain⟨sta,ke,hd⟩:=jQ jp kG;have dk:=Cw (P:=fun D=>D.toOk (Ms.length:Int)/\D.deep<=4/\D.size<=3*ddz 4) hB.hk {by simp only[Ds.toOk],by simp only[Ds.deep];omega,by simp only[Ds.size];omega} h.sg;have dz:3*ddz 4<=5000:=by decide
 refine⟨_,ai (bM (i:=1) EA.nd rfl (Or.inl rfl) (pF bE zl zm Mj (cO (pv 0) rfl)))
  (ai (bM (i:=2) EA.nd rfl (Or.inl rfl) (bX cD (pv 1) aw (fun _ _=>rfl)))
  (ai (Ju (fun C σ G=>∃(e:Flt) (u3 u4 u5:Option V),C=cf e/\σ=[Z8 (.ref co),Z8 (.ref th),Z8 (.int h.to),u3,u4,u5]/\doS h Mm.ds (jA Mm.hs h.sg) st0.w=.error e/\aT (upd H pl (.lst Z)) G)
    (fun pins=>aA (bM (i:=3) EA.nd rfl (Or.inl rfl) (FG GD hr (by rfl) il.m il.F.kp il.b A0 (ak (cM K (by rfl) (pv 0) (by rfl)) (ak (bX (Hx K (by rfl)) (cM K (by rfl) (pv 0) (by rfl)) (pv 2) (fun _ _=>rfl)) (ak (pv 1) aj))))))
    (MH 4 (by rfl) mF EA.nd rfl rfl (fun ea=>ai (J0 K (by rfl) (pv 0) (eg (ak cg (ak (Ei (ι:=Flt) (C:=cf) (fm:=fW) (fd:=fdW) (sp:=fun e=>qh (qO e)) (pv 4) XN mW GW ⟨Z9,r1.dp,r1.un⟩ bW aY) (ak (bX (oC K (by rfl)) (pv 1) aw (fun _ _=>rfl)) aj)))) rfl) (aA (bJ yd))) Jg)
    bZ)
  (ai (sN (bX cD (pv 3) aw (fun _ _=>rfl)) (yf (cO (pv 0) rfl) (pv 2) rG))
  (ai (eD (pv 0) (bX cD (pv 1) aw (fun _ _=>rfl)) rfl)
  (ai (iH cF rfl (g9 (bX cD (bX cD (pv 3) aw (fun _ _=>rfl)) aw (fun _ _=>rfl))) (df (i:=5) EA.nd rfl (Or.inl rfl)) (aA (dU (aM fa r2 (by rfl) ix.m ix.F.kp ix.b .nil aY (ak (cO (pv 0) rfl) (ak (pv 5) aj))))))
  (ai (cN (sL (bX cD (pv 3) aw (fun _ _=>rfl))) (aA (eD (pv 0) (eg (ak cg (ak (bX cD (pv 1) aw (fun _ _=>rfl)) aj))) rfl)) bZ)
  (aA (bJ (bX cD (pv 3) aw (fun _ _=>rfl)))))))))),?_⟩
 subst hG
 -- it is taken out
 refine cb (dy ?_);refine{_,Z9,co,CC,dx,_,_,Z9,hO,T.cl,T.nP,JU _ _ _ _ _,.inl {Z9,_,SqL.of hL},pl,_,.ref th,Z9,Z9,hL,?_,?_}
 ·rw[ay];show (Z++[V.ref th])[Z.length+1-1]?=_;rw[FN,dP (aB _),qg];rfl
 rw[Cs];refine bL ?_;dsimp only;have F1:Hid ex (upd H pl (.lst Z))=Hid ex H:=iD c.i3;have ld:upd H pl (.lst Z) co=Z8 (.ins CC dx (iz (.ref m) (.ref sl) (.ref pl) rv sv)):=aP hO c.n2;have la:upd H pl (.lst Z) sl=Z8 (.lst (ss.map V.ref)):=aP gl c.n3;have kv:upd H pl (.lst Z) pl=Z8 (.lst Z):=ag;have lc:∀a∈ex,∃o,upd H pl (.lst Z) a=Z8 o/\∀xs,o≠.tup xs:=fun a ha=>by
  by_cases z:a=pl
  ·rw[z];exact{_,ag,fun xs z=>by cases z}
  ·obtain⟨o,e,n⟩:=c.nt a ha;exact{o,aP e z,n}
 have lf:Oth ex co sl pl H (upd H pl (.lst Z)):=fun a _ _ z o e=>aP e z;revert F1 ld la kv lc lf;generalize upd H pl (.lst Z)=G1;intro F1 ld la kv lc lf;have ih:aT (Hid ex H) G1:=by
  rw[<- F1];exact cG
 have io:aT Hb G1:=fun b o e=>by
  obtain⟨t,n2,n3,z⟩:=c.sm b o e;exact lf b t n2 n3 o z
 have lh:=ih _ _ gM;refine cb (dy ?_);refine{_,Z9,th,_,_,_,Z9,Z9,SqT.of lh,Z9,?_};refine bL ?_;dsimp only;refine cb ?_;refine{?_,fun C em W hl ht=>?_}
 ·refine dy ?_;have gw:atI (ss.map V.ref) h.to=Z8 (.ref sta):=by
   rw[hj];exact jU (by rw[cm,ke];rfl)
  refine{_,Z9,co,CC,dx,_,_,Z9,ld,T.cl,T.nM,co_m _ _ _ _ _,_,Z9,co,CC,dx,_,_,Z9,ld,T.cl,T.nS,HD _ _ _ _ _,_,Z9,sl,_,_,_,Z9,Z9,SqL.of la,gw,_,Z9,?_};refine{(Mm.bs,Mm.qs),m,gh,ml,sta,fs,xs,.ref th,mv,h,Mm.ds,Mm.hs,st0.bx,st0.qu,st0.dr,st0.se,Z9,io _ _ hm,hn,io _ _ gn,hv.same ih,by rw[hj];exact jU ge,(hB.same io).ma,iG.same' ih hd,c.wk j Mm st0 kr kG,eo.wt,eo.wa,eo.wb,by omega,by omega,?_}
  cases ew:doS h Mm.ds (jA Mm.hs h.sg) (w0 st0.bx st0.qu st0.dr st0.se) with
  |error e=>
   exact fun W s6=>{_,Z9,e,_,_,_,Z9,Z9,ew,s6}
  |ok I=>
   intro W L t6 rc wl er el qa Dn;have kq:doS h Mm.ds (jA Mm.hs h.sg) st0.w=.ok I:=ew;rw[ve d kq]at k;have N:=nC (m:=(Ms.length:Int)) _ _ _ dk.1 kq;obtain⟨hK,hR,eA⟩:=Aa c.ok d N;obtain⟨H0,s0,g⟩:=Dn.dg;have li:=HC c.ok d kq N g.ok.wo;rw[ve d kq]at li;obtain⟨vs,fe,hN,ho,kb⟩:=Dn.told lc;have lj:=Dn.sm;obtain⟨kk,ga,_⟩:=Dn.hrc;have nx:∀a∈L.all,a∉ex:=fun a ha z=>by
    obtain⟨o,e,_⟩:=lc a z;have:=g.fr a ha;rw[s0 _ _ e]at this
    cases this
   have gr:=g.sta nx;have f6:aT (Hid ex H) (Hid ex W):=by
    rw[<- F1];exact gD lj
   have ez:aT (Hid ex W) W:=cG;have hP:=lj _ _ ld;have hD:=lj _ _ la;have eL:=lj _ _ kv;have fG:Oth ex co sl pl H W:=fun a t n2 n3 o e=>lj _ _ (lf a t n2 n3 o e);have ki:∀a∈ex,∃o,W a=Z8 o/\∀xs,o≠.tup xs:=fun a ha=>by
    obtain⟨o,e,n⟩:=lc a ha;exact{o,lj _ _ e,n}
   refine bL ?_;refine Bv ?_;dsimp only;refine Bv ?_;dsimp only
   -- the new state
   have ff:j<(ss.map V.ref).length:=(aF.mp (show (ss.map V.ref)[j]?=Z8 (.ref sta) by rw[cm,ke];rfl)).1;refine cb (dy ?_);refine{_,Z9,t6,_,_,_,Z9,Z9,SqT.of Dn.ht,Z9,?_};refine{_,Z9,co,CC,dx,_,_,Z9,hP,T.cl,T.nS,HD _ _ _ _ _,_,Z9,sl,_,_,j,Z9,Z9,hD,by rw[hj];exact NC ff,?_}
   -- its key is reached
   have hX:upd W sl (.lst ((ss.map V.ref).set j (.ref L.st))) th=Z8 (.tup [.ref Y,.int h.to,.str h.sg,.int h.a,.int h.b]):=aP (lj _ _ lh) (oK (lj _ _ lh) hD (by intro z;cases z));have hf:upd W sl (.lst ((ss.map V.ref).set j (.ref L.st))) co=Z8 (.ins CC dx (iz (.ref m) (.ref sl) (.ref pl) rv sv)):=aP hP c.n1;refine cb ?_;refine{_,Z9,th,_,_,_,Z9,Z9,SqT.of hX,Z9,_,Z9,co,CC,dx,_,Z9,hf,T.cl,T.nR,wc _ _ _ _ _,?_};rw[Cv];have F8:Hid ex (upd (upd W sl (.lst ((ss.map V.ref).set j (.ref L.st)))) co (.ins CC dx (iz (.ref m) (.ref sl) (.ref pl) (.ref Y) sv)))=Hid ex W:=by
    rw[iD c.i1,iD c.i2]
   have kw:upd (upd W sl (.lst ((ss.map V.ref).set j (.ref L.st)))) co (.ins CC dx (iz (.ref m) (.ref sl) (.ref pl) (.ref Y) sv)) co=Z8 (.ins CC dx (iz (.ref m) (.ref sl) (.ref pl) (.ref Y) sv)):=ag;have ku:upd (upd W sl (.lst ((ss.map V.ref).set j (.ref L.st)))) co (.ins CC dx (iz (.ref m) (.ref sl) (.ref pl) (.ref Y) sv)) sl=Z8 (.lst ((ss.map V.ref).set j (.ref L.st))):=aP ag c.n1.symm;have iv:upd (upd W sl (.lst ((ss.map V.ref).set j (.ref L.st)))) co (.ins CC dx (iz (.ref m) (.ref sl) (.ref pl) (.ref Y) sv)) pl=Z8 (.lst Z):=aP (aP eL c.n3.symm) c.n2.symm;have im:Oth ex co sl pl H (upd (upd W sl (.lst ((ss.map V.ref).set j (.ref L.st)))) co (.ins CC dx (iz (.ref m) (.ref sl) (.ref pl) (.ref Y) sv))):=fun a t n2 n3 o e=>aP (aP (fG a t n2 n3 o e) n2) t;have ii:∀a∈ex,∃o,upd (upd W sl (.lst ((ss.map V.ref).set j (.ref L.st)))) co (.ins CC dx (iz (.ref m) (.ref sl) (.ref pl) (.ref Y) sv)) a=Z8 o/\∀xs,o≠.tup xs:=fun a ha=>by
    by_cases z:a=co
    ·rw[z];exact{_,ag,fun xs z=>by cases z}
    ·by_cases y:a=sl
     ·rw[y];exact{_,ku,fun xs z=>by cases z}
     ·obtain⟨o,e,n⟩:=ki a ha;exact{o,aP (aP e y) z,n}
   revert F8 kw ku iv im ii;generalize upd (upd W sl (.lst ((ss.map V.ref).set j (.ref L.st)))) co (.ins CC dx (iz (.ref m) (.ref sl) (.ref pl) (.ref Y) sv))=G8;intro F8 kw ku iv im ii;have kz:aT (Hid ex W) G8:=by
    rw[<- F8];exact cG
   have kn:Hid ex W t6=Z8 (.tup [.ref L.st,.ref rc,.bl I.en]):=gs ki Dn.ht;have hC:Hid ex W rc=_:=gs ki ga;have kc:Hid ex W L.od=Z8 (.lst vs):=by
    rw[cW hN];exact fe
   have hz:Hid ex W th=_:=gs ki (lj _ _ lh);have ky:Hid ex W Y=Z8 (Bs h):=f6 _ _ hI
   -- what was sent is put in
   have gq:mh r.pd.dropLast:=by
    have z:=c.ok.fall;rw[kt]at z;exact (tO z).1
   have hu:L.od≠pl:=fun z=>hN (by rw[z];exact c.i3);refine cb ?_;refine⟨_,Z9,t6,_,_,_,Z9,Z9,SqT.of (kz _ _ kn),Z9,rc,_,_,_,Z9,Z9,SqT.of (kz _ _ hC),Z9,L.od,Z9,{_,SqL.of (kz _ _ kc)},iI (K:=K) (a:=L.od) (xs:=vs) (fun i σ G'=>∃(u4 u:Option V) (ps:List V),σ=[Z8 (.ref co),Z8 (.ref th),Z8 (.int h.to),Z8 (.ref t6),u4,u]/\G' pl=Z8 (.lst ps)/\aH (ip (Hid ex W)) ps (oE (I.out.take i) r.pd.dropLast)/\But pl G8 G')
    {_,_,Z,Z9,iv,by rw[jL];exact Paired.mono (fun _ _ z=>z.same f6) ka,But.refl _ _} ?_ ?_ ?_⟩
   ·rintro i σ G' _ ⟨_,_,_,rfl,_,_,b⟩;exact SqL.of (b _ _ (kz _ _ kc) hu)
   ·rintro i x σ G' hi ⟨u4,u,ps,rfl,g1,g2,b⟩;obtain⟨e,he,fz⟩:=nv ho hi;have gd:aT (Hid ex W) G':=fun a o z=>b _ _ (kz _ _ z) fun y=>dN z (by rw[y];exact c.i3);have mem:e∈I.out:=bD he;have tk:I.out.take (i+1)=I.out.take i++[e]:=by
     rw[d9,he];rfl
    have fo:∀x∈I.out.take i,x.key≠e.key:=fun x hx=>by
     have pw:=hR;rw[<- qA (i+1) I.out,tk]at pw;exact (gZ.mp (gZ.mp pw).1).2.2 x hx e (aE.mpr rfl)
    have hH:mh (oE (I.out.take i) r.pd.dropLast):=qB gq (fun x hx=>hK x (qP hx)) (hR.sublist (mP _ _));refine{_,Z9,co,CC,dx,_,_,Z9,b _ _ kw c.n2,T.cl,T.nP,JU _ _ _ _ _,_,Z9,?_};refine wB ?_;show Cr [V.ref pl,x] G' _ _;refine JW (F:=Hid ex W) gd g1 g2 hH fz (fun y hy=>?_) ?_ fun gt hS=>?_
    ·rcases cv.mp ((gb _ _).mem_iff.mp hy) with z|z
     ·exact fun q=>fo y z q.symm
     ·exact hK e mem y z
    ·rw[(gb _ _).length_eq,ay,kF,cK];obtain⟨new,e1,e2,_⟩:=N.ex;have e1:I.out=new:=e1;have:=dk.2.2;rw[e1];omega
    ·refine{_,_,gt,Z9,ag,?_,b.trans (But.upd pl _ _)};rw[tk,Ez];exact hS
   rintro σ G9 ⟨u4,u,eF,rfl,g1,g2,b⟩;have gg:vs.length=I.out.length:=aV ho;rw[gg,dS]at g2;have F9:aT (Hid ex W) (Hid ex G9):=by
    rw[<- F8];exact Ny fun a o e n=>b _ _ e fun y=>n (by rw[y];exact c.i3)
   have hY:aT (Hid ex W) G9:=F9.trans cG;have hT:=b _ _ kw c.n2;have iF:=b _ _ ku c.n3;have kl:Oth ex co sl pl H G9:=fun a t n2 n3 o e=>b _ _ (im a t n2 n3 o e) n3;have hF:∀a∈ex,∃o,G9 a=Z8 o/\∀xs,o≠.tup xs:=fun a ha=>by
    by_cases z:a=pl
    ·rw[z];exact{_,g1,fun xs z=>by cases z}
    ·obtain⟨o,e,n⟩:=ii a ha;exact{o,b _ _ e z,n}
   have hq:∀(i:Nat) (M:MD) (s:Sta),Ms[i]?=Z8 M->(r.sts.set h.to.toNat ⟨I.bx,I.qu,I.dr,I.se⟩)[i]?=Z8 s->p9 M.bs M.qs s.w:=fun i M s hi hs=>by
    rw[ej]at hs
    by_cases z:i=j
    ·rw[z,fq js]at hs;rw[z,kr]at hi
     cases hs
     cases hi;exact g.ok.clean
    ·rw[iU (fun y=>z y.symm)]at hs;exact c.wk i M s hi hs
   have hA:∀{F:Hp},aT (Hid ex W) F->aH (StA CS F) (ss.set j L.st) (r.sts.set h.to.toNat ⟨I.bx,I.qu,I.dr,I.se⟩):=fun {F} s=>by
    rw[ej];exact Paired.set (Paired.mono (fun _ _ z=>iG.same' (f6.trans s) z) jp) j (iG.same' s gr)
   have fw:(ss.map V.ref).set j (.ref L.st)=(ss.set j L.st).map V.ref:=List.map_set.symm;rw[fw]at iF;refine cb ?_;refine{_,Z9,t6,_,_,_,Z9,Z9,SqT.of (hY _ _ kn),Z9,I.en,Z9,?_}
   cases een:I.en with
   |true=>
    rw[een]at k li;refine ja ?_;refine{_,Z9,th,_,_,_,Z9,Z9,SqT.of (hY _ _ hz),Z9,lt2,fun J lb=>?_};have sz:=aD lb (.tup [.str "end",.ref Y]);refine{_,Z9,co,CC,dx,_,Z9,sz _ _ hT,T.cl,T.nE,wc _ _ _ _ _,?_};rw[yQ];have U:Hid ex (upd (upd G9 J (.tup [.str "end",.ref Y])) co (.ins CC dx (iz (.ref m) (.ref sl) (.ref pl) (.ref Y) (.ref J))))=Hid ex (upd G9 J (.tup [.str "end",.ref Y])):=iD c.i1;have kB:∀a∈ex,∃o,upd G9 J (.tup [.str "end",.ref Y]) a=Z8 o/\∀xs,o≠.tup xs:=fun a ha=>by
     obtain⟨o,e,n⟩:=hF a ha;exact{o,sz _ _ e,n}
    have O:aT (Hid ex W) (Hid ex (upd G9 J (.tup [.str "end",.ref Y]))):=F9.trans (gD sz);have lg:Hid ex (upd G9 J (.tup [.str "end",.ref Y])) J=Z8 (.tup [.str "end",.ref Y]):=gs kB ag;have kI:∀{a:aa} {o:HO},a≠co->upd G9 J (.tup [.str "end",.ref Y]) a=Z8 o->upd (upd G9 J (.tup [.str "end",.ref Y])) co (.ins CC dx (iz (.ref m) (.ref sl) (.ref pl) (.ref Y) (.ref J))) a=Z8 o:=fun n e=>aP e n;have hE:aT (Hid ex W) (upd (upd G9 J (.tup [.str "end",.ref Y])) co (.ins CC dx (iz (.ref m) (.ref sl) (.ref pl) (.ref Y) (.ref J)))):=by
     refine aT.trans O ?_;rw[<- U];exact cG
    refine{_,Z9,t6,_,_,_,Z9,Z9,SqT.of (hE _ _ kn),Z9,?_};refine k _ _ {li,?_,c.i1,c.i2,c.i3,c.n1,c.n2,c.n3,{dx,_,_,ag,?_,?_},{_,kI c.n1.symm (sz _ _ iF),?_},{_,kI c.n2.symm (sz _ _ g1),?_},hq,fun a ha=>?_} ?_ ?_ ?_
    ·exact Bu c.sm fun a t n2 n3 o e=>kI t (sz _ _ (kl a t n2 n3 o e))
    ·rw[U];exact{Y,Z9,O _ _ ky}
    ·rw[U];exact{J,Y,Z9,lg,O _ _ ky}
    ·rw[U];exact hA O
    ·rw[U];exact Paired.mono (fun _ _ z=>z.same O) g2
    ·by_cases z:a=co
     ·rw[z];exact{_,ag,fun xs z=>by cases z}
     ·obtain⟨o,e,n⟩:=kB a ha;exact{o,kI z e,n}
    ·rw[U];exact f6.trans O
    ·exact fun a t n2 n3 o e=>kI t (sz _ _ (kl a t n2 n3 o e))
    ·rw[U];exact kb.same O
   |false=>
    rw[een]at k li;refine gf ?_;have ft:sv=.non:=by
     rw[hh]at kd;exact kd
    refine{_,Z9,t6,_,_,_,Z9,Z9,SqT.of (hY _ _ kn),Z9,?_};exact k _ _ {li,Bu c.sm kl,c.i1,c.i2,c.i3,c.n1,c.n2,c.n3,{dx,_,_,hT,{Y,Z9,F9 _ _ ky},ft},{_,iF,hA F9},{_,g1,Paired.mono (fun _ _ z=>z.same F9) g2},hq,hF} (f6.trans F9) kl (kb.same F9)
 ·-- a fault
  obtain⟨e,u3,u4,u5,rfl,rfl,ew,s6⟩:=ht;rw[rS d ew]at k;have li:=Ew c.ok d ew;rw[rS d ew]at li;refine .inl {hx e,fun ea go=>?_};have sx:=aD go (XO ea (cf e));have s7:=s6.trans sx;have f7:aT (Hid ex H) (Hid ex (upd W ea (XO ea (cf e)))):=by
   rw[<- F1];exact gD s7
  refine cb ?_;refine{_,Z9,ea,e,Z9,ag,_,Z9,_,Z9,th,_,_,_,Z9,Z9,SqT.of (s7 _ _ lh),Z9,(by show 3<=aC;decide),fun J lb=>?_};have sz:=aD lb (.tup [.str "fault",.str (qO e),.ref Y]);have s8:=s7.trans sz;refine{_,Z9,co,CC,dx,_,Z9,s8 _ _ ld,T.cl,T.nE,wc _ _ _ _ _,?_};rw[yQ];revert lb sz s8;generalize upd W ea (XO ea (cf e))=G7 at f7 |-;intro lb sz s8;have U:Hid ex (upd (upd G7 J (.tup [.str "fault",.str (qO e),.ref Y])) co (.ins CC dx (iz (.ref m) (.ref sl) (.ref pl) rv (.ref J))))=Hid ex (upd G7 J (.tup [.str "fault",.str (qO e),.ref Y])):=iD c.i1;have kB:∀a∈ex,∃o,upd G7 J (.tup [.str "fault",.str (qO e),.ref Y]) a=Z8 o/\∀xs,o≠.tup xs:=fun a ha=>by
   obtain⟨o,e,n⟩:=lc a ha;exact{o,s8 _ _ e,n}
  have O:aT (Hid ex H) (Hid ex (upd G7 J (.tup [.str "fault",.str (qO e),.ref Y]))):=f7.trans (gD sz);have lg:Hid ex (upd G7 J (.tup [.str "fault",.str (qO e),.ref Y])) J=Z8 (.tup [.str "fault",.str (qO e),.ref Y]):=gs kB ag;refine k _ _ {li,?_,c.i1,c.i2,c.i3,c.n1,c.n2,c.n3,{dx,_,_,ag,?_,?_},{ss,aP (s8 _ _ la) c.n1.symm,?_},{Z,aP (s8 _ _ kv) c.n2.symm,?_},c.wk,fun a ha=>?_} ?_ ?_ rfl
  ·exact Bu c.sm fun a t n2 n3 o e=>aP (s8 _ _ (lf a t n2 n3 o e)) t
  ·rw[U];exact hg.same O
  ·rw[U];exact{J,Y,Z9,lg,O _ _ hI}
  ·rw[U];exact Paired.mono (fun _ _ z=>iG.same' O z) jp
  ·rw[U];exact Paired.mono (fun _ _ z=>z.same O) ka
  ·by_cases z:a=co
   ·rw[z];exact{_,ag,fun xs z=>by cases z}
   ·obtain⟨o,e,n⟩:=kB a ha;exact{o,aP e z,n}
  ·rw[U];exact O
  ·exact fun a t n2 n3 o e=>aP (s8 _ _ (lf a t n2 n3 o e)) t
end
def EB(Ms:List MD):Prop:=∀M∈Ms,∀q∈M.hs,q.2.toOk (Ms.length:Int)/\q.2.deep<=4/\q.2.size<=3*ddz 4
theorem uC.ok{CM:aa}{Ms:List MD}{H:Hp}{m:aa}(h:uC CM Ms H m):EB Ms:=by
 obtain⟨dx,W,fs,_,_,xs,_,p⟩:=h;intro M Y;obtain⟨j,Z⟩:=dB Y;obtain⟨x,_,z⟩:=jQ p Z;exact z.hk
theorem ND{Ms:List MD}{r:RS}(k:ROk Ms.length r)(n:r.pd≠[]):∃h M s,Did Ms r h M s:=by
 obtain⟨h,O⟩:∃h,r.pd.getLast?=Z8 h:=by
  cases e:r.pd.getLast? with
  |none=>exact absurd (yS.mp e) n
  |some h=>exact⟨h,Z9⟩
 have Z:=vY O;have Y:h∈r.pd:=by
  rw[Z];exact bC _ (aE.mpr rfl)
 have V:=k.ev h Y;have W:h.to.toNat<Ms.length:=by have:=V.to1;have:=V.to0;omega
 have U:h.to.toNat<r.sts.length:=by rw[k.len];exact W
 exact{h,_,_,Z,aO W,aO U}
inductive HG(Ms:List MD)(r:RS):Prop
 |err(h:Ev)(M:MD)(s:Sta)(e:Flt)(d:Did Ms r h M s)(q:doS h M.ds (jA M.hs h.sg) s.w=.error e)(eq:gP Ms r=({r with pd:=r.pd.dropLast,sp:=Z8 (.flt e h)},[]))
 |ok(h:Ev)(M:MD)(s:Sta)(w:Wk)(d:Did Ms r h M s)(q:doS h M.ds (jA M.hs h.sg) s.w=.ok w)(N:News (Ms.length:Int) h (3*ddz 4) s.w w)
   (eq:gP Ms r=(⟨r.sts.set h.to.toNat ⟨w.bx,w.qu,w.dr,w.se⟩,oE w.out r.pd.dropLast,Z8 h,if w.en=true then Z8 (.fin h) else Z7⟩,[⟨h,wrB M.bs w,wrQ M.qs w,w.out⟩]))
theorem vg{Ms:List MD}{r:RS}(Y:EB Ms)(k:ROk Ms.length r)(n:r.pd≠[]):HG Ms r:=by
 obtain⟨h,M,s,d⟩:=ND k n;have Z:=Cw (P:=fun D=>D.toOk (Ms.length:Int)/\D.deep<=4/\D.size<=3*ddz 4) (Y M (bD d.hM)) ⟨by simp only[Ds.toOk],by simp only[Ds.deep];omega,by simp only[Ds.size];omega⟩ h.sg
 cases q:doS h M.ds (jA M.hs h.sg) s.w with
 |error e=>exact .err h M s e d q (rS d q)
 |ok w=>exact .ok h M s w d q ((nC _ _ _ Z.1 q).le Z.2.2) (ve d q)
theorem jB{r:RS}{left:Int}(h:ib r left=Z7):r.sp=Z7/\r.pd≠[]/\0<left:=by
 unfold ib at h
 split at h
 ·cases h
 ·rename_i e
  split at h
  ·cases h
  ·rename_i c
   split at h
   ·cases h
   ·refine{e,fun z=>?_,by omega};rw[z]at c;exact c rfl
theorem NF{r:RS}{left:Int}{s:Stp}(h:r.sp=Z8 s):ib r left=Z8 (.stp s):=by
 unfold ib;rw[h]
theorem rT{Ms:List MD}{r:RS}(h:HG Ms r):(gP Ms r).1.pd.length<=r.pd.length+5000*(gP Ms r).2.length/\((∃q,(gP Ms r).2=[q])\/((gP Ms r).2=[]/\∃s,(gP Ms r).1.sp=Z8 s)):=by
 cases h with
 |err h M s e d q eq=>
  rw[eq];refine{?_,.inr {Z9,_,Z9}};show r.pd.dropLast.length<=_;rw[kF];omega
 |ok h M s w d q N eq=>
  rw[eq];refine{?_,.inl {_,Z9}};show (oE w.out r.pd.dropLast).length<=r.pd.length+5000*1;rw[(gb _ _).length_eq,ay,kF];obtain⟨new,e1,Y,_⟩:=N.ex;have e1:w.out=new:=e1;have Z:3*ddz 4<=5000:=by decide
  rw[e1];omega
def lD(Ms:List MD)(r:RS)(Z:Int)(i:Nat)(e:End):Prop:=(∀j,j<i->ROk Ms.length (itR Ms r j).1/\ib (itR Ms r j).1 (Z-(itR Ms r j).2.length)=Z7)/\ib (itR Ms r i).1 (Z-(itR Ms r i).2.length)=Z8 e/\ROk Ms.length (itR Ms r i).1
def rMu(σ:St)(G:Hp):Nat:=match (σ[3]?:Option (Option V)),(σ[2]?:Option (Option V)) with
 |some (Z8 .non),Z8 (Z8 (.ref rl))=>(match G rl with|some (.lst Z)=>1+(2000-Z.length)|_=>0)
 |_,_=>0
theorem Cz{σ:St}{G:Hp}{rl:aa}{Z:List V}(W:σ[3]?=Z8 (Z8 .non))(U:σ[2]?=Z8 (Z8 (.ref rl)))(Y:G rl=Z8 (.lst Z)):rMu σ G=1+(2000-Z.length):=by
 unfold rMu;rw[W,U];dsimp only;rw[Y]
theorem CA{σ:St}{G:Hp}{t:aa}(Z:σ[3]?=Z8 (Z8 (.ref t))):rMu σ G=0:=by
 unfold rMu;rw[Z]
theorem nF.ref{F:Hp}{v:V}:∀{e:End},nF F v e->∃t,v=.ref t
 |.empty,⟨t,e,_⟩=>⟨t,e⟩
 |.cut,⟨t,e,_⟩=>⟨t,e⟩
 |.stp (.fin _),⟨t,_,e,_⟩=>⟨t,e⟩
 |.stp (.flt _ _),⟨t,_,e,_⟩=>⟨t,e⟩
section
variable{P:aL}{w:bA}{K:af}{mg:Str->Option ae}{base:cu}{f fE fO CC CM CS:aa}{fd fdE fdO:bS}
seal PS PSs PE PA PT PW PI PG PGs PC
structure Ran(CC CS:aa)(Ms:List MD)(Hb:Hp)(ex:Ex)(co m sl pl:aa)(r:RS)(most:Int)(H G:Hp)(t:aa)(i:Nat)(e:End):Prop where
 st:lD Ms r most i e
 cc:iq CC CS Ms Hb ex G co m sl pl (itR Ms r i).1
 sm:aT (Hid ex H) (Hid ex G)
 ot:Oth ex co sl pl H G
 rs:∃rl en rvs,Hid ex G t=Z8 (.tup [.ref rl,en])/\Hid ex G rl=Z8 (.lst rvs)/\H rl=Z7/\aH (RcIn (Hid ex G)) rvs (itR Ms r i).2/\nF (Hid ex G) en e
inductive HH(CC CM CS:aa)(vs:List V)(H:Hp)(Q:VK)(_e:XK):Prop where
 |mk(Ms:List MD)(Hb:Hp)(ex:Ex)(co m sl pl:aa)(r:RS)(most:Int)(_:vs=[.ref co,.int most])(_:uC CM Ms Hb m)(_:iq CC CS Ms Hb ex H co m sl pl r)(_:most<=1000)(_:r.pd.length<=1000000)(_:∀G t i e,Ran CC CS Ms Hb ex co m sl pl r most H G t i e->Q (.ref t) G):HH CC CM CS vs H Q _e
def CH(CC CM CS:aa):Sp:=fun vs H Q Z=>HH CC CM CS vs H Q Z
abbrev nRn:List Str:=["course","most","records","ending","record"]
theorem HI:bK nRn ["course","most"] (aN m8):={}
theorem Bx(D:Df K mg "run_on" m8 ["course","most"] f fd)(ME:Mt K CC "ending_due" "Course.ending_due" fi ["self","left"] fE fdE)(GE:bh P w K mg base CX0 1 fE fdE ["self","left"] (NB CC CS))
  (MO:Mt K CC "do_one" "Course.do_one" iy ["self"] fO fdO) (GO:bh P w K mg base CX0 38 fO fdO ["self"] (Lp CC CM CS)) (T:CoT K mg CC) (B:Bl mg) :
  bh P w K mg base CX0 39 f fd ["course","most"] (CH CC CM CS):=by
 refine D.F.ok HI (fun vs H Q E h=>?_) (fun dw A outer s H vs Q E hr h=>?_)
 ·obtain⟨Ms,Hb,ex,co,m,sl,pl,r,Z,rfl,_⟩:=h;rfl
 obtain⟨Ms,Hb,ex,co,m,sl,pl,r,Z,rfl,hM,c,dV,dv,k⟩:=h;have r1:cZ 1 _:=hr.mono (by decide);refine⟨_,ai (bM (i:=2) HI.nd rfl (Or.inl rfl) (eR aj))
  (ai (bM (i:=3) HI.nd rfl (Or.inl rfl) (fZ (pv 0) T.cl ME.m GE r1 ME.b .nil aY (ak (pv 1) aj)))
  (ai (vv cF (qR (E6 (pv 3)))
   (ai (bM (i:=4) HI.nd rfl (Or.inl rfl) (gB (pv 0) T.cl MO.m GO hr MO.b .nil aY))
   (ai (cN (qR (BG (pv 4))) (aA (dU (oQ bE dD dE iO (pv 2) (ak (pv 4) aj)))) bZ)
   (aA (bM (i:=3) HI.nd rfl (Or.inl rfl) (fZ (pv 0) T.cl ME.m GE r1 ME.b .nil aY (ak (cQ jN (pv 1) (cT (fj K (by rfl)) (by rfl) B.len cy (ak (pv 2) aj))) aj)))))))
  (aA (bJ (eg (ak (pv 2) (ak (pv 3) aj))))))),?_⟩
 have eF:∀{G:Hp} {r':RS} {ex':Ex},iq CC CS Ms Hb ex' G co m sl pl r'->∃dx fs,G co=Z8 (.ins CC dx fs)/\fs.lookup ("ending_due":Str)=Z7/\fs.lookup ("do_one":Str)=Z7:=fun c'=>by
  obtain⟨dx,rv,sv,h1,_⟩:=c'.hc;exact{dx,_,h1,wg _ _ _ _ _ (by decide +kernel),wg _ _ _ _ _ (by decide +kernel)}
 have mo:=hM.ok
 -- no records
 refine cb (dy ?_);refine{bO _,fun rl W=>?_};refine bL ?_;dsimp only;have c0:=c.more (o:=.lst []) W (fun xs z=>by cases z);have em:upd H rl (.lst []) rl=Z8 (.lst []):=ag;have f0:aT (Hid ex H) (Hid (ex.add rl) (upd H rl (.lst []))):=by
  rw[qj W];exact aT.refl _
 have eo:Oth ex co sl pl H (upd H rl (.lst [])):=fun a _ _ _ o e=>aP e (av e W);have n1:co≠rl:=by
  obtain⟨dx,rv,sv,h1,_⟩:=c.hc;exact av h1 W
 have n2:sl≠rl:=by
  obtain⟨ss,h1,_⟩:=c.hs;exact av h1 W
 have n3:pl≠rl:=by
  obtain⟨ss,h1,_⟩:=c.hp;exact av h1 W
 have ei:Hb rl=Z7:=by
  cases z:Hb rl with
  |none=>rfl
  |some o=>
   have y:=(c.sm _ _ z).2.2.2;rw[W]at y
   cases y
 revert c0 em f0 eo;generalize upd H rl (.lst [])=G0;intro c0 em f0 eo;refine cb (dy ?_);obtain⟨dx,fs,M,fo,eA⟩:=eF c0;refine{_,Z9,co,dx,fs,Z9,M,fo,_,Z9,Ms,Hb,ex.add rl,co,m,sl,pl,r,Z,Z9,c0,fun en G1 s1 fk=>?_};refine bL ?_;dsimp only;refine cb ?_;refine zu (fun σ G=>∃(i:Nat) (en:V) (u4:Option V) (rvs:List V),σ=[Z8 (.ref co),Z8 (.int Z),Z8 (.ref rl),Z8 en,u4]/\(∀j,j<i->ROk Ms.length (itR Ms r j).1/\ib (itR Ms r j).1 (Z-(itR Ms r j).2.length)=Z7)/\iq CC CS Ms Hb (ex.add rl) G co m sl pl (itR Ms r i).1 /\
   G rl=Z8 (.lst rvs)/\aH (RcIn (Hid (ex.add rl) G)) rvs (itR Ms r i).2/\aT (Hid ex H) (Hid (ex.add rl) G)/\Oth ex co sl pl H G/\(itR Ms r i).1.pd.length<=1000000+5000*(itR Ms r i).2.length /\
   ((ib (itR Ms r i).1 (Z-(itR Ms r i).2.length)=Z7/\en=.non)\/∃e,ib (itR Ms r i).1 (Z-(itR Ms r i).2.length)=Z8 e/\nF (Hid (ex.add rl) G) en e)) rMu ?_ ?_ ?_
 ·refine{0,en,_,[],Z9,fun j hj=>absurd hj (gX _),c0.same s1,s1 _ _ em,.nil,f0.trans (gD s1),fun a q1 q2 q3 o e=>s1 _ _ (eo a q1 q2 q3 o e),by show r.pd.length<=_;omega,?_};have e0:Z-(((itR Ms r 0).2.length:Nat):Int)=Z:=by
   show Z-((0:Nat):Int)=Z;omega
  rw[e0];exact fk
 ·clear fk;rintro σ G ⟨i,en,u4,rvs,rfl,hj,c1,fe,fa,f1,el,dL,hd⟩;have dG:=aV fa
  rcases hd with⟨hd,rfl⟩|⟨e,hd,fk⟩
  ·obtain⟨d1,d2,d3⟩:=jB hd;have si:=vg mo c1.ok d2;obtain⟨eL,ed⟩:=rT si;refine{_,Z9,_,Z9,ja ?_};refine cb (dy ?_);obtain⟨dx,fs,M,fo,eA⟩:=eF c1;refine{_,Z9,co,dx,fs,Z9,M,eA,Ms,Hb,ex.add rl,co,m,sl,pl,_,Z9,hM,c1,d1,d2,by omega,fun v G2 c2 f2 ej tl=>?_};refine bL ?_;dsimp only;have I:G2 rl=Z8 (.lst rvs):=ej rl n1.symm n2.symm n3.symm _ fe;have ey:Oth ex co sl pl H G2:=fun a q1 q2 q3 o e=>ej a q1 q2 q3 o (el a q1 q2 q3 o e);have eh:rMu [Z8 (.ref co),Z8 (.int Z),Z8 (.ref rl),Z8 .non,u4] G=1+(2000-rvs.length):=Cz rfl rfl fe;have big:2000<aC:=by decide
   have ez:itR Ms r (i+1)=((gP Ms (itR Ms r i).1).1,(itR Ms r i).2++(gP Ms (itR Ms r i).1).2):=rfl;have ek:∀j,j<i+1->ROk Ms.length (itR Ms r j).1/\ib (itR Ms r j).1 (Z-(itR Ms r j).2.length)=Z7:=fun j dz=>by
    rcases uz j i with z|z
    ·exact hj j z
    ·have:j=i:=by omega
     rw[this];exact⟨c1.ok,hd⟩
   rcases ed with⟨q,eq⟩|⟨eq,sp,ea⟩
   ·rw[eq]at tl eL;obtain⟨J,ee⟩:∃J,v=.ref J:=by
     obtain⟨J,_,_,_,_,_,_,_,e,_⟩:=tl;exact⟨J,e⟩
    subst ee;refine cb ?_;refine{_,Z9,_,Z9,ja ?_};refine{_,Z9,.inl {Z9,_,SqL.of I},_,Z9,rl,rvs,.ref J,Z9,Z9,I,by omega,?_};have c3:=c2.upd (a:=rl) (o:=.lst (rvs++[.ref J])) Ex.here ei n1 n2 n3 (fun xs z=>by cases z);have O:upd G2 rl (.lst (rvs++[.ref J])) rl=Z8 (.lst (rvs++[.ref J])):=ag;have f3:Hid (ex.add rl) (upd G2 rl (.lst (rvs++[.ref J])))=Hid (ex.add rl) G2:=iD Ex.here;have er:Oth ex co sl pl H (upd G2 rl (.lst (rvs++[.ref J]))):=fun a q1 q2 q3 o e=>aP (ey a q1 q2 q3 o e) (av e W);have Y:aH (RcIn (Hid (ex.add rl) (upd G2 rl (.lst (rvs++[.ref J]))))) (rvs++[.ref J]) (itR Ms r (i+1)).2:=by
     rw[f3,ez,eq];exact eJ (Paired.mono (fun _ _ z=>z.same f2) fa) tl
    have et:aT (Hid ex H) (Hid (ex.add rl) (upd G2 rl (.lst (rvs++[.ref J])))):=by
     rw[f3];exact f1.trans f2
    have U:iq CC CS Ms Hb (ex.add rl) (upd G2 rl (.lst (rvs++[.ref J]))) co m sl pl (itR Ms r (i+1)).1:=c3;revert U O er Y et;clear c3 f3;generalize upd G2 rl (.lst (rvs++[.ref J]))=G3;intro O er Y et U;have l3:=aV Y;dsimp only;refine dy ?_;obtain⟨dx,fs,M,fo,eA⟩:=eF U;refine{_,Z9,co,dx,fs,Z9,M,fo,_,Z9,_,Z9,rl,_,Z9,.inl (SqL.of O),_,_,Z9,Z9,Ms,Hb,ex.add rl,co,m,sl,pl,_,_,Z9,U,fun eH G4 s4 g=>?_};refine bL ?_;dsimp only;refine{{i+1,eH,_,_,Z9,ek,U.same s4,s4 _ _ O,Paired.mono (fun _ _ z=>z.same (gD s4)) Y,et.trans (gD s4),fun a q1 q2 q3 o e=>s4 _ _ (er a q1 q2 q3 o e),?_,?_},?_}
    ·rw[ez,eq,ay];show (gP Ms (itR Ms r i).1).1.pd.length<=_;show _<=1000000+5000*((itR Ms r i).2.length+1);simp only[aU,cH]at eL;omega
    ·rw[<- l3];exact g
    ·rw[eh]
     rcases g with⟨_,rfl⟩|⟨e,_,he⟩
     ·rw[Cz rfl rfl (s4 _ _ O),ay];simp only[aU,cH];omega
     ·obtain⟨t,rfl⟩:=he.ref;rw[CA rfl];omega
   ·rw[eq]at tl eL;have tl:v=.non:=tl;subst tl;refine cb ?_;refine{_,Z9,_,Z9,gf (Bv ?_)};dsimp only;have U:iq CC CS Ms Hb (ex.add rl) G2 co m sl pl (itR Ms r (i+1)).1:=c2;have Y:aH (RcIn (Hid (ex.add rl) G2)) rvs (itR Ms r (i+1)).2:=by
     rw[ez,eq,cB];exact Paired.mono (fun _ _ z=>z.same f2) fa
    have l3:=aV Y;refine dy ?_;obtain⟨dx,fs,M,fo,eA⟩:=eF U;refine{_,Z9,co,dx,fs,Z9,M,fo,_,Z9,_,Z9,rl,_,Z9,.inl (SqL.of I),_,_,Z9,Z9,Ms,Hb,ex.add rl,co,m,sl,pl,_,_,Z9,U,fun eH G4 s4 g=>?_};refine bL ?_;dsimp only;have ew:∃e,ib (itR Ms r (i+1)).1 (Z-(rvs.length:Int))=Z8 e/\nF (Hid (ex.add rl) G4) eH e:=by
     rcases g with⟨z,_⟩|z
     ·have y:ib (itR Ms r (i+1)).1 (Z-(rvs.length:Int))=Z8 (.stp sp):=NF ea;rw[y]at z
      cases z
     ·exact z
    refine{{i+1,eH,_,_,Z9,ek,U.same s4,s4 _ _ I,Paired.mono (fun _ _ z=>z.same (gD s4)) Y,(f1.trans f2).trans (gD s4),fun a q1 q2 q3 o e=>s4 _ _ (ey a q1 q2 q3 o e),?_,?_},?_}
    ·rw[ez,eq,cB];show (gP Ms (itR Ms r i).1).1.pd.length<=1000000+5000*(itR Ms r i).2.length;simp only[cH]at eL;omega
    ·rw[<- l3];exact .inr ew
    ·rw[eh];obtain⟨e,_,he⟩:=ew;obtain⟨t,rfl⟩:=he.ref;rw[CA rfl];omega
  ·obtain⟨t0,rfl⟩:=fk.ref;refine{_,Z9,_,Z9,gf ?_};dsimp only;refine fH ?_;refine{_,Z9,_,Z9,lt2,fun t ht=>?_};have ff:=aD ht (.tup [.ref rl,.ref t0]);have f5:aT (Hid (ex.add rl) G) (Hid ex (upd G t (.tup [.ref rl,.ref t0]))):=(gD ff).trans Ab;have eb:rl∉ex:=fun z=>by
    obtain⟨o,e,_⟩:=c.nt rl z;rw[W]at e
    cases e
   have ef:∀a∈ex,∃o,upd G t (.tup [.ref rl,.ref t0]) a=Z8 o/\∀xs,o≠.tup xs:=fun a ha=>by
    obtain⟨o,e,n⟩:=c1.nt a (Ex.more ha);exact{o,ff _ _ e,n}
   exact k _ t i e {⟨hj,hd,c1.ok⟩,(c1.same ff).less n1 n2 n3,f1.trans f5,fun a q1 q2 q3 o e=>ff _ _ (el a q1 q2 q3 o e),rl,_,rvs,gs ef ag,by rw[cW eb];exact ff _ _ fe,W,Paired.mono (fun _ _ z=>z.same f5) fa,fk.same f5}
 ·rintro σ G4 Q1 Q2 hq ⟨x,hx,c,ec,z⟩;exact{x,hx,c,ec,hq _ _ z}
end
def st0(M:MD):Sta:={M.ps,M.qs.map fun q=>(q,[]),0,0}
def qm(es:List Ev):List Ev:=es.mapIdx fun i e=>atP e i
def gy(Ms:List MD)(es:List Ev):RS:={Ms.map st0,oE (qm es) [],Z7,Z7}
theorem mH{Z Y:Type}{R:Z->Y->Prop}:∀{xs:List Z} {ys:List Y},xs.length=ys.length->(∀(i:Nat) x y,xs[i]?=Z8 x->ys[i]?=Z8 y->R x y)->aH R xs ys
 | [],[],_,_=>.nil
 | [],_::_,l,_=>by cases l
 |_::_,[],l,_=>by cases l
 |x::xs,y::ys,l,h=>.cons (h 0 x y rfl rfl) (mH (by simpa using l) fun i a b ha hb=>h (i+1) a b (by simpa using ha) (by simpa using hb))
theorem lE(es:List Ev):(qm es).length=es.length:=List.length_mapIdx
theorem rV{es:List Ev}{i:Nat}{x:Ev}(h:(qm es)[i]?=Z8 x):∃e,es[i]?=Z8 e/\x=atP e i:=by
 unfold qm at h;rw[List.getElem?_mapIdx]at h
 cases z:es[i]? with
 |none=>
  rw[z]at h
  cases h
 |some e=>
  rw[z]at h
  cases h;exact⟨e,Z9,Z9⟩
theorem CI(es:List Ev):(qm es).Pairwise (fun a b=>a.key≠b.key):=by
 refine c9.mpr fun i j hi Z lt=>?_;obtain⟨e,_,h1⟩:=rV (es:=es) (i:=i) (x:=(qm es)[i]) (aO hi);obtain⟨Y,_,h2⟩:=rV (es:=es) (i:=j) (x:=(qm es)[j]) (aO Z);rw[h1,h2];refine vZ (.inr ?_);show (i:Int)≠(j:Int);omega
theorem CJ{Ms:List MD}{es:List Ev}(h:∀e∈es,z9 Ms.length e):ROk Ms.length (gy Ms es):=by
 refine{aq _,qB List.Pairwise.nil (fun x _ y hy=>by cases hy) (CI es),fun e Z=>?_,fun e Z=>?_}
 ·rcases cv.mp ((gb _ _).mem_iff.mp Z) with z|z
  ·obtain⟨i,hi⟩:=dB z;obtain⟨Y,h',rfl⟩:=rV hi;obtain⟨a,b,c,d,f⟩:=h Y (bD h');exact⟨a,b,c,d,f⟩
  ·cases z
 ·rcases cv.mp ((gb _ _).mem_iff.mp Z) with z|z
  ·obtain⟨i,hi⟩:=dB z;obtain⟨Y,h',rfl⟩:=rV hi;exact .inl rfl
  ·cases z
theorem New.sta{H H':Hp}{CS st dx W Y:aa}{Z:List aa}{M:MD}(N:New H H' CS st M.ps M.qs dx W Y Z)(O:(M.ps.map (·.1)).Nodup)(U:M.qs.Nodup):StA CS H' st (st0 M):=by
 have inj:∀xs:List Str,xs.Nodup->(xs.map (Sum.inr:Str->Key)).Nodup:=fun xs h=>List.Pairwise.map _ (fun a b z y=>z (lN y)) h;refine{dx,W,Y,M.qs.zip Z,N.hst,?_,?_,?_}
 ·have z:H' W=Z8 (.dK (qN (boK M.ps) [])):=N.hbd;have e:qN (boK M.ps) []=boK M.ps:=by
   rw[Bf]
   ·exact kP _
   ·rw[kP];unfold boK;rw[dC];have:=inj _ O;rw[dC]at this;exact this
  rw[e]at z;exact z
 ·have z:H' Y=Z8 (.dK (qN (quK (M.qs.zip Z)) [])):=N.hqd;have e:qN (quK (M.qs.zip Z)) []=quK (M.qs.zip Z):=by
   rw[Bf]
   ·exact kP _
   ·rw[kP];unfold quK;rw[dC];have e1:(M.qs.zip Z).map ((fun x:Key×V=>x.1) ∘ fun p:Str×aa=>((Sum.inr p.1:Key),V.ref p.2))=((M.qs.zip Z).map (·.1)).map (Sum.inr:Str->Key):=by
     rw[dC];rfl
    rw[e1,List.map_fst_zip (by rw[N.len];exact aB _)];exact inj _ U
  rw[e]at z;exact z
 ·refine mH ?_ fun i x y hx hy=>?_
  ·show _=((M.qs.map fun q=>(q,([]:List Int)))).length;rw[p7,aq,N.len,Nat.min_self]
  ·have hx:=mI.mp hx;have hy:(M.qs.map fun q=>(q,([]:List Int)))[i]?=Z8 y:=hy;rw[cm,hx.1]at hy
   cases hy;exact{Z9,(N.li _ (bD hx.2)).2}
theorem iT{H:Hp}{a:aa}(n:H a=Z7):a∉({[],H}:Ex):=fun z=>z.elim (fun y=>by cases y) fun⟨o,e,_⟩=>by
 have e:H a=Z8 o:=e;rw[n]at e
 cases e
theorem New.hid{H0 H H':Hp}{CS st dx V Y:aa}{Z:List aa}{ps:List (Str×Int)}{qs:List Str}(s:aT H0 H)(N:New H H' CS st ps qs dx V Y Z):New (fun _=>Z7) (Hid {[],H0} H') CS st ps qs dx V Y Z:=
 {by rw[cW (iT (none_of s N.ost))];exact N.hst,by rw[cW (iT (none_of s N.obd))];exact N.hbd,by rw[cW (iT (none_of s N.oqd))];exact N.hqd,N.len,N.nd,fun l W=>{Z9,by rw[cW (iT (none_of s (N.li l W).1))];exact (N.li l W).2},Z9,Z9,Z9,N.ne,fun a o e=>by cases e}
theorem HJ{H G G':Hp}{l:List aa}(s:aT G G'):aT (Hid ⟨l,H⟩ G) (Hid {[],H} G'):=fun a o e=>by
 have Z:a∉({[],H}:Ex):=fun z=>dN e (z.elim (fun y=>by cases y) .inr);rw[cW Z];exact s _ _ (cG _ _ e)
theorem wD{H G G':Hp}{l:List aa}(s:aT G G')(n:∀a∈l,G a=Z7):aT (Hid {[],H} G) (Hid ⟨l,H⟩ G'):=fun a o e=>by
 have Z:=cG _ _ e;have Y:a∉(⟨l,H⟩:Ex):=fun z=>z.elim (fun y=>by rw[n a y]at Z;cases Z) fun y=>dN e (.inr y);rw[cW Y];exact s _ _ Z
theorem MoI.wk0{m:Int}{H:Hp}{v:V}{M:MD}(h:MoI m H v M):p9 M.bs M.qs (st0 M).w:=by
 have Y:(10:Int)^15=1000000000000000:=by decide
 refine{h.kb,?_,h.nb,h.nq,fun p hp=>?_,fun p hp=>?_,ic,(fun x hx=>by cases hx),ic,(fun x hx=>by cases hx),(fun x hx=>by cases hx),?_}
 ·show (M.qs.map fun q=>(q,([]:List Int))).map (·.1)=_;rw[dC];exact List.map_id _
 ·exact h.wb p hp
 ·obtain⟨q,_,rfl⟩:=cq.mp hp;exact{bO _,fun n Z=>by cases Z}
 ·rw[ay];have:=h.lb;have:=h.lq;omega
section
variable{P:aL}{w:bA}{K:af}{mg:Str->Option ae}{base:cu}{f fI fF fPf fA fR fBk CC CM CS CB:aa}{fd fdI fdF fdPf fdA fdR fdBk:bS}
seal PS PSs PE PA PT PW PI PG PGs PC
inductive Lq(CC:aa)(vs:List V)(H:Hp)(Q:VK)(_e:XK):Prop where
 |mk(b dx:aa)(m s p:V)(_:vs=[.ref b,m,s,p])(_:H b=Z8 (.ins CC dx []))(_:∀G,G b=Z8 (.ins CC dx (iz m s p .non .non))->But b H G->Q .non G):Lq CC vs H Q _e
def NG(CC:aa):Sp:=fun vs H Q Z=>Lq CC vs H Q Z
theorem scCI:bK ["self","model","states","pending"] ["self","model","states","pending"] (aN mB):={}
theorem Ac(F:Fun K "__init__" "Course.__init__" mB f fd)(T:CoT K mg CC):bh P w K mg base CX0 1 f fd ["self","model","states","pending"] (NG CC):=by
 refine F.ok scCI (fun vs H Q E h=>?_) (fun Z A outer s H vs Q E O h=>?_)
 ·obtain⟨b,dx,m,s',p,rfl,_⟩:=h;rfl
 obtain⟨b,dx,m,s',p,rfl,hb,k⟩:=h;refine{_,ai (eD (pv 0) (pv 1) rfl) (ai (eD (pv 0) (pv 2) rfl) (ai (eD (pv 0) (pv 3) rfl) (ai (eD (pv 0) yd rfl) (aA (eD (pv 0) yd rfl))))),?_};have Y:=hJ "model" m [];have U:=hJ "states" s' (cE "model" m []);have W:=hJ "pending" p (cE "states" s' (cE "model" m []));have V:=hJ "reached" .non (cE "pending" p (cE "states" s' (cE "model" m [])));simp only[cH]at Y;refine{_,Z9,_,Z9,b,CC,dx,[],Z9,hb,T.cl,T.nM,(by show 0<1000;decide),_,Z9,_,Z9,b,CC,dx,_,Z9,ag,T.cl,T.nS,(by omega),_,Z9,_,Z9,b,CC,dx,_,Z9,ag,T.cl,T.nP,(by omega),?_};refine{_,Z9,b,CC,dx,_,Z9,ag,T.cl,T.nR,(by omega),_,Z9,b,CC,dx,_,Z9,ag,T.cl,T.nE,(by omega),?_};rw[Nz];exact k _ ag (((((But.upd b H _).trans (But.upd b _ _)).trans (But.upd b _ _)).trans (But.upd b _ _)).trans (But.upd b _ _))
inductive HK(CC CM CS:aa)(vs:List V)(H:Hp)(Q:VK)(_e:XK):Prop where
 |mk(Ms:List MD)(m sgl:aa)(svs:List V)(es:List Ev)(_:vs=[.ref m,.ref sgl])(_:uC CM Ms H m)(_:Ms.length<1000)(_:H sgl=Z8 (.lst svs))(_:aH (xc H) svs es)(_:es.length<64)(_:(∀e∈es,z9 Ms.length e))(_:∀(G:Hp) (co sl pl:aa),iq CC CS Ms H ⟨[co,sl,pl],H⟩ G co m sl pl (gy Ms es)->Q (.ref co) G):HK CC CM CS vs H Q _e
def CO(CC CM CS:aa):Sp:=fun vs H Q Z=>HK CC CM CS vs H Q Z
abbrev nCa:List Str:=["model","signs","states"]
theorem scCa:bK nCa ["model","signs"] (aN e9):={}
theorem ndCa:((["at"]:List Str)++nCa).Nodup:=by decide +kernel
theorem By(D:Df K mg "course_at_first" e9 ["model","signs"] f fd)(DF:Df K mg "first_state" jX ["model","at"] fF fdF)(GF:bh P w K mg base CX0 3 fF fdF ["model","at"] (zU CM CS))(ga:Df K mg "pending_at_first" gC ["signs"] fPf fdPf)(ee:bh P w K mg base CX0 1 fPf fdPf ["signs"] Li)
  (MC:Mk K CC fI) (bI:Binds K fdI ["self","model","states","pending"] []) (GI:bh P w K mg base CX0 1 fI fdI ["self","model","states","pending"] (NG CC)) (T:CoT K mg CC) (TM:MdT K mg CM CS) (B:Bl mg) (BS:mg "sorted"=Z7) :
  bh P w K mg base CX0 4 f fd ["model","signs"] (CO CC CM CS):=by
 refine D.F.ok scCa (fun vs H Q E h=>?_) (fun dL A outer s H vs Q E hr h=>?_)
 ·obtain⟨Ms,m,fo,fe,es,rfl,_⟩:=h;rfl
 obtain⟨Ms,m,fo,fe,es,rfl,hM,eb,eo,ek,dV,eL,k⟩:=h;have hu:=lQ hr;have ef:=FP hr;have h5:=jt (EW (by decide:5<=50) _) ef;have r1:cZ 1 _:=hr.mono (by decide);have r2:cZ 2 _:=hr.mono (by decide);have r3:cZ 3 _:=hr.mono (by decide);refine⟨_,ai (yw (i:=2) ["at"] (iC.open (NN:=nCa) (N:=nCa) (sc:=aN e9) rfl rfl (by decide +kernel) rfl (by decide +kernel) (by decide +kernel) rfl (by decide +kernel)) rfl scCa.nd rfl (Or.inl rfl) (ji (by rfl) B.range (ak (cT (fj K (by rfl)) (by rfl) B.len cy (ak (cM K (by rfl) (pv 0) (by rfl)) aj)) aj)) (fun _ _ _ _=>df (i:=0) ndCa rfl (Or.inl rfl)) (fun _ _ _ _=>jW)
   (fun _ _ _ _=>aM GF r3 (by rfl) DF.m DF.F.kp DF.b .nil aY (ak (pv 1) (ak (pv 0) aj))))
  (aA (bJ (jT MC GI r2 (by rfl) T.m bI .nil aY (ak (pv 0) (ak (pv 2) (ak (Gf h5 (by rfl) BS (ak (aM ee r1 (by rfl) ga.m ga.F.kp ga.b .nil aY (ak (pv 1) aj)) aj) lO) aj)))))),?_⟩
 obtain⟨ei,ml,fs,hm,fx,xs,ft,gd⟩:=id hM;have eh:xs.length=Ms.length:=aV gd;have big:=dZ;refine cb (dy ?_);refine Et (K:=K) (ms:=xs) rfl hm TM.clM TM.nM fx ft (by omega) (fun i ys G=>∃ss:List aa,ys=ss.map V.ref/\aT H G/\aH (StA CS (Hid {[],H} G)) ss ((Ms.take i).map st0)) {[],Z9,aT.refl _,by rw[jL];exact .nil} ?_ ?_ ?_
 ·rintro i ys G hi ⟨ss,rfl,Z,p1⟩;have:=aV p1;rw[aq,cK]at this;rw[aq];omega
 ·rintro i ys G hi ⟨ss,rfl,Z,p1⟩;obtain⟨Mi,ff⟩:∃M,Ms[i]?=Z8 M:={_,aO (by omega)};obtain⟨x,hx,mo⟩:=jQ gd ff;obtain⟨t,bl,ql,n0,x3,x4,vb,rfl,g1,g2,g3,g4⟩:=mo.fs;refine{Z9,?_};unfold w5;refine ja ?_;have lb:Mi.ps.length<=100:=by
   have e:=congrArg jq mo.kb;rw[aq]at e;have:=mo.lb;omega
  have lq:Mi.qs.length<=100:=by
   have:=mo.lq;omega
  refine{_,Z9,_,Z9,m,ei,ml,t,bl,ql,fs,n0,x3,x4,i,xs,vb,Mi.ps,Mi.qs,by rw[Int.zero_add];rfl,Z _ _ hm,fx,Z _ _ ft,hx,Z _ _ g1,Z _ _ g2,g3.same Z,lb,Z _ _ g4,lq,fun st dx bd qd ls G' N=>?_};refine{ss++[st],by rw[bT];rfl,Z.trans N.same,?_};rw[d9,ff,bT];exact eJ (Paired.mono (fun _ _ z=>iG.same' (gD N.same) z) p1) ((N.hid Z).sta (by rw[mo.kb];exact mo.nb) mo.nq)
 rintro ys G ⟨ss,rfl,Z,p1⟩;rw[eh,dS]at p1;intro sl ge;have Y:=aD ge (.lst (ss.map V.ref));refine bL ?_;dsimp only;refine fH (tM ?_);have et:=none_of Z ge;refine{_,Z9,_,Z9,_,Z9,fo,fe,es,Z9,Y _ _ (Z _ _ eo),Paired.mono (fun _ _ z=>(z.same Z).same Y) ek,by omega,fun G1 l0 ys U ea ec ly hy=>?_};have eF:aH (ip G1) ys (qm es):=mH (by rw[lE];exact ly) fun i y e ey he=>by
  obtain⟨e',h',rfl⟩:=rV he;exact hy i y e' ey h'
 obtain⟨z1,z2,z3⟩:=wx eF;refine{l0,(ys.zip (qm es)).map fun u=>(u.1,u.2.key),Z9,?_,fun z hz=>?_,?_,?_,fun pl eA g pm fz=>?_}
 ·rw[dC];have:((fun x:V×List Int=>x.1) ∘ fun u:V×Ev=>(u.1,u.2.key))=(fun u:V×Ev=>u.1):=rfl;rw[this,z1];exact ec
 ·obtain⟨u,hu,rfl⟩:=cq.mp hz;exact Bt (z3 u hu)
 ·rw[dC];have:((fun x:V×List Int=>x.2) ∘ fun u:V×Ev=>(u.1,u.2.key))=Ev.key ∘ (fun u:V×Ev=>u.2):=rfl;rw[this,<- dC,z2];exact iL.mpr (CI es)
 ·rw[aq,p7,lE];omega
 obtain⟨ps,ed,ew⟩:=xX (F:=G1) (us:=ys.zip (qm es)) (es:=oE (qm es) []) (zs:=eA) z3 pm fz (by
  rw[z2];have:=gb (qm es) [];rw[cB]at this;exact this.symm) (CJ eL).fall
 rw[ed];have J:=aD g (.lst ps);have gg:=U _ _ (ag:upd G sl (.lst (ss.map V.ref)) sl=_);have ez:sl≠pl:=av gg g;intro co fw W em dG;have I:=J _ _ gg;have O:upd G1 pl (.lst ps) pl=Z8 (.lst ps):=ag;have er:sl≠co:=av I W;have eH:pl≠co:=av O W;have sA:aT H (upd G1 pl (.lst ps)):=(Z.trans (Y.trans U)).trans J;refine{co,fw,_,_,_,Z9,ag,fun G' fa but=>{Z9,?_}};have sB:aT (upd G1 pl (.lst ps)) G':=fun a o e=>but _ _ (aP (aP e (av e em)) (av e W)) (av e W);have el:H co=Z7:=none_of sA W;have ej:H pl=Z7:=none_of (Z.trans (Y.trans U)) g;have fG:∀a∈[co,sl,pl],G a=Z7:=fun a ha=>by
  simp only[ar,aI,or_false]at ha
  rcases ha with rfl|rfl|rfl
  ·exact none_of ((Y.trans U).trans J) W
  ·exact ge
  ·exact none_of (Y.trans U) g
 have sG:aT (Hid {[],H} G) (Hid {[co,sl,pl],H} G'):=wD (((Y.trans U).trans J).trans sB) fG;have fk:∀a∈({[co,sl,pl],H}:Ex),∃o,G' a=Z8 o/\∀xs,o≠.tup xs:=fun a ha=>by
  rcases ha with ha|⟨o,e,n⟩
  case inr=>exact{o,(sA.trans sB) _ _ e,n}
  have ha:a∈[co,sl,pl]:=ha;simp only[ar,aI,or_false]at ha
  rcases ha with rfl|rfl|rfl
  ·exact{_,fa,fun xs z=>by cases z}
  ·exact{_,sB _ _ I,fun xs z=>by cases z}
  ·exact{_,sB _ _ O,fun xs z=>by cases z}
 refine k G' co sl pl {CJ eL,fun b o e=>{av e el,av e et,av e ej,(sA.trans sB) _ _ e},.inl (by simp),.inl (by simp),.inl (by simp),er.symm,eH.symm,ez,{fw,_,_,fa,Z9,Z9},{ss,sB _ _ I,Paired.mono (fun _ _ z=>iG.same' sG z) p1},{ps,sB _ _ O,Paired.mono (fun _ _ z=>ip.hid fk (z.same (J.trans sB))) ew},fun i M s hi hs=>?_,fk};have hs:(Ms.map st0)[i]?=Z8 s:=hs;rw[cm,hi]at hs
 cases hs;obtain⟨x,_,mo⟩:=jQ gd hi;exact mo.wk0
structure NH(CB CS:aa)(G:Hp)(b:aa)(q:RS×List Rec)(e:End):Prop where
 ex:∃(dx rl sl:aa) (en:V) (rvs:List V) (ss:List aa),G b=Z8 (.ins CB dx (z8 (.ref rl) en (.ref sl)))/\G rl=Z8 (.lst rvs)/\aH (RcIn G) rvs q.2/\nF G en e/\G sl=Z8 (.lst (ss.map V.ref))/\aH (StA CS G) ss q.1.sts
inductive HL(CM CS CB:aa)(vs:List V)(H:Hp)(Q:VK)(_e:XK):Prop where
 |mk(Ms:List MD)(m sgl:aa)(svs:List V)(es:List Ev)(most:Int)(_:vs=[.ref m,.ref sgl,.int most])(_:uC CM Ms H m)(_:Ms.length<1000)(_:H sgl=Z8 (.lst svs))(_:aH (xc H) svs es)(_:es.length<64)(_:(∀e∈es,z9 Ms.length e))(_:most<=1000)(_:∀(G:Hp) (b:aa) (i:Nat) (e:End),aT H G->lD Ms (gy Ms es) most i e->NH CB CS (Hid ⟨[],H⟩ G) b (itR Ms (gy Ms es) i) e->Q (.ref b) G):HL CM CS CB vs H Q _e
def Lr(CM CS CB:aa):Sp:=fun vs H Q Z=>HL CM CS CB vs H Q Z
theorem NI:bK ["model","signs","most","course","told"] ["model","signs","most"] (aN vc):={}
theorem NJ(D:Df K mg "plain" vc ["model","signs","most"] f fd)(DA:Df K mg "course_at_first" e9 ["model","signs"] fA fdA)(GA:bh P w K mg base CX0 4 fA fdA ["model","signs"] (CO CC CM CS))(DR:Df K mg "run_on" m8 ["course","most"] fR fdR)(GR:bh P w K mg base CX0 39 fR fdR ["course","most"] (CH CC CM CS))
  (MB:Mk K CB fBk) (bB:Binds K fdBk ["self","records","ending","states"] []) (GB:bh P w K mg base CX0 1 fBk fdBk ["self","records","ending","states"] (Nt CB)) (TB:BkT K mg CB) (T:CoT K mg CC) :
  bh P w K mg base CX0 40 f fd ["model","signs","most"] (Lr CM CS CB):=by
 refine D.F.ok NI (fun vs H Q E h=>?_) (fun ci A outer s H vs Q E hr h=>?_)
 ·obtain⟨Ms,m,I,O,es,Y,rfl,_⟩:=h;rfl
 obtain⟨Ms,m,I,O,es,Y,rfl,hM,J,cx,cn,cr,ck,V,k⟩:=h;have r2:cZ 2 _:=hr.mono (by decide);have r4:cZ 4 _:=hr.mono (by decide);refine⟨_,ai (bM (i:=3) NI.nd rfl (Or.inl rfl) (aM GA r4 (by rfl) DA.m DA.F.kp DA.b .nil aY (ak (pv 0) (ak (pv 1) aj))))
  (ai (bM (i:=4) NI.nd rfl (Or.inl rfl) (aM GR hr (by rfl) DR.m DR.F.kp DR.b .nil aY (ak (pv 3) (ak (pv 2) aj))))
  (aA (bJ (jT MB GB r2 (by rfl) TB.m bB .nil aY (ak (bX cD (pv 4) aw (fun _ _=>rfl)) (ak (bX cD (pv 4) aw (fun _ _=>rfl)) (ak (cO (pv 3) rfl) aj))))))),?_⟩
 refine cb (dy ?_);refine{_,Z9,_,Z9,Ms,m,I,O,es,Z9,hM,J,cx,cn,cr,ck,fun G co sl pl c=>?_};refine bL ?_;dsimp only;refine cb (dy ?_);refine{_,Z9,_,Z9,Ms,H,{[co,sl,pl],H},co,m,sl,pl,_,Y,Z9,hM,c,V,?_,fun U t i e R=>?_}
 ·show (oE (qm es) []).length<=1000000;rw[(gb _ _).length_eq,cB,lE];omega
 refine bL ?_;dsimp only;obtain⟨rl,en,rvs,h1,h2,_,h3,h4⟩:=R.rs;obtain⟨dx,rv,sv,h5,_⟩:=R.cc.hc;obtain⟨ss,h6,h7⟩:=R.cc.hs;have hl:aT (Hid {[co,sl,pl],H} U) U:=cG;have M:aT H U:=fun a o e=>(R.cc.sm a o e).2.2.2;have g:H sl=Z7:=by
  cases z:H sl with
  |none=>rfl
  |some o=>exact absurd rfl (R.cc.sm _ _ z).2.1
 refine fH (tM ?_);refine{_,Z9,t,_,_,_,Z9,Z9,SqT.of (hl _ _ h1),Z9,_,Z9,t,_,_,_,Z9,Z9,SqT.of (hl _ _ h1),Z9,_,Z9,co,CC,dx,_,_,Z9,h5,T.cl,T.nS,HD _ _ _ _ _,fun b dxb hb cp nb=>{b,dxb,_,_,_,Z9,ag,fun G' cs but=>{Z9,?_}}};have W:aT U G':=fun a o e=>but _ _ (aP (aP e (av e cp)) (av e hb)) (av e hb);have Z:aT (Hid {[co,sl,pl],H} U) (Hid {[],H} G'):=HJ W;exact k G' b i e (M.trans W) R.st {dxb,rl,sl,en,rvs,ss,by rw[cW (iT (none_of M hb))];exact cs,Z _ _ h2,Paired.mono (fun _ _ z=>z.same Z) h3,h4.same Z,by rw[cW (iT g)];exact W _ _ h6,Paired.mono (fun _ _ z=>iG.same' Z z) h7}
end
section
variable{P:aL}{w:bA}{K:af}{mg:Str->Option ae}{base:cu}{f fM fD:aa}{fd fdM fdD:bS}
def CQ:Sp:=fun vs H Q _=>∃c k:Int,vs=[.int c,.int k]/\eX c<=1048576/\∀r:Int,Q (.int r) H
theorem EC(x:Int):-(2^64)<x%2147483629/\x%2147483629<2^64:=by
 have h1:=lC x (show (2147483629:Int)≠0 by decide);have h2:=jz x (show (0:Int)<2147483629 by decide);omega
theorem scM:bK ["_law_cell","_law_k","_law_number"] ["_law_cell","_law_k"] (aN lV):={}
theorem HM(D:Df K mg "_law_mixed" lV ["_law_cell","_law_k"] f fd):bh P w K mg base CX0 1 f fd ["_law_cell","_law_k"] CQ:=by
 refine D.F.ok scM (fun vs H Q E h=>?_) (fun Z A outer s H vs Q E Y h=>?_)
 ·obtain⟨c,k,rfl,_⟩:=h;rfl
 obtain⟨c,k,rfl,hc,q⟩:=h;refine⟨_,ai (bM (i:=2) scM.nd rfl (Or.inl rfl) (cQ qU (cQ qT (cQ gQ (cQ gQ (cQ gQ (cQ Jk (pv 0) (pv 0)) (cQ qT aw (pv 0))) (cQ qT aw (pv 1))) aw) aw) aw))
  (aA (bJ (cQ qU (cQ gQ (cQ qT (pv 2) (pv 2)) aw) aw))),?_⟩
 refine{_,Z9,_,Z9,_,_,Z9,Z9,.of_bits hc hc,_,Z9,_,_,Z9,Z9,.inl {by decide,by decide},_,_,Z9,Z9,_,Z9,_,_,Z9,Z9,.inl {by decide,by decide},_,_,Z9,Z9,_,_,Z9,Z9,_,_,Z9,Z9,.inr {by decide,by decide},_,_,Z9,Z9,(by show (0:Int)<2147483629;decide),?_};refine{_,Z9,_,Z9,_,_,Z9,Z9,.inl (EC _),_,_,Z9,Z9,_,_,Z9,Z9,(by show (0:Int)<2147483587;decide),?_};exact q _
def dO(H:Hp)(p:aa):Prop:=∃x y:Int,H p=Z8 (.lst [.int x,.int y])
theorem dO.same{H H':Hp}{p:aa}(a:dO H p)(b:aT H H'):dO H' p:=by
 obtain⟨x,y,e⟩:=a;exact{x,y,b _ _ e}
inductive CT(vs:List V)(H:Hp)(Q:VK)(_e:XK):Prop where
 |mk(p:aa)(n:Int)(_:vs=[.ref p,.int n])(_:dO H p)(_:0<n)(_:n<2^64)(_:∀(r:Int) (H':Hp),0<=r->r<n->dO H' p->But p H H'->Q (.int r) H'):CT vs H Q _e
def jR:Sp:=fun vs H Q Z=>CT vs H Q Z
theorem scD:bK ["_law_purse_here","_law_out_of","_law_drawn"] ["_law_purse_here","_law_out_of"] (aN eE):={}
theorem jZ(D:Df K mg "_law_draw" eE ["_law_purse_here","_law_out_of"] f fd):bh P w K mg base CX0 1 f fd ["_law_purse_here","_law_out_of"] jR:=by
 refine D.F.ok scD (fun vs H Q E h=>?_) (fun V A outer s H vs Q E U h=>?_)
 ·obtain⟨p,n,rfl,_⟩:=h;rfl
 obtain⟨p,n,rfl,⟨x,y,hp⟩,Y,W,q⟩:=h;refine⟨_,ai (cN (bP eW (bX dQ (pv 0) aw (fun _ _=>rfl)) aw (bV _)) (aA (sN (bX dQ (pv 0) aw (fun _ _=>rfl)) (yf (pv 0) aw rG))) bZ)
  (ai (bM (i:=2) scD.nd rfl (Or.inl rfl) (cQ qU (bX dQ (pv 0) aw (fun _ _=>rfl)) (pv 1)))
  (ai (sN (cQ vK (bX dQ (pv 0) aw (fun _ _=>rfl)) (pv 1)) (yf (pv 0) aw rG))
  (aA (bJ (pv 2))))),?_⟩
 refine{_,Z9,p,_,_,_,Z9,Z9,SqL.of hp,Z9,Z9,_,Z9,?_};refine gp (fun c=>?_) (fun c=>?_)
 ·refine{_,Z9,p,_,_,_,Z9,Z9,SqL.of hp,Z9,_,Z9,p,_,_,_,Z9,Z9,hp,Z9,?_};have Z:upd H p (.lst [.int y,.int y]) p=Z8 (.lst [.int y,.int y]):=ag;refine{_,Z9,p,_,_,_,Z9,Z9,SqL.of Z,Z9,_,Z9,_,_,Z9,Z9,Y,?_};refine{_,Z9,p,_,_,_,Z9,Z9,SqL.of Z,Z9,_,Z9,_,_,Z9,Z9,⟨Y,W⟩,_,Z9,p,_,_,_,Z9,Z9,Z,Z9,?_};refine{_,Z9,?_};exact q _ _ (lC _ (by omega)) (jz _ Y) {_,_,ag} ((But.upd p H _).trans (But.upd p _ _))
 ·refine{_,Z9,p,_,_,_,Z9,Z9,SqL.of hp,Z9,_,Z9,_,_,Z9,Z9,Y,?_};refine{_,Z9,p,_,_,_,Z9,Z9,SqL.of hp,Z9,_,Z9,_,_,Z9,Z9,⟨Y,W⟩,_,Z9,p,_,_,_,Z9,Z9,hp,Z9,?_};refine{_,Z9,?_};exact q _ _ (lC _ (by omega)) (jz _ Y) {_,_,ag} (But.upd p H _)
inductive Ad(K:af)(vs:List V)(H:Hp)(Q:VK)(_e:XK):Prop where
 |mk(a:aa)(ns:List Int)(_:vs=[.ref a])(_:SqL K H a (ns.map V.int))(_:ns.length<=63)(_:(∀x∈ns,eX x<=1048576))(_:∀(p:aa) (H':Hp),H p=Z7->dO H' p->aT H H'->Q (.ref p) H'):Ad K vs H Q _e
def CV(K:af):Sp:=fun vs H Q Z=>Ad K vs H Q Z
theorem scP:bK ["_law_script","_law_cells","_law_number","_law_k"] ["_law_script"] (aN lW):={}
theorem J1{xs:List V}{lo hi:Option Int}{v:V}(h:v∈lI xs lo hi):v∈xs:=by
 unfold lI at h;exact CW (qP h)
theorem NK{xs:List V}(h:xs≠[])(z:Int):∃v,atI xs (z%(xs.length:Int))=Z8 v/\v∈xs:=by
 have W:0<xs.length:=ED.mpr h;have h0:=lC z (show (xs.length:Int)≠0 by omega);have h1:=jz z (show (0:Int)<(xs.length:Int) by omega);obtain⟨j,Y⟩:∃j:Nat,z%(xs.length:Int)=(j:Int):={(z%(xs.length:Int)).toNat,by omega};rw[Y]at h1 |-;have Z:j<xs.length:=by omega
 exact{xs[j],jU (aO Z),uZ Z}
theorem HN(D:Df K mg "_law_purse" lW ["_law_script"] f fd)(g:Df K mg "_law_mixed" lV ["_law_cell","_law_k"] fM fdM)(B:Bl mg):bh P w K mg base CX0 2 f fd ["_law_script"] (CV K):=by
 have GM:bh P w K mg base CX0 1 fM fdM ["_law_cell","_law_k"] CQ:=HM g;refine D.F.ok scP (fun vs H Q E h=>?_) (fun bv A outer s H vs Q E hr h=>?_)
 ·obtain⟨a,ns,rfl,_⟩:=h;rfl
 obtain⟨a,ns,rfl,hS,t,O,q⟩:=h;refine⟨_,ai (bM (i:=1) scP.nd rfl (Or.inl rfl) (cQ Mo (rE uK (pv 0) uI (uJ aw)) (eR (ak aw aj))))
  (ai (bM (i:=2) scP.nd rfl (Or.inl rfl) aw)
  (ai (iH cF rfl (ji rfl B.range (ak aw aj)) (df (i:=3) scP.nd rfl (Or.inl rfl))
   (aA (bM (i:=2) scP.nd rfl (Or.inl rfl) (cQ gQ (cQ qT (pv 2) aw) (aM GM hr rfl g.m g.F.kp g.b .nil aY (ak (bX dQ (pv 1) (cQ qU (pv 3) (cT ij (by rfl) B.len cy (ak (pv 1) aj))) (fun _ _=>rfl)) (ak (pv 3) aj)))))))
  (ai (cN (bP eW (cQ qU (bX dQ (pv 1) aw (fun _ _=>rfl)) aw) aw (bV _))
   (aA (bJ (eR (ak (cT (xk rfl) (by rfl) B.max boot_max (ak (cQ vK (bX dQ (pv 1) aw (fun _ _=>rfl)) aw) (ak (cQ jN (Ff AE aw) (cQ vK (bX dQ (pv 1) aw (fun _ _=>rfl)) aw)) aj))) (ak (pv 2) aj))))) bZ)
  (aA (bJ (eR (ak (pv 2) (ak (pv 2) aj)))))))),?_⟩
 -- Y = script[:63] + [0]
 refine{_,Z9,_,Z9,a,_,Z9,hS,fun l hl=>{(by show 1<=aC;decide),fun m hm=>?_}};have bz:l≠m:=av (ag:upd H l (.lst (lI (ns.map V.int) Z7 (Z8 63))) l=_) hm;have cl:(lI (ns.map V.int) Z7 (Z8 63)).length<=63:=cY (t7 _ _ _) (by rw[aq];exact t);have bw:(lI (ns.map V.int) Z7 (Z8 63)).length+[V.int 0].length<=aC:=by
  have z:64<=aC:=by decide
  rw[AW];omega
 refine{l,m,_,_,Z9,Z9,(by rw[aJ bz];exact ag),ag,bw,fun c hc=>?_};generalize hcs:lI (ns.map V.int) Z7 (Z8 63)++[V.int 0]=U at hc |-;have sc:aT H (upd (upd (upd H l (.lst (lI (ns.map V.int) Z7 (Z8 63)))) m (.lst [.int 0])) c (.lst U)):=(aD hl _).trans ((aD hm _).trans (aD hc _));generalize hH:upd (upd (upd H l (.lst (lI (ns.map V.int) Z7 (Z8 63)))) m (.lst [.int 0])) c (.lst U)=H1 at sc |-;have W:H1 c=Z8 (.lst U):=by rw[<- hH];exact ag
 have Z:U≠[]:=by rw[<- hcs];simp
 have Y:∀v∈U,∃z:Int,v=.int z/\eX z<=1048576:=fun v hv=>by
  rw[<- hcs]at hv
  rcases cv.mp hv with z|z
  ·obtain⟨n,hn,rfl⟩:=cq.mp (J1 z);exact{n,Z9,O n hn}
  ·rw[aE.mp z];exact{0,Z9,by decide}
 -- number = 1; for k in range(150)
 refine{150,Z9,by decide,by decide,qv (n:=150) (fun i σ H2=>∃(z:Int) (v:Option V),σ=[Z8 (.ref a),Z8 (.ref c),Z8 (.int z),v]/\H2=H1) {1,Z7,Z9,Z9} ?_ ?_}
 ·rintro i σ H2 hi ⟨z,v,rfl,rfl⟩;obtain⟨u,hu,bB⟩:=NK Z (0+(i:Int));obtain⟨y,rfl,hy⟩:=Y u bB;have M:(0:Int)<(U.length:Int):=by
   have:=ED.mpr Z;omega
  refine{_,Z9,_,_,Z9,Z9,.inr {by decide,by decide},_,Z9,_,Z9,_,Z9,c,_,Z9,.inl (SqL.of W),_,_,Z9,Z9,M,c,_,_,_,Z9,Z9,SqL.of W,hu,_,Z9,y,_,Z9,hy,fun r=>?_};exact{_,_,Z9,Z9,_,_,Z9,Z9}
 ·rintro σ H2 ⟨z,v,rfl,rfl⟩;obtain⟨I,J⟩:∃I,U[0]?=Z8 I:=by
   cases U with
   |nil=>exact absurd rfl Z
   |cons I r=>exact⟨I,Z9⟩
  obtain⟨y,rfl,hy⟩:=Y I (bD J);have a0:atI U 0=Z8 (.int y):=jU (j:=0) J;refine{_,Z9,c,_,_,_,Z9,Z9,SqL.of W,a0,_,_,Z9,Z9,(by show (0:Int)<2;decide),Z9,_,Z9,?_};have two:KM y 2:={by decide,by decide};refine gp (fun _=>?_) (fun _=>?_)
  ·refine{_,Z9,c,_,_,_,Z9,Z9,SqL.of W,a0,_,_,Z9,Z9,two,_,Z9,_,Z9,c,_,_,_,Z9,Z9,SqL.of W,a0,_,_,Z9,Z9,two,_,_,Z9,Z9,_,_,Z9,_,Z9,lt2,fun p hp=>?_};exact q p _ (sc.free hp) {_,_,ag} (sc.trans (aD hp _))
  ·refine{_,Z9,_,Z9,lt2,fun p hp=>?_};exact q p _ (sc.free hp) {_,_,ag} (sc.trans (aD hp _))
end
section
variable{X:Cx}{es:List cL}{te:TE}{t:TA}
theorem Ae{Z:List cL}{k:Nat}{p:Pos}{env:Env}:cw (.Tuple Z k p::es) env=(false,fy (.Tuple Z k p) env)::cw es env:=by rfl
theorem yT{Z:List cL}{k:Nat}{p:Pos}(ha:PE X (.Tuple Z k p) te)(Y:PA X es t):PA X (.Tuple Z k p::es) (oN te t):=ak ha Y (by rfl)
theorem NM{Z:List cL}{p:Pos}(ha:PE X (.List Z p) te)(Y:PA X es t):PA X (.List Z p::es) (oN te t):=ak ha Y (by rfl)
theorem dA{c:Const}{k:Nat}{p:Pos}(ha:PE X (.Constant c k p) te)(Z:PA X es t):PA X (.Constant c k p::es) (oN te t):=ak ha Z (by rfl)
theorem bN{x:Str}{p:Pos}(ha:PE X (.Name x p) te)(Z:PA X es t):PA X (.Name x p::es) (oN te t):=ak ha Z (by rfl)
theorem iY{g:cL}{Z:List cL}{ks:List Od}{p:Pos}(ha:PE X (.Call g Z ks p) te)(Y:PA X es t):PA X (.Call g Z ks p::es) (oN te t):=ak ha Y (by rfl)
theorem rW{a b:cL}{p:Pos}(ha:PE X (.Subscript a b p) te)(Z:PA X es t):PA X (.Subscript a b p::es) (oN te t):=ak ha Z (by rfl)
theorem qH{a b:cL}{o:IJ}{p:Pos}(ha:PE X (.BinOp a o b p) te)(Z:PA X es t):PA X (.BinOp a o b p::es) (oN te t):=ak ha Z (by rfl)
end
theorem iA{t:L2.TT}{a b:TS}{D:mJ}{σ:St}{H:Hp}(h:t σ H fun c H1=>if c=true then a D σ H1 else b D σ H1):tIfS t a b D σ H:=h
theorem eG.ref{bs qs:List Str}{H:Hp}{d:Dd}{v:V}(h:eG bs qs H d v):∃t,v=.ref t:=by
 cases d<;>simp only[eG]at h
 ·obtain⟨t,_,e,_⟩:=h;exact⟨t,e⟩
 ·obtain⟨t,_,e,_⟩:=h;exact⟨t,e⟩
 ·obtain⟨t,_,e,_⟩:=h;exact⟨t,e⟩
 ·obtain⟨t,_,e,_⟩:=h;exact⟨t,e⟩
 ·obtain⟨t,_,_,_,e,_⟩:=h;exact⟨t,e⟩
 ·obtain⟨t,_,_,_,e,_⟩:=h;exact⟨t,e⟩
 ·obtain⟨t,e,_⟩:=h;exact⟨t,e⟩
theorem Tree.scal{H:Hp}{v:V}(h:Be v):∀n,Tree H n v
 |0=>h
 |_+1=>.inl h
theorem Tree.atup{H:Hp}{a:aa}{xs:List V}{n:Nat}(h:H a=Z8 (.tup xs))(l:xs.length<1000)(k:∀x∈xs,Tree H n x):Tree H (n+1) (.ref a):=.inr {a,xs,Z9,.inr h,l,k}
theorem Tree.alst{H:Hp}{a:aa}{xs:List V}{n:Nat}(h:H a=Z8 (.lst xs))(l:xs.length<1000)(k:∀x∈xs,Tree H n x):Tree H (n+1) (.ref a):=.inr {a,xs,Z9,.inl h,l,k}
theorem jo.tree{bs qs:List Str}{H:Hp}{v:V}{f:Fm}(h:jo bs qs H v f):∀n,f.depth<=n->Tree H n v:=by
 induction h with
 |num h1 _=>exact fun n Z=>match n,Z with
  |n+1,_=>Tree.atup h1 (by show 2<1000;decide) fun x hx=>by
   simp only[ar,aI,or_false]at hx
   rcases hx with rfl|rfl<;>exact Tree.scal (by exact trivial) _
  |0,Z=>absurd Z (by unfold Fm.depth;decide)
 |box h1 _=>exact fun n Z=>match n,Z with
  |n+1,_=>Tree.atup h1 (by show 2<1000;decide) fun x hx=>by
   simp only[ar,aI,or_false]at hx
   rcases hx with rfl|rfl<;>exact Tree.scal (by exact trivial) _
  |0,Z=>absurd Z (by unfold Fm.depth;decide)
 |long h1 _=>exact fun n Z=>match n,Z with
  |n+1,_=>Tree.atup h1 (by show 2<1000;decide) fun x hx=>by
   simp only[ar,aI,or_false]at hx
   rcases hx with rfl|rfl<;>exact Tree.scal (by exact trivial) _
  |0,Z=>absurd Z (by unfold Fm.depth;decide)
 |got h1=>exact fun n Z=>match n,Z with
  |n+1,_=>Tree.atup h1 (by show 2<1000;decide) fun x hx=>by
   simp only[ar,aI,or_false]at hx
   rcases hx with rfl|rfl<;>exact Tree.scal (by exact trivial) _
  |0,Z=>absurd Z (by unfold Fm.depth;decide)
 |now h1=>exact fun n Z=>match n,Z with
  |n+1,_=>Tree.atup h1 (by show 1<1000;decide) fun x hx=>by
   simp only[ar,aI,or_false]at hx
   rcases hx with rfl
   exact Tree.scal (by exact trivial) _
  |0,Z=>absurd Z (by unfold Fm.depth;decide)
 |two h1 _ _ _ Y W=>exact fun n Z=>match n,Z with
  |n+1,Z=>Tree.atup h1 (by show 3<1000;decide) fun x hx=>by
   unfold Fm.depth at Z;simp only[ar,aI,or_false]at hx
   rcases hx with rfl|rfl|rfl
   ·exact Tree.scal (by exact trivial) _
   ·exact Y n (by omega)
   ·exact W n (by omega)
  |0,Z=>absurd Z (by unfold Fm.depth;omega)
mutual
theorem eG.tree{bs qs:List Str}{H:Hp}:∀(d:Dd) (v:V) (n:Nat),eG bs qs H d v->2*d.deep+16<=n->Tree H n v
 |_,_,0,_,Y=>absurd Y (by omega)
 |.put x f,v,n+1,h,Y=>by
  obtain⟨t,u,rfl,h1,h2,Z⟩:=(by simpa only[eG] using h);refine Tree.atup h1 (by show 3<1000;decide) fun y hy=>?_;simp only[ar,aI,or_false]at hy
  rcases hy with rfl|rfl|rfl
  ·exact Tree.scal (by exact trivial) _
  ·exact Tree.scal (by exact trivial) _
  ·exact Z.1.tree n (by have:=Z.2;omega)
 |.push q f,v,n+1,h,Y=>by
  obtain⟨t,u,rfl,h1,h2,Z⟩:=(by simpa only[eG] using h);refine Tree.atup h1 (by show 3<1000;decide) fun y hy=>?_;simp only[ar,aI,or_false]at hy
  rcases hy with rfl|rfl|rfl
  ·exact Tree.scal (by exact trivial) _
  ·exact Tree.scal (by exact trivial) _
  ·exact Z.1.tree n (by have:=Z.2;omega)
 |.pull q x o,v,n+1,h,Y=>by
  obtain⟨t,u,rfl,h1,h2,Z,l,vs,rfl,W,I,D⟩:=(by simpa only[eG] using h);unfold Dd.deep at Y;refine Tree.atup h1 (by show 4<1000;decide) fun y hy=>?_;simp only[ar,aI,or_false]at hy
  rcases hy with rfl|rfl|rfl|rfl
  ·exact Tree.scal (by exact trivial) _
  ·exact Tree.scal (by exact trivial) _
  ·exact Tree.scal (by exact trivial) _
  ·obtain⟨m,rfl⟩:∃m,n=m+1:={n-1,by omega};exact Tree.alst W I (fc.tree o vs m D (by omega))
 |.draw x f,v,n+1,h,Y=>by
  obtain⟨t,u,rfl,h1,h2,Z⟩:=(by simpa only[eG] using h);refine Tree.atup h1 (by show 3<1000;decide) fun y hy=>?_;simp only[ar,aI,or_false]at hy
  rcases hy with rfl|rfl|rfl
  ·exact Tree.scal (by exact trivial) _
  ·exact Tree.scal (by exact trivial) _
  ·exact Z.1.tree n (by have:=Z.2;omega)
 |.send to sg sp rk a b,v,n+1,h,Y=>by
  obtain⟨t,u,u1,u2,rfl,h1,h2,Z,W⟩:=(by simpa only[eG] using h);refine Tree.atup h1 (by show 7<1000;decide) fun y hy=>?_;simp only[ar,aI,or_false]at hy
  rcases hy with rfl|rfl|rfl|rfl|rfl|rfl|rfl
  ·exact Tree.scal (by exact trivial) _
  ·exact Tree.scal (by exact trivial) _
  ·exact Tree.scal (by exact trivial) _
  ·exact h2.1.tree n (by have:=h2.2;omega)
  ·exact Tree.scal (by exact trivial) _
  ·exact Z.1.tree n (by have:=Z.2;omega)
  ·exact W.1.tree n (by have:=W.2;omega)
 |.ife f x y,v,n+1,h,Y=>by
  obtain⟨t,u,u1,u2,rfl,h1,h2,⟨l,vs,rfl,M,g,J⟩,l',U,rfl,k1,k2,k3⟩:=(by simpa only[eG] using h);unfold Dd.deep at Y;refine Tree.atup h1 (by show 4<1000;decide) fun z O=>?_;simp only[ar,aI,or_false]at O;obtain⟨m,rfl⟩:∃m,n=m+1:={n-1,by omega}
  rcases O with rfl|rfl|rfl|rfl
  ·exact Tree.scal (by exact trivial) _
  ·exact h2.1.tree _ (by have:=h2.2;omega)
  ·exact Tree.alst M g (fc.tree x vs m J (by omega))
  ·exact Tree.alst k1 k2 (fc.tree y U m k3 (by omega))
 |.fin,v,n+1,h,Y=>by
  obtain⟨t,rfl,h1⟩:=(by simpa only[eG] using h);refine Tree.atup h1 (by show 1<1000;decide) fun y hy=>?_;simp only[ar,aI,or_false]at hy;rw[hy];exact Tree.scal (by exact trivial) _
theorem fc.tree{bs qs:List Str}{H:Hp}:∀(d:Ds) (vs:List V) (n:Nat),fc bs qs H d vs->2*d.deep+16<=n->∀x∈vs,Tree H n x
 |.nil,vs,n,h,Z=>by
  have e:vs=[]:=by simpa only[fc] using h
  subst e;intro x hx
  cases hx
 |.cons d r,vs,n,h,Z=>by
  obtain⟨v,Y,rfl,h1,h2⟩:=(by simpa only[fc] using h);unfold Ds.deep at Z;intro x hx
  rcases ar.mp hx with rfl|hx
  ·exact eG.tree d _ n h1 (by omega)
  ·exact fc.tree r Y n h2 (by omega) x hx
end
def Af(o:HO):Prop:=(∃xs,o=.tup xs)\/∃xs,o=.lst xs/\∀(i:Int) (r:List V),xs≠.int i::r
def dX(H H':Hp):Prop:=∀a o,H a=Z8 o->Af o->H' a=Z8 o
theorem dX.same{H H':Hp}(s:aT H H'):dX H H':=fun a o e _=>s _ _ e
theorem dX.trans{H H1 H2:Hp}(a:dX H H1)(b:dX H1 H2):dX H H2:=fun c o e n=>b _ _ (a _ _ e n) n
def Kp(own:List aa)(H G:Hp):Prop:=∀b o,H b=Z8 o->b∉own->G b=Z8 o
theorem Kp.refl(own:List aa)(H:Hp):Kp own H H:=fun _ _ e _=>e
theorem Kp.trans{own:List aa}{H G G':Hp}(a:Kp own H G)(b:Kp own G G'):Kp own H G':=fun c o e n=>b c o (a c o e n) n
theorem Kp.same{own:List aa}{H G:Hp}(s:aT H G):Kp own H G:=fun c o e _=>s _ _ e
theorem Kp.but{own:List aa}{H G:Hp}{p:aa}(s:But p H G)(m:p∈own):Kp own H G:=fun c o e n=>s _ _ e fun z=>n (by rw[z];exact m)
theorem Kp.upd{own:List aa}{H:Hp}{a:aa}{o:HO}(m:a∈own):Kp own H (upd H a o):=fun c u e n=>by
 rw[aJ fun z=>n (by rw[z];exact m)];exact e
theorem Kp.keepI{own:List aa}{H G:Hp}(k:Kp own H G)(h:∀a∈own,∃(i:Int) (r:List V),H a=Z8 (.lst (.int i::r))):dX H G:=fun a o e n=>k a o e fun m=>by
 obtain⟨i,r,q⟩:=h a m;rw[q]at e
 cases e
 rcases n with⟨xs,n⟩|⟨xs,n,y⟩
 ·cases n
 ·cases n;exact y i r rfl
theorem dX.but{H H':Hp}{p:aa}(Z:dO H p)(b:But p H H'):dX H H':=Kp.keepI (own:=[p]) (Kp.but b ax) fun a m=>by
 obtain⟨x,y,h⟩:=Z;rw[aE.mp m];exact{x,_,h}
theorem oF(xs:List V):Af (.tup xs):=.inl ⟨xs,Z9⟩
theorem CZ(ss:List Str):Af (.lst (ss.map V.str)):=.inr ⟨_,Z9,fun i r z=>by
 cases ss with
 |nil=>cases z
 |cons x xs=>cases z⟩
theorem FmI.keepI{bs qs:List Str}{H H':Hp}(k:dX H H'){v:V}{f:Fm}(h:FmI bs qs H v f):FmI bs qs H' v f:={h.1.mono fun t xs e=>k _ _ e (oF xs),h.2}
theorem fc.ni{bs qs:List Str}{H:Hp}{d:Ds}{vs:List V}(h:fc bs qs H d vs):Af (.lst vs):=.inr ⟨vs,Z9,fun i r z=>by
 subst z
 cases d with
 |nil=>
  simp only[fc]at h
  cases h
 |cons d r=>
  obtain⟨v,Z,e,h1,_⟩:=(by simpa only[fc] using h)
  cases e;obtain⟨t,e⟩:=h1.ref
  cases e⟩
def Tk(H H':Hp):Prop:=∀(t:aa) (xs:List V),H t=Z8 (.tup xs)->H' t=Z8 (.tup xs)
def Nk(H H' H2:Hp):Prop:=∀(l:aa) (xs:List V),H l=Z7->Af (.lst xs)->H' l=Z8 (.lst xs)->H2 l=Z8 (.lst xs)
def OwD(bs qs:List Str)(H H':Hp)(d:Dd)(v:V):Prop:=∀H2,Tk H' H2->Nk H H' H2->eG bs qs H2 d v
def OwS(bs qs:List Str)(H H':Hp)(d:Ds)(vs:List V):Prop:=∀H2,Tk H' H2->Nk H H' H2->fc bs qs H2 d vs
theorem Tk.refl(H:Hp):Tk H H:=fun _ _ e=>e
theorem Nk.refl(H H':Hp):Nk H H' H':=fun _ _ _ _ e=>e
theorem OwS.now{bs qs:List Str}{H H':Hp}{d:Ds}{v:List V}(h:OwS bs qs H H' d v):fc bs qs H' d v:=h H' (Tk.refl _) (Nk.refl _ _)
theorem dX.tk{H H':Hp}(k:dX H H'):Tk H H':=fun t xs e=>k _ _ e (oF xs)
theorem dX.nk{H H1 H' H2:Hp}(k:dX H' H1)(n:Nk H H1 H2):Nk H H' H2:=fun l xs h i e=>n l xs h i (k _ _ e i)
theorem OwS.keepI{bs qs:List Str}{H H' H1:Hp}{d:Ds}{v:List V}(h:OwS bs qs H H' d v)(k:dX H' H1):OwS bs qs H H1 d v:=fun H2 t n=>h H2 (fun a xs e=>t a xs (k.tk a xs e)) (k.nk n)
def Dm(H G:Hp):Prop:=∀a,G a=Z7->H a=Z7
theorem Dm.same{H G:Hp}(s:aT H G):Dm H G:=fun a n=>none_of s n
theorem Dm.trans{H G G':Hp}(a:Dm H G)(b:Dm G G'):Dm H G':=fun x n=>a x (b x n)
theorem OwD.base{bs qs:List Str}{H H0 H':Hp}{d:Dd}{v:V}(h:OwD bs qs H H' d v)(s:Dm H0 H):OwD bs qs H0 H' d v:=fun H2 t n=>h H2 t fun l xs Z i e=>n l xs (s l Z) i e
theorem OwS.base{bs qs:List Str}{H H0 H':Hp}{d:Ds}{v:List V}(h:OwS bs qs H H' d v)(s:Dm H0 H):OwS bs qs H0 H' d v:=fun H2 t n=>h H2 t fun l xs Z i e=>n l xs (s l Z) i e
theorem OwD.old{bs qs:List Str}{H H':Hp}{d:Dd}{v:V}{a:aa}{o:HO}(h:OwD bs qs H H' d v)(Y:H a≠Z7)(W:∀xs,H' a≠Z8 (.tup xs)):OwD bs qs H (upd H' a o) d v:=fun H2 t n=>h H2 (fun b xs e=>t b xs (by rw[aJ (fun z=>W xs (by rw[<- z];exact e))];exact e)) fun l xs Z i e=>n l xs Z i (by rw[aJ (fun z=>Y (by rw[<- z];exact Z))];exact e)
theorem OwS.old{bs qs:List Str}{H H':Hp}{d:Ds}{v:List V}{a:aa}{o:HO}(h:OwS bs qs H H' d v)(Y:H a≠Z7)(W:∀xs,H' a≠Z8 (.tup xs)):OwS bs qs H (upd H' a o) d v:=fun H2 t n=>h H2 (fun b xs e=>t b xs (by rw[aJ (fun z=>W xs (by rw[<- z];exact e))];exact e)) fun l xs Z i e=>n l xs Z i (by rw[aJ (fun z=>Y (by rw[<- z];exact Z))];exact e)
theorem FmI.tk{bs qs:List Str}{H H2:Hp}{v:V}{F:Fm}(h:FmI bs qs H v F)(t:Tk H H2):FmI bs qs H2 v F:={h.1.mono t,h.2}
section
variable{bs qs:List Str}{H H':Hp}{t:aa}{u u1 u2:V}{F F1 F2:Fm}{x q:Str}
theorem NO(h:H' t=Z8 (.tup [.str "put",.str x,u]))(m:x∈bs)(f:FmI bs qs H' u F):OwD bs qs H H' (.put x F) (.ref t):=fun H2 k _=>by simp only[eG];exact{t,u,Z9,k _ _ h,m,f.tk k}
theorem J2(h:H' t=Z8 (.tup [.str "push",.str q,u]))(m:q∈qs)(f:FmI bs qs H' u F):OwD bs qs H H' (.push q F) (.ref t):=fun H2 k _=>by simp only[eG];exact{t,u,Z9,k _ _ h,m,f.tk k}
theorem J3(h:H' t=Z8 (.tup [.str "draw",.str x,u]))(m:x∈bs)(f:FmI bs qs H' u F):OwD bs qs H H' (.draw x F) (.ref t):=fun H2 k _=>by simp only[eG];exact{t,u,Z9,k _ _ h,m,f.tk k}
theorem NP(h:H' t=Z8 (.tup [.str "end"])):OwD bs qs H H' .fin (.ref t):=fun H2 k _=>by simp only[eG];exact{t,Z9,k _ _ h}
theorem J4{to rk:Int}{Z:Str}(h:H' t=Z8 (.tup [.str "send",.int to,.str Z,u,.int rk,u1,u2]))(f:FmI bs qs H' u F)(f1:FmI bs qs H' u1 F1)(Y:FmI bs qs H' u2 F2):OwD bs qs H H' (.send to Z F rk F1 F2) (.ref t):=fun H2 k _=>by simp only[eG];exact{t,u,u1,u2,Z9,k _ _ h,f.tk k,f1.tk k,Y.tk k}
theorem J6{l:aa}{xs:List V}{d:Ds}(h:H' t=Z8 (.tup [.str "pull",.str q,.str x,.ref l]))(Z:q∈qs)(W:x∈bs)(Y:H l=Z7)(e:H' l=Z8 (.lst xs))(z:xs.length<1000)(D:OwS bs qs H H' d xs):OwD bs qs H H' (.pull q x d) (.ref t):=fun H2 k n=>by
 simp only[eG];exact{t,.ref l,Z9,k _ _ h,Z,W,l,xs,Z9,n l xs Y D.now.ni e,z,D H2 k n}
theorem NQ{l Z:aa}{xs ys:List V}{d d':Ds}(h:H' t=Z8 (.tup [.str "if",u,.ref l,.ref Z]))(f:FmI bs qs H' u F)(U:H l=Z7)(e:H' l=Z8 (.lst xs))(z:xs.length<1000)(D:OwS bs qs H H' d xs)(Y:H Z=Z7)(O:H' Z=Z8 (.lst ys))(M:ys.length<1000)(W:OwS bs qs H H' d' ys):OwD bs qs H H' (.ife F d d') (.ref t):=fun H2 k n=>by
 simp only[eG];exact{t,u,.ref l,.ref Z,Z9,k _ _ h,f.tk k,{l,xs,Z9,n l xs U D.now.ni e,z,D H2 k n},Z,ys,Z9,n Z ys Y W.now.ni O,M,W H2 k n}
theorem Ka:OwS bs qs H H' .nil []:=fun _ _ _=>by simp only[fc]
end
def abc:Str:="abcdefghijklmnopqrstuvwxyz"
theorem C0:abc.cps.toList.length=26:=by decide +kernel
theorem xY:abc.length<=aC:=by decide +kernel
theorem NR{z:Int}(h0:0<=z)(h1:z<26):∃c,atI abc.cps.toList z=Z8 c:=by
 obtain⟨j,rfl⟩:∃j:Nat,z=(j:Int):={z.toNat,by omega};have l:j<abc.cps.toList.length:=by rw[C0];omega
 exact{abc.cps.toList[j],jU (aO l)}
theorem Ag(x y:Str):(x++y).length=x.length+y.length:=by
 show (x++y).cps.size=x.cps.size+y.cps.size;show (x.cps++y.cps).size=_;rw[Array.size_append]
theorem tQ{n:Nat}{U:TE}{g:TG}{tc:L2.TT}{te:TE}{σ:St}{H:Hp}{Q:VK}(P:Nat->Hp->Prop)(hi:∀R:VK,(∀(m:Nat) (H1:Hp),P m H1->R (.int m) H1)->U σ H R)(hb:∀m H1,P m H1->m<1000)(Z:Nat->Hp->Nat->List V->Hp->Prop)(h0:∀m H1,P m H1->Z m H1 0 [] H1)(M:∀m H1,P m H1->∀i ys H,i<=m->Z m H1 i ys H->ys.length<aC)
  (hs:∀m H1,P m H1->∀i ys H,i<m->Z m H1 i ys H->g (.int (0+i)) (cz n Z7++σ) H fun Y H2=>Y.drop n=σ/\tc Y H2 fun b W=>if b=true then te Y W fun y J=>Z m H1 (i+1) (ys++[y]) J else Z m H1 (i+1) ys W)
  (O:∀m H1,P m H1->∀ys H,Z m H1 m ys H->∀p,H p=Z7->Q (.ref p) (upd H p (.lst ys))):t9 n (Fe (oN U AL)) g tc te σ H Q:=
 hi _ fun m H1 p=>⟨(m:Int),Z9,by have:=hb m H1 p;omega,by have:=hb m H1 p;omega,by
  rw[uv];exact Gh (Z m H1) (h0 m H1 p) (M m H1 p) (hs m H1 p) (O m H1 p)⟩
theorem rg{p:aa}{G:Hp}{a:aa}(h:dO G p)(n:G a=Z7):a≠p:=by
 obtain⟨x,y,e⟩:=h;exact (av e n).symm
theorem tR{p:aa}{G:Hp}(h:dO G p){a:aa}{o:HO}(n:a≠p):dO (upd G a o) p:=by
 obtain⟨x,y,e⟩:=h;exact{x,y,by rw[aJ n.symm];exact e}
theorem wF{K:af}{n:Nat}{U:TE}{g:TG}{tc:L2.TT}{te:TE}{σ:St}{H:Hp}{Q:VK}{a:aa}{xs:List V}(hi:∀R:VK,R (.ref a) H->U σ H R)(hx:SqL K H a xs)(Z:Nat->List V->Hp->Prop)(h0:Z 0 [] H)(M:∀i ys H,i<=xs.length->Z i ys H->SqL K H a xs/\ys.length<aC)
  (hs:∀i x ys H,xs[i]?=Z8 x->Z i ys H->g x (cz n Z7++σ) H fun Y H2=>Y.drop n=σ/\tc Y H2 fun b W=>if b=true then te Y W fun y J=>Z (i+1) (ys++[y]) J else Z (i+1) ys W)
  (O:∀ys H,Z xs.length ys H->∀p,H p=Z7->Q (.ref p) (upd H p (.lst ys))):t9 n (Fc K U) g tc te σ H Q:=
 hi _ {a,Z9,⟨xs,hx⟩,tj Z h0 M hs O}
section
variable{P:aL}{w:bA}{K:af}{mg:Str->Option ae}{base:cu}{f fD:aa}{fd fdD:bS}
seal PS PSs PE PA PT PW PI PG PGs PC
abbrev pD:List Str:=["_law_purse_here","_law_out_of"]
abbrev nW:List Str:=["_law_purse_here"]
abbrev pW:List Str:=["_law_purse_here"]
theorem scW:bK nW pW (aN fK):={}
def vh:Sp:=fun vs H Q _=>∃p:aa,vs=[.ref p]/\dO H p/\∀(r:Int) (H':Hp),-(10^15)<=r->r<=10^15->dO H' p->But p H H'->Q (.int r) H'
theorem wG(D:Df K mg "_law_worth" fK pW f fd)(Z:Df K mg "_law_draw" eE pD fD fdD)(B:Bl mg):bh P w K mg base CX0 2 f fd pW vh:=by
 have J:bh P w K mg base CX0 1 fD fdD pD jR:=jZ Z;refine D.F.ok scW (fun vs H Q E h=>?_) (fun t A outer s H vs Q E hr h=>?_)
 ·obtain⟨p,rfl,_⟩:=h;rfl
 obtain⟨p,rfl,pu,q⟩:=h;have O:cZ 1 _:=hr;refine⟨_,ai (cN (bP eW (aM J O (by rfl) Z.m Z.F.kp Z.b .nil aY (bN (pv 0) (dA aw aj))) aw (bV _)) (aA (bJ (cQ jN (aM J O (by rfl) Z.m Z.F.kp Z.b .nil aY (bN (pv 0) (qH (cQ gQ (cQ qT aw (cQ sQ aw aw)) aw) aj))) (cQ sQ aw aw)))) bZ)
  (aA (bJ (cQ jN (aM J O (by rfl) Z.m Z.F.kp Z.b .nil aY (bN (pv 0) (dA aw aj))) aw))),?_⟩
 have U:Dz 10 15:={by decide,by decide,by decide};have Y:(10:Int)^(15:Int).toNat=1000000000000000:=by decide
 have I:(10:Int)^15=1000000000000000:=by decide
 refine cb (iA {_,Z9,p,6,Z9,pu,by decide,by decide,fun r G r0 r6 V z=>?_});refine{Z9,_,Z9,gp (fun _=>?_) (fun _=>?_)}
 ·refine fH {_,Z9,_,_,Z9,Z9,U,_,_,Z9,Z9,.inl {by decide,by decide},_,_,Z9,Z9,p,_,Z9,V,by decide,by decide,fun x G2 g x1 W M=>{_,_,Z9,Z9,U,_,_,Z9,Z9,q _ _ ?_ ?_ W (z.trans M)}}
  ·rw[Y];omega
  ·have x1:x<2*(10:Int)^(15:Int).toNat+1:=x1;rw[Y]at x1;rw[Y];omega
 ·dsimp only[lP];refine fH {_,Z9,p,13,Z9,V,by decide,by decide,fun x G2 g x1 W M=>{_,_,Z9,Z9,q _ _ (by omega) (by omega) W (z.trans M)}}
end
structure Lf(H:Hp)(p lf:aa):Prop where
 pu:dO H p
 hl:∃k:Int,H lf=Z8 (.lst [.int k])
theorem Lf.int{H:Hp}{p Z:aa}(h:Lf H p Z):∀a∈[p,Z],∃(i:Int) (r:List V),H a=Z8 (.lst (.int i::r)):=fun a m=>by
 obtain⟨x,y,e⟩:=h.pu;obtain⟨z,Y⟩:=h.hl
 rcases ar.mp m with rfl|m
 ·exact{x,_,e}
 ·rw[aE.mp m];exact{z,_,Y}
theorem Lf.ne{H:Hp}{p Z:aa}(h:Lf H p Z):Z≠p:=by
 obtain⟨x,y,e⟩:=h.pu;obtain⟨z,Y⟩:=h.hl;exact oK Y e (by intro q;cases q)
theorem Lf.but{H H':Hp}{p Z:aa}(h:Lf H p Z)(b:But p H H')(W:dO H' p):Lf H' p Z:=by
 obtain⟨z,Y⟩:=h.hl;exact{W,z,b _ _ Y h.ne}
theorem Lf.same{H H':Hp}{p Z:aa}(h:Lf H p Z)(s:aT H H'):Lf H' p Z:=by
 obtain⟨z,Y⟩:=h.hl;exact{h.pu.same s,z,s _ _ Y}
def qp:Ds->Dd->Ds
 |.nil,d=>.cons d .nil
 |.cons a r,d=>.cons a (qp r d)
theorem C5{bs qs:List Str}{H:Hp}{d:Dd}{v:V}(Z:eG bs qs H d v):∀(ds:Ds) (xs:List V),fc bs qs H ds xs->fc bs qs H (qp ds d) (xs++[v])
 |.nil,xs,h=>by
  have e:xs=[]:=by simpa only[fc] using h
  subst e;unfold qp;simp only[fc];exact{v,[],Z9,Z,Z9}
 |.cons a r,xs,h=>by
  obtain⟨u,Y,rfl,h1,h2⟩:=(by simpa only[fc] using h);unfold qp;simp only[fc];exact{u,Y++[v],Z9,h1,C5 Z r Y h2}
theorem C6{m:Int}{d:Dd}(Z:d.toOk m):∀ds:Ds,ds.toOk m->(qp ds d).toOk m
 |.nil,_=>⟨Z,trivial⟩
 |.cons a r,h=>{h.1,C6 Z r h.2}
theorem xZ(d:Dd):∀ds:Ds,(qp ds d).deep=max ds.deep d.deep
 |.nil=>by
  show max d.deep 0=max 0 d.deep;exact Nat.max_comm _ _
 |.cons a r=>by
  show max a.deep (qp r d).deep=max (max a.deep r.deep) d.deep;rw[xZ d r];exact (Nat.max_assoc _ _ _).symm
theorem x6(d:Dd):∀ds:Ds,(qp ds d).size=ds.size+d.size
 |.nil=>by
  show d.size+0=0+d.size;omega
 |.cons a r=>by
  show a.size+(qp r d).size=a.size+r.size+d.size;rw[x6 d r];omega
theorem HP{bs qs:List Str}{H H':Hp}{ds:Ds}{xs:List V}{d:Dd}{v:V}(a:OwS bs qs H H' ds xs)(b:OwD bs qs H H' d v):OwS bs qs H H' (qp ds d) (xs++[v]):=fun H2 k n=>C5 (b H2 k n) ds xs (a H2 k n)
theorem Kb:∀n,1<=ddz n
 |0=>aB _
 |n+1=>by
  show 1<=1+6*ddz n;omega
theorem Kp.dm{own:List aa}{H G:Hp}(k:Kp own H G)(h:∀a∈own,∃o,G a=Z8 o):Dm H G:=fun a n=>by
 cases e:H a with
 |none=>rfl
 |some o=>
  by_cases m:a∈own
  ·obtain⟨u,q⟩:=h a m;rw[q]at n
   cases n
  ·rw[k a o e m]at n
   cases n
theorem Lf.there{H:Hp}{p Z:aa}(h:Lf H p Z):∀a∈[p,Z],∃o,H a=Z8 o:=fun a m=>by
 obtain⟨i,r,e⟩:=h.int a m;exact{_,e}
def HsO(bs qs:List Str)(H H':Hp)(v:V)(q:Str×Ds):Prop:=∃t l xs,v=.ref t/\H' t=Z8 (.tup [.str q.1,.ref l])/\H l=Z7/\H' l=Z8 (.lst xs)/\xs.length<1000/\OwS bs qs H H' q.2 xs
theorem HsO.keepI{bs qs:List Str}{H H' H1:Hp}{v:V}{q:Str×Ds}(k:dX H' H1)(h:HsO bs qs H H' v q):HsO bs qs H H1 v q:=by
 obtain⟨t,l,xs,e,h1,h2,Y,W,Z⟩:=h;exact{t,l,xs,e,k _ _ h1 (oF _),h2,k _ _ Y Z.now.ni,W,Z.keepI k}
theorem HsO.old{bs qs:List Str}{H H':Hp}{v:V}{q:Str×Ds}{a:aa}{o:HO}(h:HsO bs qs H H' v q)(Y:H a≠Z7)(Z:∀xs,H' a≠Z8 (.tup xs)):HsO bs qs H (upd H' a o) v q:=by
 obtain⟨t,l,xs,e,h1,h2,W,O,U⟩:=h;exact{t,l,xs,e,aP h1 (fun z=>Z _ (by rw[<- z];exact h1)),h2,aP W (fun z=>Y (by rw[<- z];exact h2)),O,U.old Y Z}
theorem HsO.base{bs qs:List Str}{H H0 H':Hp}{v:V}{q:Str×Ds}(h:HsO bs qs H H' v q)(s:Dm H0 H):HsO bs qs H0 H' v q:=by
 obtain⟨t,l,xs,e,h1,h2,Z,Y,W⟩:=h;exact{t,l,xs,e,h1,s l h2,Z,Y,W.base s}
structure Mch(m:Int)(H H':Hp)(t:aa)(nm:Str)(bs qs:List Str)(ds:List Int)(hs:List (Str×Ds))(ps:List (Str×Int)):Prop where
 ex:∃(bl ql dl hl:aa) (vb hv:List V),H' t=Z8 (.tup [.str nm,.ref bl,.ref ql,.ref dl,.ref hl])/\H' bl=Z8 (.lst vb)/\gO H' ps vb/\H' ql=Z8 (.lst (qs.map V.str))/\H' dl=Z8 (.lst (ds.map V.int))/\H' hl=Z8 (.lst hv)/\aH (HsO bs qs H H') hv hs/\H bl=Z7/\H ql=Z7/\H dl=Z7/\H hl=Z7
 kb:ps.map (·.1)=bs
 nb:bs.Nodup
 nq:qs.Nodup
 lb:bs.length<=9
 lq:qs.length<=9
 ld:ds.length<=100
 lh:hs.length<=9
 wb:∀q∈ps,Wo q.2
 hk:∀q∈hs,q.2.toOk m/\q.2.deep<=4/\q.2.size<=3*ddz 4
def MIn(m:Int)(H H':Hp)(v:V)(M:MD):Prop:=∃t,v=.ref t/\Mch m H H' t M.nm M.bs M.qs M.ds M.hs M.ps
theorem Mch.but{m:Int}{H H' H1:Hp}{t p:aa}{nm:Str}{bs qs:List Str}{ds:List Int}{hs:List (Str×Ds)}{ps:List (Str×Int)}(Z:dO H p)(pu:dO H' p)(b:But p H' H1)(h:Mch m H H' t nm bs qs ds hs ps):Mch m H H1 t nm bs qs ds hs ps:=by
 have k:=dX.but pu b;have np:∀{a:aa},H a=Z7->a≠p:=fun {a} e z=>by
  obtain⟨x,y,q⟩:=Z;rw[z,q]at e
  cases e
 obtain⟨⟨bl,I,dl,D,vb,hv,h1,h2,U,h4,h5,h6,h7,f1,V,Y,W⟩,kb,M,O,g,lq,J,lh,wb,hk⟩:=h;exact{{bl,I,dl,D,vb,hv,k _ _ h1 (oF _),b _ _ h2 (np f1),gO.tups (fun a xs e=>k _ _ e (oF xs)) U,b _ _ h4 (np V),b _ _ h5 (np Y),b _ _ h6 (np W),Paired.mono (fun v q z=>HsO.keepI k z) h7,f1,V,Y,W},kb,M,O,g,lq,J,lh,wb,hk}
theorem Mch.same{m:Int}{H H' H1:Hp}{t:aa}{nm:Str}{bs qs:List Str}{ds:List Int}{hs:List (Str×Ds)}{ps:List (Str×Int)}(b:aT H' H1)(h:Mch m H H' t nm bs qs ds hs ps):Mch m H H1 t nm bs qs ds hs ps:=by
 obtain⟨⟨bl,U,dl,O,vb,hv,h1,h2,Z,h4,h5,g,D,f1,f2,J,f4⟩,kb,W,Y,M,lq,V,I,wb,hk⟩:=h;exact{{bl,U,dl,O,vb,hv,b _ _ h1,b _ _ h2,gO.same b Z,b _ _ h4,b _ _ h5,b _ _ g,Paired.mono (fun v q z=>HsO.keepI (dX.same b) z) D,f1,f2,J,f4},kb,W,Y,M,lq,V,I,wb,hk}
theorem Mch.base{m:Int}{H0 H H':Hp}{t:aa}{nm:Str}{bs qs:List Str}{ds:List Int}{hs:List (Str×Ds)}{ps:List (Str×Int)}(s:Dm H0 H)(h:Mch m H H' t nm bs qs ds hs ps):Mch m H0 H' t nm bs qs ds hs ps:=by
 obtain⟨⟨bl,U,dl,O,vb,hv,h1,h2,Z,h4,h5,g,D,f1,f2,J,f4⟩,kb,W,Y,M,lq,V,I,wb,hk⟩:=h;exact{{bl,U,dl,O,vb,hv,h1,h2,Z,h4,h5,g,Paired.mono (fun v q z=>HsO.base z s) D,s _ f1,s _ f2,s _ J,s _ f4},kb,W,Y,M,lq,V,I,wb,hk}
theorem But.dm{p:aa}{H G:Hp}(b:But p H G)(Z:dO G p):Dm H G:=fun a n=>by
 cases e:H a with
 |none=>rfl
 |some o=>
  by_cases c:a=p
  ·obtain⟨x,y,q⟩:=Z;rw[c,q]at n
   cases n
  ·rw[b a o e c]at n
   cases n
theorem rX{H:Hp}:∀{ps:List (Str×Int)} {vs:List V},gO H ps vs->aH (fun v (x:Str)=>∃a n,v=.ref a/\H a=Z8 (.tup [.str x,n])) vs (ps.map (·.1))
 | [],_,h=>by
  cases h;exact .nil
 |p::ps,_,h=>by
  cases h with
  |cons a b=>
   obtain⟨t,e,h⟩:=a;exact .cons {t,_,e,h} (rX (ps:=ps) b)
theorem oG{Z:Type}{R:V->Z->Prop}:∀{xs:List V} {Y:List Z},aH R xs Y->∀x∈xs,∃a∈Y,R x a
 |_,_,.nil,_,h=>by cases h
 |_,_,.cons a b,x,h=>by
  rcases ar.mp h with z|z
  ·exact{_,ax,by rw[z];exact a}
  ·obtain⟨c,hc,r⟩:=oG b x z;exact{c,ah _ hc,r}
theorem MIn.moI{m:Int}{H H':Hp}{v:V}{M:MD}(h:MIn m H H' v M):MoI m H' v M:=by
 obtain⟨t,rfl,⟨bl,Y,dl,g,U,hv,h1,h2,Z,W,h5,h6,h7,f1,f2,f3,f4⟩,O,I,J,lb,lq,D,lh,wb,hk⟩:=h;refine{{t,bl,Y,dl,g,_,U,hv,Z9,h1,h2,by rw[<- O];exact rX Z,W,h5,h6,Paired.mono (fun v q z=>?_) h7},{t,bl,Y,_,_,_,U,Z9,h1,h2,Z,W},O,I,J,lb,lq,D,lh,wb,hk};obtain⟨u,l,xs,e,g1,g2,g3,g4,g5⟩:=z;exact{u,.ref l,e,g1,l,xs,Z9,g3,g4,g5.now}
theorem MIn.tree{m:Int}{H H':Hp}{v:V}{M:MD}(h:MIn m H H' v M):Tree H' 28 v:=by
 obtain⟨t,rfl,⟨bl,ql,dl,hl,vb,hv,h1,h2,Y,J,h5,O,W,f1,f2,f3,f4⟩,kb,nb,nq,lb,lq,ld,lh,wb,hk⟩:=h;have bI:M.ps.length<=9:=by
  have:=congrArg jq kb;rw[aq]at this;omega
 refine Tree.atup h1 (by show 5<1000;decide) fun y hy=>?_;simp only[ar,aI,or_false]at hy
 rcases hy with rfl|rfl|rfl|rfl|rfl
 ·exact Tree.scal (by exact trivial) _
 ·exact Tree.alst h2 (by rw[<- Y.length];omega) fun z Z=>Y.tree (n:=25) z Z
 ·refine Tree.alst J (by rw[aq];omega) fun z Z=>?_;obtain⟨x,_,rfl⟩:=cq.mp Z;exact Tree.scal (by exact trivial) _
 ·refine Tree.alst h5 (by rw[aq];omega) fun z Z=>?_;obtain⟨x,_,rfl⟩:=cq.mp Z;exact Tree.scal (by exact trivial) _
 ·refine Tree.alst O (by rw[aV W];omega) fun z Z=>?_;obtain⟨q,hq,u,l,xs,rfl,U,g2,D,g,I⟩:=oG W z Z;refine Tree.atup U (by show 2<1000;decide) fun y hy=>?_;simp only[ar,aI,or_false]at hy
  rcases hy with rfl|rfl
  ·exact Tree.scal (by exact trivial) _
  ·exact Tree.alst D g fun z Z=>fc.tree q.2 xs 24 I.now (by have:=(hk q hq).2.1;omega) z Z
theorem Bq.alike{H H':Hp}{v J:V}{M:MD}(h:Bq H v M)(al:Alike H H' 28 v J):Bq H' J M:=by
 obtain⟨t,bl,ql,n0,x3,x4,vb,rfl,h1,h2,I,h4⟩:=h;obtain⟨t',bI,rfl,U,Z⟩:=tH h1 al;obtain⟨g,Y,rfl,a0,Z⟩:=dH Z;obtain⟨z1,Y,rfl,a1,Z⟩:=dH Z;obtain⟨z2,Y,rfl,a2,Z⟩:=dH Z;obtain⟨z3,Y,rfl,a3,Z⟩:=dH Z;obtain⟨z4,Y,rfl,a4,Z⟩:=dH Z;obtain rfl:=ny Z;obtain⟨b',W,rfl,c1,d1⟩:=m9 h2 a1;obtain⟨D,vq,rfl,O,d2⟩:=m9 h4 a2;rw[iS d2 (by intro x hx;obtain⟨z,_,rfl⟩:=cq.mp hx;exact trivial)]at O;exact{t',b',D,g,z3,z4,W,Z9,U,c1,I.alike d1,O}
theorem C7{m:Int}{H0 H:Hp}{Z:aa}{xs:List V}{Ms:List MD}(h:H Z=Z8 (.lst xs))(p:aH (MIn m H0 H) xs Ms)(l:Ms.length<1000):Tree H 29 (.ref Z):=
 Tree.alst h (by rw[aV p];exact l) fun x hx=>by
  obtain⟨M,_,z⟩:=oG p x hx;exact z.tree
theorem Kc{m:Int}{H0 H H2:Hp}{W:aa}{xs:List V}{Ms:List MD}{Y:V}(h:H W=Z8 (.lst xs))(p:aH (MIn m H0 H) xs Ms)(O:Alike H H2 29 (.ref W) Y):∃Z,Y=.ref Z/\yN m H2 Z Ms:=by
 obtain⟨Z,ys,rfl,h1,U⟩:=m9 h O;refine{Z,Z9,ys,h1,qz (R:=MIn m H0 H) (S:=Alike H H2 28) (T:=Tree H 28) (fun v M Y a b c=>?_) p U fun x hx=>?_}
 ·have z:=a.moI;exact{z.ma.alike c b,z.fs.alike b,z.kb,z.nb,z.nq,z.lb,z.lq,z.ld,z.lh,z.wb,z.hk}
 ·obtain⟨M,_,z⟩:=oG p x hx;exact z.tree
theorem NS:abc.cps.toList.Nodup:=by decide +kernel
def GN(b:Nat)(ss:List Str):Prop:=∀i s,ss[i]?=Z8 s->∃c,abc.cps.toList[b+i]?=Z8 c/\s.cps.toList[0]?=Z8 c
theorem Kd{i j:Nat} {c} (hi:abc.cps.toList[i]?=Z8 c) (Y:abc.cps.toList[j]?=Z8 c):i=j:=by
 have Z:=(aF.mp hi).1;exact (List.getElem?_inj Z NS).mp (hi.trans Y.symm)
theorem Kf{n:Nat}(h1:n<26):∃c,abc.cps.toList[n]?=Z8 c/\atI abc.cps.toList (n:Int)=Z8 c:=by
 have l:n<abc.cps.toList.length:=by rw[C0];omega
 exact{abc.cps.toList[n],aO l,jU (aO l)}
theorem GN.nodup{b:Nat}{ss:List Str}(h:GN b ss):ss.Nodup:=by
 refine c9.mpr fun i j U Y V e=>?_;obtain⟨c,a1,a2⟩:=h i _ (aO U);obtain⟨d,W,Z⟩:=h j _ (aO Y);rw[<- e,a2]at Z
 cases Z;have z:=Kd a1 W;omega
theorem GN.snoc{b:Nat}{ss:List Str}{s:Str} {c} (h:GN b ss) (h2:abc.cps.toList[b+ss.length]?=Z8 c) (W:s.cps.toList[0]?=Z8 c):GN b (ss++[s]):=by
 intro i x e
 by_cases hi:i<ss.length
 ·rw[eI hi]at e;exact h i x e
 ·rw[dP (by omega)]at e;obtain⟨Y,_⟩:=aF.mp e;have Y:i-ss.length<1:=Y;have Z:i=ss.length:=by omega
  subst Z;rw[qg]at e
  cases e;exact⟨c,h2,W⟩
theorem yU{x y:Str} {c} (h:x.cps.toList[0]?=Z8 c):(x++y).cps.toList[0]?=Z8 c:=by
 show (x.cps++y.cps).toList[0]?=Z8 c;rw[Array.toList_append,eI (aF.mp h).1];exact h
section
variable{P:aL}{w:bA}{K:af}{mg:Str->Option ae}{base:cu}{f fD fNm:aa}{fd fdD fdNm:bS}
seal PS PSs PE PA PT PW PI PG PGs PC
abbrev nNm:List Str:=["_law_purse_here","_law_long","_law_word","_law_k"]
abbrev pNm:List Str:=["_law_purse_here","_law_long"]
theorem Kg:bK nNm pNm (aN oy):={}
inductive Ls(vs:List V)(H:Hp)(Q:VK)(_e:XK):Prop where
 |mk(p:aa)(n:Int)(_:vs=[.ref p,.int n])(_:dO H p)(_:0<n)(_:n<=9)(_:∀(s:Str) (H':Hp),s.length<=9->dO H' p->But p H H'->Q (.str s) H'):Ls vs H Q _e
def spNm:Sp:=fun vs H Q Z=>Ls vs H Q Z
theorem ok_nm(D:Df K mg "_law_name" oy pNm f fd)(Y:Df K mg "_law_draw" eE pD fD fdD)(B:Bl mg):bh P w K mg base CX0 2 f fd pNm spNm:=by
 have O:bh P w K mg base CX0 1 fD fdD pD jR:=jZ Y;refine D.F.ok Kg (fun vs H Q E h=>?_) (fun J A outer s H vs Q E hr h=>?_)
 ·obtain⟨p,n,rfl,_⟩:=h;rfl
 obtain⟨p,n,rfl,g,n0,n9,q⟩:=h;have M:cZ 1 _:=hr;refine⟨_,ai (bM (i:=2) Kg.nd rfl (Or.inl rfl) cg)
  (ai (iH cF rfl (ji (by rfl) B.range (qH (cQ gQ aw (aM O M (by rfl) Y.m Y.F.kp Y.b .nil aY (bN (pv 0) (bN (pv 1) aj)))) aj)) (df (i:=3) Kg.nd rfl (Or.inl rfl)) (aA (bM (i:=2) Kg.nd rfl (Or.inl rfl) (cQ vA (pv 2) (bX Fv cg (aM O M (by rfl) Y.m Y.F.kp Y.b .nil aY (bN (pv 0) (dA aw aj))) (fun _ _=>rfl))))))
  (aA (bJ (pv 2)))),?_⟩
 have big:=dZ;refine cb (dy (bL ?_));dsimp only;refine cb {_,Z9,_,Z9,p,n,Z9,g,by omega,by omega,fun r G r0 t Z W=>{_,_,Z9,Z9,1+r,Z9,by omega,by omega,?_}};refine qv (n:=(1+r).toNat) (fun i σ G=>∃(w:Str) (u:Option V),σ=[Z8 (.ref p),Z8 (.int n),Z8 (.str w),u]/\w.length=i/\dO G p/\But p H G) {_,_,Z9,Z9,Z,W} ?_ ?_
 ·rintro i σ G hi ⟨w,u,rfl,hw,Z,W⟩;refine dy {_,Z9,_,Z9,p,26,Z9,Z,by decide,by decide,fun x G2 z x1 U I=>?_};obtain⟨c,hc⟩:=NR z x1;refine{abc,_,c,Z9,Z9,xY,hc,w,{#[c]},Z9,Z9,?_,?_}
  ·show w.length+1<=aC;omega
  ·exact{_,_,Z9,by rw[Ag,hw];rfl,U,W.trans I}
 ·rintro σ G ⟨w,u,rfl,hw,Z,W⟩;dsimp only;exact fH {_,Z9,q w G (by omega) Z W}
abbrev nN:List Str:=["_law_purse_here","_law_many","_law_first"]
abbrev pN:List Str:=["_law_purse_here","_law_many","_law_first"]
theorem scN:bK nN pN (aN j9):={}
theorem ndN:((["_law_k"]:List Str)++nN).Nodup:=by decide +kernel
inductive Ah(vs:List V)(H:Hp)(Q:VK)(_e:XK):Prop where
 |mk(p:aa)(n fs:Nat)(_:vs=[.ref p,.int n,.int fs])(_:dO H p)(_:n<=9)(_:fs+n<=26)(_:∀(l:aa) (ss:List Str) (H':Hp),H l=Z7->H' l=Z8 (.lst (ss.map V.str))->ss.length=n->ss.Nodup->dO H' p->But p H H'->Q (.ref l) H'):Ah vs H Q _e
def C8:Sp:=fun vs H Q Z=>Ah vs H Q Z
theorem HQ(D:Df K mg "_law_names" j9 pN f fd)(Z:Df K mg "_law_name" oy pNm fNm fdNm)(DD:Df K mg "_law_draw" eE pD fD fdD)(B:Bl mg):bh P w K mg base CX0 3 f fd pN C8:=by
 have O:bh P w K mg base CX0 2 fNm fdNm pNm spNm:=ok_nm Z DD B;refine D.F.ok scN (fun vs H Q E h=>?_) (fun bt A outer s H vs Q E t h=>?_)
 ·obtain⟨p,n,fs,rfl,_⟩:=h;rfl
 obtain⟨p,n,fs,rfl,z,n9,g,q⟩:=h;have r2:cZ 2 _:=t;refine{_,aA (bJ (lS ["_law_k"] (iC.open (NN:=nN) (N:=nN) (sc:=aN j9) rfl rfl (by decide +kernel) rfl (by decide +kernel) (by decide +kernel) rfl (by decide +kernel)) rfl (ji (by rfl) B.range (bN (pv 1) aj)) (fun _ _ _ _=>df (i:=0) ndN rfl (Or.inl rfl)) (fun _ _ _ _=>jW) (fun _ _ _ _=>cQ vA (bX Fv cg (cQ gQ (pv 3) (pv 0)) (fun _ _=>rfl)) (aM O r2 (by rfl) Z.m Z.F.kp Z.b .nil aY (bN (pv 1) (dA aw aj)))))),?_};have big:=dZ;refine fH ?_;refine tQ (fun m G'=>m=n/\G'=H) (fun R hR=>{_,Z9,hR n H ⟨Z9,Z9⟩}) (fun m G' h=>by omega) (fun m G' i ys G=>∃ss:List Str,ys=ss.map V.str/\ss.length=i/\GN fs ss/\dO G p/\But p H G) ?_ ?_ ?_ ?_
 ·rintro m G' ⟨rfl,rfl⟩;exact{[],Z9,Z9,(fun i x e=>by cases e),z,But.refl _ _}
 ·rintro m G' ⟨rfl,rfl⟩ i ys G hi ⟨ss,rfl,hs,_⟩;rw[aq];omega
 ·rintro m G' ⟨rfl,rfl⟩ i ys G hi ⟨ss,rfl,hs,J,Y,W⟩;refine bL {Z9,?_};unfold w5;refine ja ?_;obtain⟨c,M,hc⟩:=Kf (n:=fs+i) (by omega);refine{_,Z9,_,Z9,_,_,Z9,Z9,abc,_,c,Z9,Z9,xY,(by rw[show (fs:Int)+(0+(i:Int))=((fs+i:Nat):Int) by omega];exact hc),_,Z9,p,5,Z9,Y,by decide,by decide,fun s' G2 ls U b2=>{_,_,Z9,Z9,?_,?_}}
  ·show 1+s'.length<=aC;omega
  ·exact{ss++[{#[c]}++s'],by rw[bT];rfl,by rw[ay,hs];rfl,J.snoc (c:=c) (by rw[hs];exact M) (yU rfl),U,W.trans b2}
 ·rintro m G' ⟨rfl,rfl⟩ ys G ⟨ss,rfl,hs,J,Y,W⟩ l I;have st:=aD I (.lst (ss.map V.str));exact q l ss _ (W.dm Y l I) ag hs J.nodup (Y.same st) (W.same st)
end
theorem rY{H:Hp}{p Z:aa}{bs:List Str}(Y:dO H p)(hb:H Z=Z8 (.lst (bs.map V.str))):Z≠p:=by
 obtain⟨x,y,e⟩:=Y;refine oK hb e fun z=>?_
 cases bs with
 |nil=>cases z
 |cons b r=>cases z
theorem ko{bs:List Str}{r:Int}(h0:0<=r)(h1:r<bs.length):∃x,atI (bs.map V.str) r=Z8 (.str x)/\x∈bs:=by
 obtain⟨j,rfl⟩:∃j:Nat,r=(j:Int):={r.toNat,by omega};have lt:j<bs.length:=by omega
 exact{bs[j],jU (by rw[cm,aO lt];rfl),uZ lt}
theorem jo.but{bs qs:List Str}{H H':Hp}{p:aa}{v:V}{f:Fm}(Z:dO H p)(b:But p H H')(h:jo bs qs H v f):jo bs qs H' v f:=h.mono fun t xs e=>dX.but Z b _ _ e (oF xs)
theorem tS{n:Int}(h:-1000000<=n/\n<=1000000):Wo n:=by
 have e:(10:Int)^15=1000000000000000:=by decide
 unfold Wo;omega
def yV:List Str:=["plus","less","times","part","rest","below","same","plus"]
theorem HR{r:Int}(h0:0<=r)(h1:r<8):∃x,atI (yV.map V.str) r=Z8 (.str x)/\x∈B8:=by
 obtain⟨x,hx,m⟩:=ko (bs:=yV) h0 h1;refine{x,hx,?_};have:∀y∈yV,y∈B8:=by decide +kernel
 exact this x m
theorem jC{H:Hp}{a:aa}(Z:H a=Z7)(o:HO):upd H a o a=Z8 o:=ag
theorem xf{t u:TS}{D:mJ}{σ:St}{H:Hp}(I:St->Hp->Prop)(Y:∀Z H',I Z H'->u D Z H')(h:∀N:St->Hp->Prop,(∀Z H',I Z H'->N Z H')->t {D with nx:=N} σ H):L0 t u D σ H:=h _ Y
theorem qC{xs:List V}(h:(!xs.isEmpty)=true):0<xs.length:=by
 cases xs with
 |nil=>cases h
 |cons y ys=>exact p8 _
theorem tT{x y:V}{b:Bool}:atI [x,y] (if b=true then 1 else 0)=Z8 (if b=true then y else x):=by
 cases b<;>rfl
section
variable{P:aL}{w:bA}{K:af}{mg:Str->Option ae}{base:cu}{f fD fW:aa}{fd fdD fdW:bS}{bs qs:List Str}
seal PS PSs PE PA PT PW PI PG PGs PC
abbrev nFo:List Str:=["_law_purse_here","_law_low","_law_boxes","_law_queues","_law_pick","_law_word","_law_one"]
abbrev pFo:List Str:=["_law_purse_here","_law_low","_law_boxes","_law_queues"]
theorem Kh:bK nFo pFo (aN gT):={}
inductive Lu(bs qs:List Str)(n:Nat)(vs:List V)(H:Hp)(Q:VK)(_e:XK):Prop where
 |mk(p lb lq:aa)(d:Nat)(_:vs=[.ref p,.int d,.ref lb,.ref lq])(_:d<n)(_:dO H p)(_:H lb=Z8 (.lst (bs.map V.str)))(_:H lq=Z8 (.lst (qs.map V.str)))(_:bs.length<=9)(_:qs.length<=9)(_:∀(v:V) (F:Fm) (H':Hp),jo bs qs H' v F->F.depth<=d+1->dO H' p->But p H H'->Q v H'):Lu bs qs n vs H Q _e
def HS(bs qs:List Str)(n:Nat):Sp:=fun vs H Q Z=>Lu bs qs n vs H Q Z
theorem Ki{n:Nat}(D:Df K mg "_law_formula" gT pFo f fd)(U:Df K mg "_law_draw" eE pD fD fdD)(DW:Df K mg "_law_worth" fK pW fW fdW)(B:Bl mg)(GR:bh P w K mg base CX0 (n+2) f fd pFo (HS bs qs n)):bh P w K mg base CX0 (n+3) f fd pFo (HS bs qs (n+1)):=by
 have GD:bh P w K mg base CX0 1 fD fdD pD jR:=jZ U;have GW:bh P w K mg base CX0 2 fW fdW pW vh:=wG DW U B;refine D.F.ok Kh (fun vs H Q E h=>?_) (fun dl A outer s H vs Q E hr h=>?_)
 ·obtain⟨p,I,lq,d,rfl,_⟩:=h;rfl
 obtain⟨p,I,lq,d,rfl,dn,pu,hb,hq,ed,eb,k⟩:=h;have ec:=FP hr;have r1:cZ 1 _:=hr.mono (by omega);have r2:cZ 2 _:=hr.mono (by omega);refine⟨_,ai (bM (i:=4) Kh.nd rfl (Or.inl rfl) (aM GD r1 (by rfl) U.m U.F.kp U.b .nil aY (bN (pv 0) (rW (bX dQ (eR (dA aw (dA aw aj))) (fg kN (by rfl) B.int boot_int (ak (nV vx (pv 1) aw (bV _)) aj)) (fun _ _=>rfl)) aj))))
  (ai (cN (bP qI (pv 4) aw (bV _)) (aA (bJ (eg (dA cg (iY (aM GW r2 (by rfl) DW.m DW.F.kp DW.b .nil aY (bN (pv 0) aj)) aj))))) bZ)
  (ai (cN ((pe (bP eW (pv 4) aw (bV _)) (nJ (bP (yA ec) (pv 2) (eR aj) (bV _)))).pt) (aA (bJ (eg (dA cg (rW (bX dQ (pv 2) (aM GD r1 (by rfl) U.m U.F.kp U.b .nil aY (bN (pv 0) (iY (cT (fj K (by rfl)) (by rfl) B.len cy (bN (pv 2) aj)) aj))) (fun _ _=>rfl)) aj))))) bZ)
  (ai (cN ((pe (bP eW (pv 4) aw (bV _)) (nJ (bP (yA ec) (pv 3) (eR aj) (bV _)))).pt) (aA (bJ (eg (dA cg (rW (bX dQ (pv 3) (aM GD r1 (by rfl) U.m U.F.kp U.b .nil aY (bN (pv 0) (iY (cT (fj K (by rfl)) (by rfl) B.len cy (bN (pv 3) aj)) aj))) (fun _ _=>rfl)) aj))))) bZ)
  (ai (cN (bP eW (pv 4) aw (bV _)) (aA (bJ (eg (dA cg aj)))) bZ)
  (ai (cN (bP qI (pv 4) aw (bV _)) (aA (bJ (eg (dA cg (iY (aM GD r1 (by rfl) U.m U.F.kp U.b .nil aY (bN (pv 0) (dA aw aj))) aj))))) bZ)
  (ai (bM (i:=5) Kh.nd rfl (Or.inl rfl) (bX dQ (eR (dA cg (dA cg (dA cg (dA cg (dA cg (dA cg (dA cg (dA cg aj))))))))) (aM GD r1 (by rfl) U.m U.F.kp U.b .nil aY (bN (pv 0) (dA aw aj))) (fun _ _=>rfl)))
  (ai (bM (i:=6) Kh.nd rfl (Or.inl rfl) (aM GR hr (by rfl) D.m D.F.kp D.b .nil aY (bN (pv 0) (qH (cQ jN (pv 1) aw) (bN (pv 2) (bN (pv 3) aj))))))
  (aA (bJ (eg (bN (pv 5) (bN (pv 6) (iY (aM GR hr (by rfl) D.m D.F.kp D.b .nil aY (bN (pv 0) (qH (cQ jN (pv 1) aw) (bN (pv 2) (bN (pv 3) aj))))) aj))))))))))))),?_⟩
 have big:=dZ;have nb:=rY pu hb;have nq:=rY pu hq;refine cb (dy {_,Z9,lt2,fun l0 ea=>?_});have s0:=aD ea (.lst [.int 6,.int 10]);refine{_,Z9,_,_,Z9,Z9,.inr {_,Z9,l0,_,_,_,Z9,Z9,SqL.of ag,tT,?_}};obtain⟨m,em,m6,md⟩:∃m:Int,(if decide ((d:Int)>0)=true then V.int 10 else V.int 6)=.int m/\(0<m/\m<100)/\(d=0->m=6):=by
  by_cases c:(d:Int)>0
  ·rw[decide_eq_true c];exact{10,Z9,by decide,fun z=>by omega}
  ·rw[decide_eq_false c];exact{6,Z9,by decide,fun _=>rfl}
 rw[em];refine{p,m,Z9,pu.same s0,m6.1,by omega,fun pk G dp dt Y J=>bL ?_};have J:=(But.same (But.refl p H) s0).trans J;clear s0 ea;dsimp only;have ek:∀{G:Hp},But p H G->G I=Z8 (.lst (bs.map V.str)):=fun b=>b _ _ hb nb;have el:∀{G:Hp},But p H G->G lq=Z8 (.lst (qs.map V.str)):=fun b=>b _ _ hq nq;refine cb (iA {_,Z9,_,_,Z9,Z9,_,Z9,gp (fun _=>?_) (fun _=>?_)})
 ·refine fH {_,Z9,p,Z9,Y,fun r G2 r0 Z W b2=>{lt2,fun t ht=>?_}};have st:=aD ht (.tup [.str "number",.int r]);exact k _ (.num r) _ (.num ag ⟨r0,Z⟩) (by show 1<=d+1;omega) (W.same st) ((J.trans b2).same st)
 dsimp only[lP];refine xf (fun ef G=>ef=[Z8 (.ref p),Z8 (.int d),Z8 (.ref I),Z8 (.ref lq),Z8 (.int pk),Z7,Z7]/\dO G p/\But p H G) ?_ ?_
 rotate_left
 ·intro N hN;refine iA {_,Z9,Z9,_,Z9,gp (fun _=>?_) (fun _=>gf (hN _ _ ⟨Z9,Y,J⟩))};refine{_,Z9,by show 0<=aC;omega,fun e0 eh=>?_};have O:=aD eh (.lst []);refine{I,e0,_,Z9,Z9,O _ _ (ek J),ag,_,Z9,gp (fun ne=>?_) (fun _=>hN _ _ {Z9,Y.same O,J.same O})};have l0:=qC ne;rw[aq]at l0;refine fH {_,Z9,_,Z9,_,Z9,I,_,Z9,.inl (SqL.of (O _ _ (ek J))),p,_,Z9,Y.same O,by rw[aq];omega,by rw[aq];omega,fun r G2 r0 Z W b2=>?_};rw[aq]at Z;obtain⟨x,hx,mx⟩:=ko r0 Z;have g:=(J.same O).trans b2;refine{I,_,_,_,Z9,Z9,SqL.of (ek g),hx,lt2,fun t ht=>?_};have st:=aD ht (.tup [.str "box",.str x]);exact k _ (.box x) _ (.box ag mx) (by show 1<=d+1;omega) (W.same st) (g.same st)
 rintro _ G1 ⟨rfl,M,b1⟩;refine xf (fun ef G=>ef=[Z8 (.ref p),Z8 (.int d),Z8 (.ref I),Z8 (.ref lq),Z8 (.int pk),Z7,Z7]/\dO G p/\But p H G) ?_ ?_
 rotate_left
 ·intro N hN;refine iA {_,Z9,Z9,_,Z9,gp (fun _=>?_) (fun _=>gf (hN _ _ ⟨Z9,M,b1⟩))};refine{_,Z9,by show 0<=aC;omega,fun e0 eh=>?_};have O:=aD eh (.lst []);refine{lq,e0,_,Z9,Z9,O _ _ (el b1),ag,_,Z9,gp (fun ne=>?_) (fun _=>hN _ _ {Z9,M.same O,b1.same O})};have l0:=qC ne;rw[aq]at l0;refine fH {_,Z9,_,Z9,_,Z9,lq,_,Z9,.inl (SqL.of (O _ _ (el b1))),p,_,Z9,M.same O,by rw[aq];omega,by rw[aq];omega,fun r G2 r0 Z W b2=>?_};rw[aq]at Z;obtain⟨x,hx,mx⟩:=ko r0 Z;have g:=(b1.same O).trans b2;refine{lq,_,_,_,Z9,Z9,SqL.of (el g),hx,lt2,fun t ht=>?_};have st:=aD ht (.tup [.str "long",.str x]);exact k _ (.long x) _ (.long ag mx) (by show 1<=d+1;omega) (W.same st) (g.same st)
 rintro _ G ⟨rfl,Y,J⟩;clear M b1;refine cb (iA {_,Z9,Z9,_,Z9,gp (fun _=>?_) (fun _=>?_)})
 ·refine fH {Es,fun t ht=>?_};have st:=aD ht (.tup [.str "now"]);exact k _ .now _ (.now ag) (by show 1<=d+1;omega) (Y.same st) (J.same st)
 dsimp only[lP];refine cb (iA {_,Z9,_,_,Z9,Z9,_,Z9,gp (fun _=>?_) (fun c6=>?_)})
 ·refine fH {_,Z9,p,2,Z9,Y,by decide,by decide,fun a4 G4 a40 a41 dG b4=>{lt2,fun t4 dv=>?_}};have q4:=aD dv (.tup [.str "got",.int a4]);have er:a4=if (decide (a4=1))=true then 1 else 0:=by
   by_cases c:a4=1
   ·rw[decide_eq_true c,if_pos rfl];exact c
   ·rw[decide_eq_false c,if_neg (by decide)];omega
  exact k _ (.got (decide (a4=1))) _ (.got (by rw[ag,<- er])) (by show 1<=d+1;omega) (dG.same q4) ((J.trans b4).same q4)
 dsimp only[lP];have c6:¬pk<6:=fun z=>c6 (decide_eq_true z);obtain⟨e,rfl⟩:∃e,d=e+1:=⟨d-1,by
  by_cases z:d=0
  ·have:=md z;omega
  ·omega⟩
 have ee:((e+1:Nat):Int)-1=(e:Int):=by omega
 refine cb (dy {by show 8<=aC;omega,fun l hl=>?_});have ql:=aD hl (.lst (yV.map V.str));refine{_,Z9,p,8,Z9,Y.same ql,by decide,by decide,fun r G1 r0 Z M b1=>?_};have dV:l≠p:=rg Y hl;obtain⟨x,hx,mx⟩:=HR r0 Z;refine{l,_,_,_,Z9,Z9,SqL.of (b1 _ _ ag dV),hx,bL ?_};dsimp only;have ej:But p H G1:=(J.same ql).trans b1;refine cb (dy {_,Z9,_,Z9,_,_,Z9,Z9,_,Z9,_,Z9,p,I,lq,e,(by show [V.ref p,V.int (((e+1:Nat):Int)-1),V.ref I,V.ref lq]=_;rw[ee]),by omega,M,ek ej,el ej,ed,eb,fun v1 F1 G2 dw dq W b2=>bL ?_});dsimp only;have ei:=ej.trans b2;refine fH {_,Z9,_,Z9,_,Z9,_,Z9,_,_,Z9,Z9,_,Z9,_,Z9,p,I,lq,e,(by show [V.ref p,V.int (((e+1:Nat):Int)-1),V.ref I,V.ref lq]=_;rw[ee]),by omega,W,ek ei,el ei,ed,eb,fun v2 F2 G3 dz du dL b3=>{by show 3<=aC;omega,fun t ht=>?_}};have qt:=aD ht (.tup [.str x,v1,v2]);exact k _ (.two x F1 F2) _ (.two ag mx ((dw.but W b3).mono fun t xs e=>qt _ _ e) (dz.mono fun t xs e=>qt _ _ e)) (by show max F1.depth F2.depth+1<=e+1+1;omega) (dL.same qt) ((ei.trans b3).same qt)
theorem HU(D:Df K mg "_law_formula" gT pFo f fd)(Y:Df K mg "_law_draw" eE pD fD fdD)(Z:Df K mg "_law_worth" fK pW fW fdW)(B:Bl mg):∀n:Nat,bh P w K mg base CX0 (n+2) f fd pFo (HS bs qs n)
 |0=>⟨fun vs H Q E h=>by
   obtain⟨p,W,V,d,_,h,_⟩:=h;omega,fun A outer s H args us vs Q E _ _ _ _ h=>by
   obtain⟨p,W,V,d,_,h,_⟩:=h;omega⟩
 |n+1=>Ki D Y Z B (HU D Y Z B n)
end
end My
namespace L2
open PySem PySem.Spec PyProof.Rows PySem.SeqAt
section
variable{X:Cx}
theorem NT(J:X.A.units+50<d8):OpR X (dI .Eq) (fun x y H Q=>∃p q xs,x=.ref p/\y=.ref q/\H p=Z8 (.lst xs)/\H q=Z8 (.lst [])/\Q (.bl xs.isEmpty) H):=by
 intro pins s σ H x y v u Q I V M h;obtain⟨p,q,xs,rfl,rfl,h1,h2,k⟩:=h
 cases V
 cases M;obtain⟨us,Y,Z⟩:=gK I.hok h1;obtain⟨vs,O,W⟩:=gK I.hok h2
 cases O;have U:=Y.length
 cases xs with
 |nil=>
  cases Y;exact RcAt.lists (A:=X.A) (e:=fun _=>true) Z W rfl (by omega) (fun j a b=>absurd a (gX _)) X.prog X.w _ _ {.bl true,H,I,Z9,k}
 |cons a xs=>
  exact RcAt.lists_lengths Z W (by
   cases us with
   |nil=>cases U
   |cons b us=>simp) (by omega) X.prog X.w _ _ {.bl false,H,I,Z9,k}
end
end L2
namespace My
open PySem L2
structure Th(H:Hp)(lt lb lq:aa)(bs qs:List Str):Prop where
 ht:H lt=Z8 (.tup [.ref lb,.ref lq])
 hb:H lb=Z8 (.lst (bs.map V.str))
 hq:H lq=Z8 (.lst (qs.map V.str))
 lb:bs.length<=9
 lq:qs.length<=9
theorem Th.keepI{H H':Hp}{lt Y Z:aa}{bs qs:List Str}(k:dX H H')(h:Th H lt Y Z bs qs):Th H' lt Y Z bs qs:=
 {k _ _ h.ht (oF _),k _ _ h.hb (CZ _),k _ _ h.hq (CZ _),h.lb,h.lq}
theorem HV{r:Int}(h0:0<=r)(h1:r<3):∃x:Str,atI [V.str "go",.str "on",.str "stop"] r=Z8 (.str x):=by
 obtain⟨x,hx,_⟩:=ko (bs:=["go","on","stop"]) h0 h1;exact⟨x,hx⟩
section
variable{P:aL}{w:bA}{K:af}{mg:Str->Option ae}{base:cu}{f fD fW fF fSe fS fE:aa}{fd fdD fdW fdF fdSe fdS fdE:bS}{bs qs:List Str}
seal PS PSs PE PA PT PW PI PG PGs PC
abbrev nSd:List Str:=["_law_purse_here","_law_there","_law_many","_law_boxes","_law_queues","_law_span","_law_to","_law_sign_here","_law_one"]
abbrev pSd:List Str:=["_law_purse_here","_law_there","_law_many"]
theorem Ai:bK nSd pSd (aN lu):={}
inductive Lv(bs qs:List Str)(vs:List V)(H:Hp)(Q:VK)(_e:XK):Prop where
 |mk(p lt lb lq:aa)(m:Int)(_:vs=[.ref p,.ref lt,.int m])(_:dO H p)(_:Th H lt lb lq bs qs)(_:0<m)(_:m<1000)(_:∀(v:V) (dd:Dd) (H':Hp),OwD bs qs H H' dd v->dd.toOk m->dd.deep=0->dd.size<=1->dO H' p->But p H H'->Q v H'):Lv bs qs vs H Q _e
def spSd(bs qs:List Str):Sp:=fun vs H Q Z=>Lv bs qs vs H Q Z
theorem ok_sd(D:Df K mg "_law_send" lu pSd f fd)(O:Df K mg "_law_formula" gT pFo fF fdF)(Z:Df K mg "_law_draw" eE pD fD fdD)(DW:Df K mg "_law_worth" fK pW fW fdW)(B:Bl mg):bh P w K mg base CX0 5 f fd pSd (spSd bs qs):=by
 have GD:bh P w K mg base CX0 1 fD fdD pD jR:=jZ Z;have GF:bh P w K mg base CX0 4 fF fdF pFo (HS bs qs 2):=HU O Z DW B 2;refine D.F.ok Ai (fun vs H Q E h=>?_) (fun dz A outer s H vs Q E hr h=>?_)
 ·obtain⟨p,lt,lb,lq,m,rfl,_⟩:=h;rfl
 obtain⟨p,lt,lb,lq,m,rfl,pu,T,m0,m1,k⟩:=h;have r1:cZ 1 _:=hr.mono (by decide);have r4:cZ 4 _:=hr;refine⟨_,ai (sN (pv 1) (vt rfl (i9 (df (i:=3) Ai.nd rfl (Or.inl rfl)) (i9 (df (i:=4) Ai.nd rfl (Or.inl rfl)) rC))))
  (ai (bM (i:=5) Ai.nd rfl (Or.inl rfl) (eg (dA cg (qH (cQ gQ aw (aM GD r1 (by rfl) Z.m Z.F.kp Z.b .nil aY (bN (pv 0) (dA aw aj)))) aj))))
  (ai (cN (bP eW (aM GD r1 (by rfl) Z.m Z.F.kp Z.b .nil aY (bN (pv 0) (dA aw aj))) aw (bV _)) (aA (bM (i:=5) Ai.nd rfl (Or.inl rfl) (aM GF r4 (by rfl) O.m O.F.kp O.b .nil aY (bN (pv 0) (dA aw (bN (pv 3) (bN (pv 4) aj))))))) bZ)
  (ai (bM (i:=6) Ai.nd rfl (Or.inl rfl) (aM GD r1 (by rfl) Z.m Z.F.kp Z.b .nil aY (bN (pv 0) (bN (pv 2) aj))))
  (ai (bM (i:=7) Ai.nd rfl (Or.inl rfl) (bX dQ (eR (dA cg (dA cg (dA cg aj)))) (aM GD r1 (by rfl) Z.m Z.F.kp Z.b .nil aY (bN (pv 0) (dA aw aj))) (fun _ _=>rfl)))
  (ai (bM (i:=8) Ai.nd rfl (Or.inl rfl) (aM GF r4 (by rfl) O.m O.F.kp O.b .nil aY (bN (pv 0) (dA aw (bN (pv 3) (bN (pv 4) aj))))))
  (aA (bJ (eg (dA cg (bN (pv 6) (bN (pv 7) (bN (pv 5) (iY (aM GD r1 (by rfl) Z.m Z.F.kp Z.b .nil aY (bN (pv 0) (dA aw aj))) (bN (pv 8) (iY (aM GF r4 (by rfl) O.m O.F.kp O.b .nil aY (bN (pv 0) (dA aw (bN (pv 3) (bN (pv 4) aj))))) aj))))))))))))))),?_⟩
 have big:=dZ;refine cb (dy {_,Z9,lt,_,Z9,SqT.of T.ht,Z9,_,_,Z9,bL {_,_,Z9,bL {Z9,?_}}});dsimp only;refine cb (dy {_,Z9,p,7,Z9,pu,by decide,by decide,fun a G a0 a1 ec bG=>{_,_,Z9,Z9,lt2,fun t1 g=>bL ?_}});dsimp only;have s1:=aD g (.tup [.str "number",.int (1+a)]);have M:=(dX.but pu bG).trans (dX.same s1);have W:=ec.same s1;have b1:=bG.same s1;have f1:FmI bs qs (upd G t1 (.tup [.str "number",.int (1+a)])) (.ref t1) (.num (1+a)):={.num ag (tS (by omega)),by show 1<=15;decide};revert M W b1 f1;clear s1 g;generalize upd G t1 (.tup [.str "number",.int (1+a)])=G1;intro M W b1 f1
 -- the span
 refine xf (fun ea G=>∃(v5:V) (F:Fm),ea=[Z8 (.ref p),Z8 (.ref lt),Z8 (.int m),Z8 (.ref lb),Z8 (.ref lq),Z8 v5,Z7,Z7,Z7]/\FmI bs qs G v5 F/\dO G p/\But p H G/\dX H G) ?_ ?_
 rotate_left
 ·intro N hN;refine iA {_,Z9,p,8,Z9,W,by decide,by decide,fun r G2 r0 r8 Y I=>{Z9,_,Z9,gp (fun _=>?_) (fun _=>hN _ _ {_,_,Z9,f1.keepI (dX.but W I),Y,b1.trans I,M.trans (dX.but W I)})}};have J:=M.trans (dX.but W I);have T2:=T.keepI J;refine dy {_,Z9,_,Z9,_,Z9,p,lb,lq,1,Z9,by decide,Y,T2.hb,T2.hq,T.lb,T.lq,fun v F G3 hF dF U b3=>bL (hN _ _ {v,F,Z9,{hF,by omega},U,(b1.trans I).trans b3,J.trans (dX.but Y b3)})}
 rintro _ G2 ⟨v5,F5,rfl,f5,Y,I,J⟩;refine cb (dy {_,Z9,_,Z9,p,m,Z9,Y,by omega,by omega,fun to G3 ed ef U b3=>bL ?_});dsimp only;refine cb (dy {by show 3<=aC;omega,fun l3 ek=>?_});have s3:=aD ek (.lst [.str "go",.str "on",.str "stop"]);refine{_,Z9,p,3,Z9,U.same s3,by decide,by decide,fun r G4 r0 r3 er b4=>?_};obtain⟨sg,eh⟩:=HV r0 r3;refine{l3,_,_,_,Z9,Z9,SqL.of (b4 _ _ ag (rg U ek)),eh,bL ?_};dsimp only;have et:=((dX.but Y b3).trans (dX.same s3)).trans (dX.but (U.same s3) b4);have T4:=T.keepI (J.trans et);refine cb (dy {_,Z9,_,Z9,_,Z9,p,lb,lq,1,Z9,by decide,er,T4.hb,T4.hq,T.lb,T.lq,fun v6 F6 G5 eb dV eo b5=>bL ?_});dsimp only;refine fH {_,Z9,_,Z9,_,Z9,_,Z9,p,10,Z9,eo,by decide,by decide,fun rk G6 dw dL el b6=>{_,Z9,_,Z9,_,Z9,_,Z9,?_}};have ej:=dX.but er b5;have z:=dX.but eo b6;have T6:=T4.keepI (ej.trans z);refine{p,lb,lq,0,Z9,by decide,el,T6.hb,T6.hq,T.lb,T.lq,fun v7 F7 G7 ei dG ee b7=>{by show 7<=aC;omega,fun t ht=>?_}};have st:=aD ht (.tup [.str "send",.int to,.str sg,v5,.int rk,v6,v7]);have f6:FmI bs qs G5 v6 F6:={eb,by omega};have f7:FmI bs qs G7 v7 F7:={ei,by omega};have em:=(dX.but el b7).trans (dX.same st);exact k _ (.send to sg F5 rk F6 F7) _ (J4 ag (f5.keepI (((et.trans ej).trans z).trans em)) (f6.keepI (z.trans em)) (f7.keepI (dX.same st))) ⟨ed,ef⟩ rfl (aB _) (ee.same st) ((((((I.trans b3).same s3).trans b4).trans b5).trans b6).trans b7 |>.same st)
end
structure Gro(bs qs:List Str)(m:Int)(dp S:Nat)(B G:Hp)(l0:aa)(i:Nat):Prop where
 ex:∃(xs:List V) (ds:Ds),G l0=Z8 (.lst xs)/\xs.length<=i/\OwS bs qs B G ds xs/\ds.toOk m/\ds.deep<=dp/\ds.size<=i*S
theorem Gro.up{bs qs:List Str}{m:Int}{Y S:Nat}{B G:Hp}{Z:aa}{i:Nat}(h:Gro bs qs m Y S B G Z i):Gro bs qs m Y S B G Z (i+1):=by
 obtain⟨xs,ds,h1,h2,W,O,V,U⟩:=h.ex;exact{xs,ds,h1,by omega,W,O,V,cY U (kM _ (gc _))}
theorem Gro.keepI{bs qs:List Str}{m:Int}{W S:Nat}{B G G':Hp}{Y:aa}{i:Nat}(h:Gro bs qs m W S B G Y i)(k:dX G G'):Gro bs qs m W S B G' Y i:=by
 obtain⟨xs,ds,h1,h2,Z,O,V,U⟩:=h.ex;exact{xs,ds,k _ _ h1 Z.now.ni,h2,Z.keepI k,O,V,U}
theorem Gro.step{bs qs:List Str}{m:Int}{U S:Nat}{B G W:Hp}{p M Z:aa}{i:Nat}{xs:List V}{ds:Ds}{v:V}{dd:Dd}(I:Z∉[p,M])(L:Lf G p M)(k:Kp [p,M] G W)(D:B Z≠Z7)(dm:Dm B G)(hx:G Z=Z8 (.lst xs))(lx:xs.length<=i)(O:OwS bs qs B G ds xs)(to:ds.toOk m)(d1:ds.deep<=U)(sz:ds.size<=i*S)
  (H:OwD bs qs G W dd v) (t:dd.toOk m) (d2:dd.deep<=U) (s2:dd.size<=S):Gro bs qs m U S B (upd W Z (.lst (xs++[v]))) Z (i+1):=by
 have J:=k _ _ hx I;have g:G Z≠Z7:=by
  rw[hx];intro z
  cases z
 have Y:∀ys,W Z≠Z8 (.tup ys):=fun ys z=>by
  rw[J]at z
  cases z
 refine{xs++[v],qp ds dd,ag,by rw[ay];show xs.length+1<=i+1;omega,HP ((O.keepI (k.keepI L.int)).old D Y) ((H.old g Y).base dm),C6 t ds to,by rw[xZ];omega,?_};rw[x6,Bz];omega
theorem Lf.put{G:Hp}{p Z Y:aa}{o:HO}(L:Lf G p Z)(W:Y∉[p,Z]):Lf (upd G Y o) p Z:=by
 obtain⟨x,y,e⟩:=L.pu;obtain⟨z,V⟩:=L.hl;exact{{x,y,aP e (fun q=>W (by rw[<- q];exact ax))},z,aP V (fun q=>W (by rw[<- q];exact ah _ ax))}
theorem Lf.kp'{H G:Hp}{p Z:aa}(Y:Lf G p Z)(b:But p H G):Kp [p,Z] H G:=Kp.but b ax
structure Dr(H G:Hp)(p lf lt lb lq:aa)(bs qs:List Str):Prop where
 L:Lf G p lf
 T:Th G lt lb lq bs qs
 k:Kp [p,lf] H G
theorem Dr.but{H G G':Hp}{p Y lt W Z:aa}{bs qs:List Str}(d:Dr H G p Y lt W Z bs qs)(b:But p G G')(V:dO G' p):Dr H G' p Y lt W Z bs qs:={d.L.but b V,d.T.keepI (dX.but d.L.pu b),d.k.trans (Kp.but b ax)}
theorem Dr.same{H G G':Hp}{p Y lt W Z:aa}{bs qs:List Str}(d:Dr H G p Y lt W Z bs qs)(s:aT G G'):Dr H G' p Y lt W Z bs qs:={d.L.same s,d.T.keepI (dX.same s),d.k.trans (Kp.same s)}
theorem Dr.kp{H G G':Hp}{p Z lt W Y:aa}{bs qs:List Str}(d:Dr H G p Z lt W Y bs qs)(k:Kp [p,Z] G G')(L:Lf G' p Z):Dr H G' p Z lt W Y bs qs:={L,d.T.keepI (k.keepI d.L.int),d.k.trans k}
theorem Dr.dm{H G:Hp}{p Y lt W Z:aa}{bs qs:List Str}(d:Dr H G p Y lt W Z bs qs):Dm H G:=d.k.dm d.L.there
section
variable{P:aL}{w:bA}{K:af}{mg:Str->Option ae}{base:cu}{f fD fW fF fSe fS fE:aa}{fd fdD fdW fdF fdSe fdS fdE:bS}{bs qs:List Str}
seal PS PSs PE PA PT PW PI PG PGs PC
abbrev nLd:List Str:=["_law_purse_here","_law_low","_law_left","_law_there","_law_many","_law_boxes","_law_queues","_law_pick","_law_queue","_law_formula_here","_law_ones"]
abbrev pLd:List Str:=["_law_purse_here","_law_low","_law_left","_law_there","_law_many"]
theorem BA:bK nLd pLd (aN lA):={}
abbrev nLs:List Str:=["_law_purse_here","_law_low","_law_left","_law_there","_law_many","_law_found","_law_k"]
abbrev pLs:List Str:=["_law_purse_here","_law_low","_law_left","_law_there","_law_many"]
theorem NU:bK nLs pLs (aN jk):={}
inductive Lw(bs qs:List Str)(n:Nat)(vs:List V)(H:Hp)(Q:VK)(_e:XK):Prop where
 |mk(p lt lb lq lf:aa)(m:Int)(d:Nat)(_:vs=[.ref p,.int d,.ref lf,.ref lt,.int m])(_:d<n)(_:Lf H p lf)(_:Th H lt lb lq bs qs)(_:0<m)(_:m<1000)(_:∀(v:V) (dd:Dd) (H':Hp),OwD bs qs H H' dd v->dd.toOk m->dd.deep<=d->dd.size<=ddz d->Lf H' p lf->Kp [p,lf] H H'->Q v H'):Lw bs qs n vs H Q _e
def spLd(bs qs:List Str)(n:Nat):Sp:=fun vs H Q Z=>Lw bs qs n vs H Q Z
inductive Lx(bs qs:List Str)(n:Nat)(vs:List V)(H:Hp)(Q:VK)(_e:XK):Prop where
 |mk(p lt lb lq lf:aa)(m:Int)(d:Nat)(_:vs=[.ref p,.int d,.ref lf,.ref lt,.int m])(_:d<n)(_:Lf H p lf)(_:Th H lt lb lq bs qs)(_:0<m)(_:m<1000)(_:∀(l:aa) (xs:List V) (ds:Ds) (H':Hp),H l=Z7->H' l=Z8 (.lst xs)->xs.length<1000->OwS bs qs H H' ds xs->ds.toOk m->ds.deep<=d->ds.size<=3*ddz d->Lf H' p lf->Kp [p,lf] H H'->Q (.ref l) H'):Lx bs qs n vs H Q _e
def HW(bs qs:List Str)(n:Nat):Sp:=fun vs H Q Z=>Lx bs qs n vs H Q Z
theorem Kj{n kk:Nat}(hk:5<=kk)(D:Df K mg "_law_deed" lA pLd f fd)(DS:Df K mg "_law_deeds" jk pLs fS fdS)(GS:bh P w K mg base CX0 kk fS fdS pLs (HW bs qs n))(gr:Df K mg "_law_send" lu pSd fSe fdSe)(DF:Df K mg "_law_formula" gT pFo fF fdF)(W:Df K mg "_law_draw" eE pD fD fdD)(DW:Df K mg "_law_worth" fK pW fW fdW)(B:Bl mg) :
  bh P w K mg base CX0 (kk+1) f fd pLd (spLd bs qs (n+1)):=by
 have GD:bh P w K mg base CX0 1 fD fdD pD jR:=jZ W;have GF:bh P w K mg base CX0 5 fF fdF pFo (HS bs qs 3):=HU DF W DW B 3;have ff:bh P w K mg base CX0 5 fSe fdSe pSd (spSd bs qs):=ok_sd gr DF W DW B;refine D.F.ok BA (fun vs H Q E h=>?_) (fun em A outer s H vs Q E hr h=>?_)
 ·obtain⟨p,lt,Z,Y,M,m,d,rfl,_⟩:=h;rfl
 obtain⟨p,lt,Z,Y,M,m,d,rfl,dn,L,T,m0,m1,k⟩:=h;have fw:=FP hr;have r1:cZ 1 _:=hr.mono (by omega);have r5:cZ 5 _:=hr.mono hk;refine⟨_,ai (sN (pv 3) (vt rfl (i9 (df (i:=5) BA.nd rfl (Or.inl rfl)) (i9 (df (i:=6) BA.nd rfl (Or.inl rfl)) rC))))
  (ai (bM (i:=7) BA.nd rfl (Or.inl rfl) (aM GD r1 (by rfl) W.m W.F.kp W.b .nil aY (bN (pv 0) (dA aw aj))))
  (ai (cN ((E7 (bP qI (pv 7) aw (bV _)) (AA ((pe (bP qI (pv 7) aw (bV _)) (nJ (bP (NT fw) (pv 5) (eR aj) (bV _)))).pt))).pt) (aA (bJ (aM ff r5 (by rfl) gr.m gr.F.kp gr.b .nil aY (bN (pv 0) (bN (pv 3) (bN (pv 4) aj)))))) bZ)
  (ai (cN (bP qI (pv 7) aw (bV _)) (aA (bJ (eg (dA cg (rW (bX dQ (pv 5) (aM GD r1 (by rfl) W.m W.F.kp W.b .nil aY (bN (pv 0) (iY (cT (fj K (by rfl)) (by rfl) B.len cy (bN (pv 5) aj)) aj))) (fun _ _=>rfl)) (iY (aM GF r5 (by rfl) DF.m DF.F.kp DF.b .nil aY (bN (pv 0) (dA aw (bN (pv 5) (bN (pv 6) aj))))) aj)))))) bZ)
  (ai (cN (bP eW (pv 7) aw (bV _)) (aA (bJ (eg (dA cg (rW (bX dQ (pv 5) (aM GD r1 (by rfl) W.m W.F.kp W.b .nil aY (bN (pv 0) (iY (cT (fj K (by rfl)) (by rfl) B.len cy (bN (pv 5) aj)) aj))) (fun _ _=>rfl)) (yT (eg (dA cg (qH (cQ gQ aw (aM GD r1 (by rfl) W.m W.F.kp W.b .nil aY (bN (pv 0) (dA aw aj)))) aj))) aj)))))) bZ)
  (ai (cN ((pe (bP eW (pv 7) aw (bV _)) (pe (bP (yA fw) (pv 6) (eR aj) (bV _)) (nJ (bP vx (pv 1) aw (bV _))))).pt) (ai (bM (i:=8) BA.nd rfl (Or.inl rfl) (bX dQ (pv 6) (aM GD r1 (by rfl) W.m W.F.kp W.b .nil aY (bN (pv 0) (iY (cT (fj K (by rfl)) (by rfl) B.len cy (bN (pv 6) aj)) aj))) (fun _ _=>rfl)))
  (aA (bJ (eg (dA cg (bN (pv 8) (rW (bX dQ (pv 5) (aM GD r1 (by rfl) W.m W.F.kp W.b .nil aY (bN (pv 0) (iY (cT (fj K (by rfl)) (by rfl) B.len cy (bN (pv 5) aj)) aj))) (fun _ _=>rfl)) (iY (aM GS hr (by rfl) DS.m DS.F.kp DS.b .nil aY (bN (pv 0) (qH (cQ jN (pv 1) aw) (bN (pv 2) (bN (pv 3) (bN (pv 4) aj)))))) aj)))))))) bZ)
  (ai (cN ((pe (bP eW (pv 7) aw (bV _)) (nJ (bP (yA fw) (pv 6) (eR aj) (bV _)))).pt) (aA (bJ (eg (dA cg (rW (bX dQ (pv 6) (aM GD r1 (by rfl) W.m W.F.kp W.b .nil aY (bN (pv 0) (iY (cT (fj K (by rfl)) (by rfl) B.len cy (bN (pv 6) aj)) aj))) (fun _ _=>rfl)) (iY (aM GF r5 (by rfl) DF.m DF.F.kp DF.b .nil aY (bN (pv 0) (dA aw (bN (pv 5) (bN (pv 6) aj))))) aj)))))) bZ)
  (ai (cN ((pe (bP qI (pv 7) aw (bV _)) (nJ (bP vx (pv 1) aw (bV _)))).pt) (ai (bM (i:=9) BA.nd rfl (Or.inl rfl) (aM GF r5 (by rfl) DF.m DF.F.kp DF.b .nil aY (bN (pv 0) (dA aw (bN (pv 5) (bN (pv 6) aj))))))
  (ai (bM (i:=10) BA.nd rfl (Or.inl rfl) (aM GS hr (by rfl) DS.m DS.F.kp DS.b .nil aY (bN (pv 0) (qH (cQ jN (pv 1) aw) (bN (pv 2) (bN (pv 3) (bN (pv 4) aj)))))))
  (aA (bJ (eg (dA cg (bN (pv 9) (bN (pv 10) (iY (aM GS hr (by rfl) DS.m DS.F.kp DS.b .nil aY (bN (pv 0) (qH (cQ jN (pv 1) aw) (bN (pv 2) (bN (pv 3) (bN (pv 4) aj)))))) aj))))))))) bZ)
  (ai (cN ((pe (bP eW (pv 7) aw (bV _)) (nJ (bP eW (aM GD r1 (by rfl) W.m W.F.kp W.b .nil aY (bN (pv 0) (dA aw aj))) aw (bV _)))).pt) (aA (bJ (eg (dA cg aj)))) bZ)
  (aA (bJ (aM ff r5 (by rfl) gr.m gr.F.kp gr.b .nil aY (bN (pv 0) (bN (pv 3) (bN (pv 4) aj)))))))))))))),?_⟩
 have big:=dZ;have dz:=Kb d;have fG:=T.lb;have gd:=T.lq;refine cb (dy {_,Z9,lt,_,Z9,SqT.of T.ht,Z9,_,_,Z9,bL {_,_,Z9,bL {Z9,?_}}});dsimp only;refine cb (dy {_,Z9,p,12,Z9,L.pu,by decide,by decide,fun pk G ew er ge bG=>bL ?_});dsimp only;have d0:Dr H H p M lt Z Y bs qs:={L,T,Kp.refl _ _};have dG:=d0.but bG ge
 -- a send
 have fz:∀{G:Hp},Dr H G p M lt Z Y bs qs->∀(v:V) (dd:Dd) (H':Hp),OwD bs qs G H' dd v->dd.toOk m->dd.deep=0->dd.size<=1->dO H' p->But p G H'->Q v H':=fun d1 v dd H' hO t e1 e2 eH b'=>k v dd H' (hO.base d1.dm) t (by omega) (by omega) (d1.L.but b' eH) (d1.k.trans (Kp.but b' ax));refine xf (fun g G=>g=[Z8 (.ref p),Z8 (.int d),Z8 (.ref M),Z8 (.ref lt),Z8 (.int m),Z8 (.ref Z),Z8 (.ref Y),Z8 (.int pk),Z7,Z7,Z7]/\(pk<8->0<bs.length)/\Dr H G p M lt Z Y bs qs) ?_ ?_
 rotate_left
 ·intro N hN;refine iA {_,Z9,_,_,Z9,Z9,_,Z9,gp (fun _=>?_) (fun c4=>?_)}
  ·exact ja (fH {_,Z9,_,Z9,_,Z9,p,lt,Z,Y,m,Z9,ge,dG.T,m0,m1,fz dG})
  refine{_,Z9,_,_,Z9,Z9,_,Z9,gp (fun _=>?_) (fun c8=>gf (hN _ _ {Z9,fun z=>absurd (decide_eq_true z) c8,dG}))};refine{_,Z9,by show 0<=aC;omega,fun e0 gn=>?_};have u0:=aD gn (.lst []);have d1:=dG.same u0;refine{Z,e0,_,Z9,Z9,d1.T.hb,ag,_,Z9,gp (fun _=>?_) (fun ne=>hN _ _ {Z9,fun _=>?_,d1})}
  ·exact fH {_,Z9,_,Z9,_,Z9,p,lt,Z,Y,m,Z9,d1.L.pu,d1.T,m0,m1,fz d1}
  ·cases bs with
   |nil=>exact absurd rfl ne
   |cons y ys=>exact p8 _
 rintro _ G1 ⟨rfl,c8,d1⟩;clear dG ge bG
 -- a box, drawn
 have bx:∀{G:Hp} {R:VK},pk<8->Dr H G p M lt Z Y bs qs->(∀(x:Str) (G':Hp),x∈bs->dO G' p->But p G G'->Dr H G' p M lt Z Y bs qs->R (.str x) G')->jR [V.ref p,V.int ((bs.map V.str).length:Int)] G (fun y H2=>Mh K (.ref Z) y H2 R) E0:=fun c J q=>by
  have l0:=c8 c;refine{p,_,Z9,J.L.pu,by rw[aq];omega,by rw[aq];omega,fun r G2 r0 gt gw b2=>?_};rw[aq]at gt;obtain⟨x,hx,mx⟩:=ko r0 gt;have U:=J.but b2 gw;exact{Z,_,_,_,Z9,Z9,SqL.of U.T.hb,hx,q x G2 mx gw b2 U}
 refine cb (iA {_,Z9,_,_,Z9,Z9,_,Z9,gp (fun c6=>?_) (fun _=>?_)})
 ·have c6:pk<6:=of_decide_eq_true c6;refine fH {_,Z9,_,Z9,_,Z9,Z,_,Z9,.inl (SqL.of d1.T.hb),bx (by omega) d1 fun x G2 mx gw b2 J=>?_};refine{_,Z9,_,Z9,_,Z9,p,Z,Y,2,Z9,by decide,gw,J.T.hb,J.T.hq,fG,gd,fun v F G3 hF dF gl b3=>{by show 3<=aC;omega,fun t ht=>?_}};have st:=aD ht (.tup [.str "put",.str x,v]);have U:=(J.but b3 gl).same st;have fI:FmI bs qs G3 v F:={hF,by omega};exact k _ (.put x F) _ (NO ag mx (fI.keepI (dX.same st))) trivial (bO _) dz U.L U.k
 dsimp only[lP];refine cb (iA {_,Z9,Z9,_,Z9,gp (fun c6=>?_) (fun _=>?_)})
 ·have c6:pk=6:=V.int.inj (of_decide_eq_true c6);refine fH {_,Z9,_,Z9,_,Z9,Z,_,Z9,.inl (SqL.of d1.T.hb),bx (by omega) d1 fun x G2 mx gw b2 J=>?_};refine{_,Z9,p,20,Z9,gw,by decide,by decide,fun a G3 a0 a1 gl b3=>{_,_,Z9,Z9,lt2,fun t1 eA=>{by show 3<=aC;omega,fun t ht=>?_}}};have s1:=aD eA (.tup [.str "number",.int (1+a)]);have st:=aD ht (.tup [.str "draw",.str x,.ref t1]);have U:=((J.but b3 gl).same s1).same st;exact k _ (.draw x (.num (1+a))) _ (J3 ag mx {.num (st _ _ ag) (tS (by omega)),by show 1<=15;decide}) trivial (bO _) dz U.L U.k
 dsimp only[lP]
 -- pull
 refine xf (fun g G=>g=[Z8 (.ref p),Z8 (.int d),Z8 (.ref M),Z8 (.ref lt),Z8 (.int m),Z8 (.ref Z),Z8 (.ref Y),Z8 (.int pk),Z7,Z7,Z7]/\Dr H G p M lt Z Y bs qs) ?_ ?_
 rotate_left
 ·intro N hN;refine iA {_,Z9,Z9,_,Z9,gp (fun c7=>?_) (fun _=>gf (hN _ _ ⟨Z9,d1⟩))};have c7:pk=7:=V.int.inj (of_decide_eq_true c7);refine{_,Z9,by show 0<=aC;omega,fun e0 gn=>?_};have u0:=aD gn (.lst []);have J:=d1.same u0;refine{Y,e0,_,Z9,Z9,J.T.hq,ag,_,Z9,gp (fun ne=>?_) (fun _=>gf (hN _ _ ⟨Z9,J⟩))};refine{_,Z9,_,_,Z9,Z9,_,Z9,gp (fun cd=>?_) (fun _=>hN _ _ ⟨Z9,J⟩)};have cd:(d:Int)>0:=of_decide_eq_true cd;obtain⟨e,rfl⟩:∃e,d=e+1:={d-1,by omega};have fx:((e+1:Nat):Int)-1=(e:Int):=by omega
  have l0:=qC ne;rw[aq]at l0;refine cb (dy {_,Z9,_,Z9,_,Z9,Y,_,Z9,.inl (SqL.of J.T.hq),p,_,Z9,J.L.pu,by rw[aq];omega,by rw[aq];omega,fun r G2 r0 gt gw b2=>?_});rw[aq]at gt;obtain⟨y,hy,my⟩:=ko r0 gt;have U:=J.but b2 gw;refine{Y,_,_,_,Z9,Z9,SqL.of U.T.hq,hy,bL ?_};dsimp only;refine fH {_,Z9,_,Z9,_,Z9,_,Z9,Z,_,Z9,.inl (SqL.of U.T.hb),bx (by omega) U fun x G3 mx gl b3 O=>?_};refine{_,Z9,_,Z9,_,_,Z9,Z9,_,Z9,_,Z9,_,Z9,p,lt,Z,Y,M,m,e,(by show [V.ref p,V.int (((e+1:Nat):Int)-1),V.ref M,V.ref lt,V.int m]=_;rw[fx]),by omega,O.L,O.T,m0,m1,fun l1 eL gq G4 ga h1 go O1 t1 eF fa L4 k4=>{by show 4<=aC;omega,fun t ht=>?_}};have st:=aD ht (.tup [.str "pull",.str y,.str x,.ref l1]);have I:=(O.kp k4 L4).same st;refine k _ (.pull y x gq) _ (J6 ag my mx (O.dm l1 ga) (st _ _ h1) go ((O1.base O.dm).keepI (dX.same st))) t1 ?_ ?_ I.L I.k
  ·show gq.deep+1<=e+1;omega
  ·show gq.size+1<=1+6*ddz e;omega
 rintro _ G2 ⟨rfl,J⟩;clear d1
 -- push
 refine xf (fun g G=>g=[Z8 (.ref p),Z8 (.int d),Z8 (.ref M),Z8 (.ref lt),Z8 (.int m),Z8 (.ref Z),Z8 (.ref Y),Z8 (.int pk),Z7,Z7,Z7]/\Dr H G p M lt Z Y bs qs) ?_ ?_
 rotate_left
 ·intro N hN;refine iA {_,Z9,Z9,_,Z9,gp (fun c7=>?_) (fun _=>gf (hN _ _ ⟨Z9,J⟩))};refine{_,Z9,by show 0<=aC;omega,fun e0 gn=>?_};have u0:=aD gn (.lst []);have U:=J.same u0;refine{Y,e0,_,Z9,Z9,U.T.hq,ag,_,Z9,gp (fun ne=>?_) (fun _=>hN _ _ ⟨Z9,U⟩)};have l0:=qC ne;rw[aq]at l0;refine fH {_,Z9,_,Z9,_,Z9,Y,_,Z9,.inl (SqL.of U.T.hq),p,_,Z9,U.L.pu,by rw[aq];omega,by rw[aq];omega,fun r G4 r0 gt gh b4=>?_};rw[aq]at gt;obtain⟨y,hy,my⟩:=ko r0 gt;have O:=U.but b4 gh;refine{Y,_,_,_,Z9,Z9,SqL.of O.T.hq,hy,?_};refine{_,Z9,_,Z9,_,Z9,p,Z,Y,1,Z9,by decide,gh,O.T.hb,O.T.hq,fG,gd,fun v F G5 hF dF gg b5=>{by show 3<=aC;omega,fun t ht=>?_}};have st:=aD ht (.tup [.str "push",.str y,v]);have I:=(O.but b5 gg).same st;have fI:FmI bs qs G5 v F:={hF,by omega};exact k _ (.push y F) _ (J2 ag my (fI.keepI (dX.same st))) trivial (bO _) dz I.L I.k
 rintro _ G3 ⟨rfl,U⟩;clear J
 -- if
 refine xf (fun g G=>g=[Z8 (.ref p),Z8 (.int d),Z8 (.ref M),Z8 (.ref lt),Z8 (.int m),Z8 (.ref Z),Z8 (.ref Y),Z8 (.int pk),Z7,Z7,Z7]/\Dr H G p M lt Z Y bs qs) ?_ ?_
 rotate_left
 ·intro N hN;refine iA {_,Z9,_,_,Z9,Z9,_,Z9,gp (fun c7=>?_) (fun _=>gf (hN _ _ ⟨Z9,U⟩))};refine{_,Z9,_,_,Z9,Z9,_,Z9,gp (fun cd=>?_) (fun _=>hN _ _ ⟨Z9,U⟩)};have cd:(d:Int)>0:=of_decide_eq_true cd;obtain⟨e,rfl⟩:∃e,d=e+1:={d-1,by omega};have fx:((e+1:Nat):Int)-1=(e:Int):=by omega
  have ev:[V.ref p,V.int (((e+1:Nat):Int)-1),V.ref M,V.ref lt,V.int m]=[V.ref p,.int e,.ref M,.ref lt,.int m]:=by rw[fx]
  refine cb (dy {_,Z9,_,Z9,_,Z9,p,Z,Y,2,Z9,by decide,U.L.pu,U.T.hb,U.T.hq,fG,gd,fun vf F G4 hF dF gh b4=>bL ?_});dsimp only;have O:=U.but b4 gh;have fI:FmI bs qs G4 vf F:={hF,by omega};refine cb (dy {_,Z9,_,Z9,_,_,Z9,Z9,_,Z9,_,Z9,_,Z9,p,lt,Z,Y,M,m,e,ev,by omega,O.L,O.T,m0,m1,fun l1 eL gq G5 ga h1 go O1 t1 eF fa L5 k5=>bL ?_});dsimp only;have I:=O.kp k5 L5;refine fH {_,Z9,_,Z9,_,Z9,_,Z9,_,_,Z9,Z9,_,Z9,_,Z9,_,Z9,p,lt,Z,Y,M,m,e,ev,by omega,I.L,I.T,m0,m1,fun l2 et ft G6 ez h2 fk O2 t2 eo ey L6 k6=>{by show 4<=aC;omega,fun t ht=>?_}};have st:=aD ht (.tup [.str "if",vf,.ref l1,.ref l2]);have fe:=k5.keepI O.L.int;have fo:=k6.keepI I.L.int;have d6:=(I.kp k6 L6).same st;refine k _ (.ife F gq ft) _ (NQ ag (fI.keepI ((fe.trans fo).trans (dX.same st))) (O.dm l1 ga) (st _ _ (fo _ _ h1 O1.now.ni)) go ((O1.base O.dm).keepI (fo.trans (dX.same st))) (I.dm l2 ez) (st _ _ h2) fk ((O2.base I.dm).keepI (dX.same st))) ⟨t1,t2⟩ ?_ ?_ d6.L d6.k
  ·show max gq.deep ft.deep+1<=e+1;omega
  ·show gq.size+ft.size+1<=1+6*ddz e;omega
 rintro _ G4 ⟨rfl,O⟩;clear U
 -- end
 refine xf (fun g G=>g=[Z8 (.ref p),Z8 (.int d),Z8 (.ref M),Z8 (.ref lt),Z8 (.int m),Z8 (.ref Z),Z8 (.ref Y),Z8 (.int pk),Z7,Z7,Z7]/\Dr H G p M lt Z Y bs qs) ?_ ?_
 rotate_left
 ·intro N hN;refine iA {_,Z9,Z9,_,Z9,gp (fun c7=>?_) (fun _=>gf (hN _ _ ⟨Z9,O⟩))};refine{_,Z9,p,4,Z9,O.L.pu,by decide,by decide,fun r G5 r0 r4 gg b5=>{Z9,_,Z9,gp (fun _=>?_) (fun _=>hN _ _ {Z9,O.but b5 gg})}};refine fH {Es,fun t ht=>?_};have st:=aD ht (.tup [.str "end"]);have I:=(O.but b5 gg).same st;exact k _ .fin _ (NP ag) trivial (bO _) dz I.L I.k
 rintro _ G5 ⟨rfl,I⟩;exact fH {_,Z9,_,Z9,_,Z9,p,lt,Z,Y,m,Z9,I.L.pu,I.T,m0,m1,fz I}
theorem Kk{n kk:Nat}(hk:1<=kk)(D:Df K mg "_law_deeds" jk pLs f fd)(DE:Df K mg "_law_deed" lA pLd fE fdE)(GE:bh P w K mg base CX0 kk fE fdE pLd (spLd bs qs n))(DD:Df K mg "_law_draw" eE pD fD fdD)(B:Bl mg) :
  bh P w K mg base CX0 (kk+1) f fd pLs (HW bs qs n):=by
 have GD:bh P w K mg base CX0 1 fD fdD pD jR:=jZ DD;refine D.F.ok NU (fun vs H Q E h=>?_) (fun dj A outer s H vs Q E hr h=>?_)
 ·obtain⟨p,lt,lb,lq,Z,m,d,rfl,_⟩:=h;rfl
 obtain⟨p,lt,lb,lq,Z,m,d,rfl,dn,L,T,m0,m1,k⟩:=h;have r1:cZ 1 _:=hr.mono hk;refine⟨_,ai (bM (i:=5) NU.nd rfl (Or.inl rfl) (eR aj))
  (ai (iH cF rfl (ji (by rfl) B.range (iY (aM GD r1 (by rfl) DD.m DD.F.kp DD.b .nil aY (bN (pv 0) (dA aw aj))) aj)) (df (i:=6) NU.nd rfl (Or.inl rfl)) (aA (cN (bP vx (bX dQ (pv 2) aw (fun _ _=>rfl)) aw (bV _)) (ai (sN (cQ jN (bX dQ (pv 2) aw (fun _ _=>rfl)) aw) (yf (pv 2) aw rG))
  (aA (dU (oQ bE dD dE iO (pv 5) (iY (aM GE hr (by rfl) DE.m DE.F.kp DE.b .nil aY (bN (pv 0) (bN (pv 1) (bN (pv 2) (bN (pv 3) (bN (pv 4) aj)))))) aj))))) bZ)))
  (aA (bJ (pv 5)))),?_⟩
 have big:=dZ;have mf:Z∈[p,Z]:=ah _ ax;refine cb (dy {bO _,fun Y M=>bL ?_});have s0:=aD M (.lst []);dsimp only;have n0:Y∉[p,Z]:=fun z=>by
  obtain⟨i,r,e⟩:=L.int Y z;rw[M]at e
  cases e
 have hB:upd H Y (.lst []) Y≠Z7:=by
  rw[ag];intro z
  cases z
 refine cb {_,Z9,p,4,Z9,L.pu.same s0,by decide,by decide,fun r G r0 dk dl bG=>{r,Z9,by omega,by omega,?_}};have LG:=(L.same s0).but bG dl;have kG:Kp [p,Z] H G:=(Kp.same s0).trans (LG.kp' bG);have kB:Kp [p,Z] (upd H Y (.lst [])) G:=LG.kp' bG;have dt:G Y=Z8 (.lst []):=bG _ _ ag (fun z=>n0 (by rw[z];exact ax));refine qv (n:=r.toNat) (fun i σ G'=>∃(v6:Option V),σ=[Z8 (.ref p),Z8 (.int d),Z8 (.ref Z),Z8 (.ref lt),Z8 (.int m),Z8 (.ref Y),v6]/\i<=3/\Gro bs qs m d (ddz d) (upd H Y (.lst [])) G' Y i/\Lf G' p Z/\Kp [p,Z] H G'/\Dm (upd H Y (.lst [])) G')
  {_,Z9,by decide,{[],.nil,dt,aB _,Ka,trivial,bO _,bO _},LG,kG,kB.dm LG.there} ?_ ?_
 ·rintro i σ G1 hi ⟨v6,rfl,i2,gr,J,k1,g⟩;obtain⟨c0,hc⟩:=J.hl;refine iA ?_;refine{_,Z9,Z,_,_,_,Z9,Z9,SqL.of hc,Z9,_,_,Z9,Z9,_,Z9,?_};refine gp (fun _=>?_) (fun _=>?_)
  ·refine cb (dy {_,Z9,Z,_,_,_,Z9,Z9,SqL.of hc,Z9,_,_,Z9,Z9,_,Z9,Z,_,_,0,Z9,Z9,hc,Z9,?_});dsimp only;have W:Lf (upd G1 Z (.lst ([V.int c0].set 0 (.int (c0-1))))) p Z:={tR J.pu J.ne,c0-1,ag};have k2:Kp [p,Z] G1 (upd G1 Z (.lst ([V.int c0].set 0 (.int (c0-1))))):=Kp.upd mf;have I:=gr.keepI (k2.keepI J.int);have O:=g.trans (k2.dm W.there);have k2:=k1.trans k2;revert O I k2 W;generalize upd G1 Z (.lst ([V.int c0].set 0 (.int (c0-1))))=G2;intro W I O k2;obtain⟨xs,ds,h1,h2,h3,h4,h5,h6⟩:=I.ex;have T2:=T.keepI (k2.keepI L.int);refine{_,Z9,.inl {Z9,_,SqL.of h1},_,Z9,_,Z9,_,Z9,_,Z9,_,Z9,p,lt,lb,lq,Z,m,d,Z9,dn,W,T2,m0,m1,fun v dd G3 hO t dp dq L3 U=>?_};refine{Y,xs,v,Z9,Z9,U _ _ h1 n0,by omega,?_};refine{_,Z9,by omega,Gro.step n0 W U hB O h1 h2 h3 h4 h5 h6 hO t dp dq,L3.put n0,fun b o eb nb=>aP ((k2.trans U) b o eb nb) (av eb M),fun a na=>?_}
   by_cases ca:a=Y
   ·rw[ca,ag]at na
    cases na
   ·rw[aJ ca]at na;exact O a (U.dm L3.there a na)
  ·exact{_,Z9,by omega,gr.up,J,k1,g}
 ·rintro σ G1 ⟨v6,rfl,i2,gr,J,k1,g⟩;obtain⟨xs,ds,h1,h2,h3,h4,h5,h6⟩:=gr.ex;dsimp only;refine fH {_,Z9,k Y xs ds G1 M h1 (by omega) (h3.base (Dm.same s0)) h4 h5 ?_ J k1};have:r.toNat*ddz d<=3*ddz d:=kM _ i2;omega
theorem Ly(D:Df K mg "_law_deeds" jk pLs f fd)(Y:Df K mg "_law_deed" lA pLd fE fdE)(Z:Df K mg "_law_send" lu pSd fSe fdSe)(U:Df K mg "_law_formula" gT pFo fF fdF)(W:Df K mg "_law_draw" eE pD fD fdD)(V:Df K mg "_law_worth" fK pW fW fdW)(B:Bl mg):∀n:Nat,bh P w K mg base CX0 (5+2*n) f fd pLs (HW bs qs n)
 |0=>⟨fun vs H Q E h=>by
   obtain⟨p,lt,M,O,J,m,d,_,h,_⟩:=h;omega,fun A outer s H args us vs Q E _ _ _ _ h=>by
   obtain⟨p,lt,M,O,J,m,d,_,h,_⟩:=h;omega⟩
 |n+1=>Kk (kk:=5+2*n+1) (by omega) D Y (Kj (by omega) Y D (Ly D Y Z U W V B n) Z U W V B) W B
end
theorem MIn.but{m:Int}{H H' H1:Hp}{p:aa}{v:V}{M:MD}(Z:dO H p)(Y:dO H' p)(b:But p H' H1)(h:MIn m H H' v M):MIn m H H1 v M:=by
 obtain⟨t,e,h⟩:=h;exact{t,e,h.but Z Y b}
theorem MIn.old{m:Int}{B G:Hp}{a:aa}{o:HO}{v:V}{M:MD}(O:B a≠Z7)(W:∀xs,G a≠Z8 (.tup xs))(h:MIn m B G v M):MIn m B (upd G a o) v M:=by
 obtain⟨t,e,⟨bl,g,dl,hl,vb,hv,h1,h2,I,h4,h5,h6,h7,Z,Y,J,U⟩,kb,D,H,lb,lq,ld,lh,wb,hk⟩:=h;have ne:∀{b:aa},B b=Z7->b≠a:=fun n z=>O (z ▸ n);have tk:∀(b:aa) (xs:List V),G b=Z8 (.tup xs)->upd G a o b=Z8 (.tup xs):=fun b xs e=>aP e fun z=>W xs (z ▸ e);exact{t,e,{bl,g,dl,hl,vb,hv,tk _ _ h1,aP h2 (ne Z),gO.tups tk I,aP h4 (ne Y),aP h5 (ne J),aP h6 (ne U),Paired.mono (fun _ _ z=>z.old O W) h7,Z,Y,J,U},kb,D,H,lb,lq,ld,lh,wb,hk}
theorem yW{bs:List Str}{i:Nat}{x:V}(hi:(bs.map V.str)[i]?=Z8 x):∃o,bs[i]?=Z8 o/\x=.str o:=by
 rw[cm]at hi;obtain⟨o,Z,rfl⟩:=fh.mp hi;exact⟨o,Z,Z9⟩
section
variable{P:aL}{w:bA}{K:af}{mg:Str->Option ae}{base:cu}{f fD fW fN fS:aa}{fd fdD fdW fdN fdS:bS}
seal PS PSs PE PA PT PW PI PG PGs PC
abbrev nMs:List Str:=["_law_purse_here","_law_many","_law_found","_law_name_here","_law_boxes","_law_queues","_law_draws","_law_hears","_law_sign_here"]
abbrev pMs:List Str:=["_law_purse_here"]
theorem yX:bK nMs pMs (aN hW):={}
theorem ndMs:((["_law_k"]:List Str)++nMs).Nodup:=by decide +kernel
theorem ndMs2:((["_law_box"]:List Str)++nMs).Nodup:=by decide +kernel
inductive Lz(vs:List V)(H:Hp)(Q:VK)(_e:XK):Prop where
 |mk(p:aa)(_:vs=[.ref p])(_:dO H p)(_:∀(ml:aa) (xs:List V) (Ms:List MD) (H':Hp),H' ml=Z8 (.lst xs)->aH (MIn Ms.length H H') xs Ms->0<Ms.length->Ms.length<=6->ml≠p->dO H' p->But p H H'->Q (.ref ml) H'):Lz vs H Q _e
def spMs:Sp:=fun vs H Q Z=>Lz vs H Q Z
theorem ok_ms(D:Df K mg "_law_machines" hW pMs f fd)(DN:Df K mg "_law_names" j9 pN fN fdN)(lr:bh P w K mg base CX0 3 fN fdN pN C8)(DS:Df K mg "_law_deeds" jk pLs fS fdS)(hM:∀bs qs,bh P w K mg base CX0 13 fS fdS pLs (HW bs qs 4))(Y:Df K mg "_law_draw" eE pD fD fdD)(DW:Df K mg "_law_worth" fK pW fW fdW)(B:Bl mg):bh P w K mg base CX0 14 f fd pMs spMs:=by
 have GD:bh P w K mg base CX0 1 fD fdD pD jR:=jZ Y;have GW:bh P w K mg base CX0 2 fW fdW pW vh:=wG DW Y B;have GS:=bh.some (ι:=List Str×List Str) (sp:=fun q=>HW q.1 q.2 4) (F:=fun q=>hM q.1 q.2);refine D.F.ok yX (fun vs H Q E h=>?_) (fun hC A outer s H vs Q E hr h=>?_)
 ·obtain⟨p,rfl,_⟩:=h;rfl
 obtain⟨p,rfl,pu,k⟩:=h;have r1:cZ 1 _:=hr.mono (by decide);have r2:cZ 2 _:=hr.mono (by decide);have r3:cZ 3 _:=hr.mono (by decide);have hS:cZ 13 _:=hr;refine⟨_,ai (bM (i:=1) yX.nd rfl (Or.inl rfl) (cQ gQ aw (aM GD r1 (by rfl) Y.m Y.F.kp Y.b .nil aY (bN (pv 0) (rW (bX dQ (eR (dA aw (dA aw aj))) (fg kN (by rfl) B.int boot_int (ak (nV eW (aM GD r1 (by rfl) Y.m Y.F.kp Y.b .nil aY (bN (pv 0) (dA aw aj))) aw (bV _)) aj)) (fun _ _=>rfl)) aj)))))
  (ai (bM (i:=2) yX.nd rfl (Or.inl rfl) (eR aj))
  (ai (iH cF rfl (g9 (aM lr r3 (by rfl) DN.m DN.F.kp DN.b .nil aY (bN (pv 0) (bN (pv 1) (dA aw aj))))) (df (i:=3) yX.nd rfl (Or.inl rfl)) (ai (bM (i:=4) yX.nd rfl (Or.inl rfl) (aM lr r3 (by rfl) DN.m DN.F.kp DN.b .nil aY (bN (pv 0) (iY (aM GD r1 (by rfl) Y.m Y.F.kp Y.b .nil aY (bN (pv 0) (dA aw aj))) (dA aw aj)))))
  (ai (bM (i:=5) yX.nd rfl (Or.inl rfl) (aM lr r3 (by rfl) DN.m DN.F.kp DN.b .nil aY (bN (pv 0) (iY (aM GD r1 (by rfl) Y.m Y.F.kp Y.b .nil aY (bN (pv 0) (dA aw aj))) (dA aw aj)))))
  (ai (yw (i:=6) ["_law_k"] (iC.open (NN:=nMs) (N:=nMs) (sc:=aN hW) rfl rfl (by decide +kernel) rfl (by decide +kernel) (by decide +kernel) rfl (by decide +kernel)) rfl yX.nd rfl (Or.inl rfl) (ji (by rfl) B.range (iY (aM GD r1 (by rfl) Y.m Y.F.kp Y.b .nil aY (bN (pv 0) (rW (bX dQ (eR (dA aw (dA aw aj))) (fg kN (by rfl) B.int boot_int (ak (nV eW (aM GD r1 (by rfl) Y.m Y.F.kp Y.b .nil aY (bN (pv 0) (dA aw aj))) aw (bV _)) aj)) (fun _ _=>rfl)) aj))) aj)) (fun _ _ _ _=>df (i:=0) ndMs rfl (Or.inl rfl)) (fun _ _ _ _=>jW) (fun _ _ _ _=>aM GD r1 (by rfl) Y.m Y.F.kp Y.b .nil aY (bN (pv 1) (dA aw aj))))
  (ai (bM (i:=7) yX.nd rfl (Or.inl rfl) (eR aj))
  (ai (iH cF rfl (g9 (rE uK (eR (dA cg (dA cg (dA cg aj)))) uI (uJ (cQ gQ aw (aM GD r1 (by rfl) Y.m Y.F.kp Y.b .nil aY (bN (pv 0) (dA aw aj))))))) (df (i:=8) yX.nd rfl (Or.inl rfl)) (aA (dU (oQ bE dD dE iO (pv 7) (yT (eg (bN (pv 8) (iY (aM GS hS (by rfl) DS.m DS.F.kp DS.b .nil aY (bN (pv 0) (dA aw (NM (eR (dA aw aj)) (yT (eg (bN (pv 4) (bN (pv 5) aj))) (bN (pv 1) aj)))))) aj))) aj) (hs:=Ae)))))
  (aA (dU (oQ bE dD dE iO (pv 2) (yT (eg (bN (pv 3) (ak (lS ["_law_box"] (iC.open (NN:=nMs) (N:=nMs) (sc:=aN hW) rfl rfl (by decide +kernel) rfl (by decide +kernel) (by decide +kernel) rfl (by decide +kernel)) rfl (g9 (pv 4)) (fun _ _ _ _=>df (i:=0) ndMs2 rfl (Or.inl rfl)) (fun _ _ _ _=>jW) (fun _ _ _ _=>eg (bN (pv 0) (iY (aM GW r2 (by rfl) DW.m DW.F.kp DW.b .nil aY (bN (pv 1) aj)) aj)))) (bN (pv 5) (bN (pv 6) (bN (pv 7) aj)))))) aj) (hs:=Ae))))))))))
  (aA (bJ (pv 2))))),?_⟩
 have big:=dZ;refine cb (dy {_,Z9,lt2,fun l0 nu=>?_});have s0:=aD nu (.lst [.int 4,.int 6]);refine{_,Z9,p,8,Z9,pu.same s0,by decide,by decide,fun r G r0 r8 U bG=>{Z9,.inr {_,Z9,l0,_,_,_,Z9,Z9,SqL.of (bG _ _ ag (rg pu nu)),tT,?_}}};obtain⟨mm,em,mn⟩:∃m:Int,(if decide (V.int r=V.int 7)=true then V.int 6 else V.int 4)=.int m/\(0<m/\m<=6):=by
  by_cases c:V.int r=V.int 7
  ·rw[decide_eq_true c];exact{6,Z9,by decide}
  ·rw[decide_eq_false c];exact{4,Z9,by decide}
 rw[em];refine{p,mm,Z9,U,mn.1,by omega,fun x G1 x0 x1 mM b1=>{_,_,Z9,Z9,bL ?_}};obtain⟨m,hm,m0,m6⟩:∃m:Nat,1+x=(m:Int)/\0<m/\m<=6:={(1+x).toNat,by omega,by omega,by omega};dsimp only;rw[hm];have b1:But p H G1:=((But.same (But.refl p H) s0).trans bG).trans b1;clear bG U s0 nu;refine cb (dy {bO _,fun fl ly=>bL ?_});have sf:=aD ly (.lst []);dsimp only;have mS:=mM.same sf;have b2:=b1.same sf;have mF:upd G1 fl (.lst []) fl=Z8 (.lst []):=ag;have nf:fl≠p:=rg mM ly;have ii:H fl=Z7:=b1.dm mM fl ly;revert mS b2 mF;generalize upd G1 fl (.lst [])=G2;intro mS b2 mF;have ma:G2 fl≠Z7:=fun z=>by
  rw[mF]at z
  cases z
 refine cb {_,Z9,_,Z9,p,m,0,Z9,mS,by omega,by omega,fun ln ss G3 ih na lk nd lp b3=>{ln,Z9,{_,SqL.of na},?_}};have ka:ln≠p:=rY lp na;have ix:ln≠fl:=fun z=>ma (z ▸ ih);refine iI (K:=K) (a:=ln) (xs:=ss.map V.str) (fun i σ G=>∃(u3 u4 u5 u6 u7 u8:Option V) (xs:List V) (Ms:List MD),σ=[Z8 (.ref p),Z8 (.int m),Z8 (.ref fl),u3,u4,u5,u6,u7,u8]/\G ln=Z8 (.lst (ss.map V.str))/\G fl=Z8 (.lst xs)/\aH (MIn m G2 G) xs Ms/\Ms.length=i/\dO G p/\Kp [p,fl] G2 G)
  {_,_,_,_,_,_,[],[],Z9,na,b3 _ _ mF nf,.nil,Z9,lp,Kp.but b3 ax} ?_ ?_ ?_
 ·rintro i σ G _ ⟨_,_,_,_,_,_,_,_,rfl,h,_⟩;exact SqL.of h
 ·rintro i v σ G hi ⟨u3,u4,u5,u6,u7,u8,xs,Ms,rfl,hG,mL,pM,lM,U,kG⟩;obtain⟨nm,kd,rfl⟩:=yW hi;have il:=(aF.mp kd).1;refine bL ?_;dsimp only
  -- the boxes' names, the queues
  refine cb (dy {_,Z9,_,Z9,p,4,Z9,U,by decide,by decide,fun r Ga r0 r4 mG ba=>?_});obtain⟨r,rfl⟩:∃n:Nat,r=(n:Int):={r.toNat,by omega};refine{p,r,0,Z9,mG,by omega,by omega,fun lb bs Gb hA mu hF hX lx bb=>bL ?_};dsimp only;have im:But p G Gb:=ba.trans bb;have nP:lb≠p:=rY lx mu;refine cb (dy {_,Z9,_,Z9,p,3,Z9,lx,by decide,by decide,fun r' Gc hB hE ls bc=>?_});obtain⟨r',rfl⟩:∃n:Nat,r'=(n:Int):={r'.toNat,by omega};refine{p,r',8,Z9,ls,by omega,by omega,fun lq qs Gd hN nM hH kh nw bd=>bL ?_};dsimp only;have li:But p G Gc:=im.trans bc;have my:But p G Gd:=li.trans bd;have nl:lq≠p:=rY nw nM;have iF:G lq=Z7:=li.dm ls lq hN;have nr:=bd _ _ (bc _ _ mu nP) nP;clear ba bb bc bd mG lx ls
  -- the draws
  refine cb (dy ?_);refine tQ (fun n G'=>n<21/\dO G' p/\But p Gd G') (fun R hR=>{_,Z9,lt2,fun l0 nu=>?_}) (fun n G' h=>by have:=h.1;omega) (fun n _ i ys G'=>∃ds:List Int,ys=ds.map V.int/\ds.length=i/\dO G' p/\But p Gd G') (fun n G' h=>{[],Z9,Z9,h.2.1,h.2.2}) ?_ ?_ ?_
  ·have s0:=aD nu (.lst [.int 4,.int 21]);refine{_,Z9,p,6,Z9,nw.same s0,by decide,by decide,fun r G r0 r8 U bG=>{Z9,.inr {_,Z9,l0,_,_,_,Z9,Z9,SqL.of (bG _ _ ag (rg nw nu)),tT,?_}}};obtain⟨mm,em,mn⟩:∃m:Int,(if decide (V.int r=V.int 5)=true then V.int 21 else V.int 4)=.int m/\(0<m/\m<=21):=by
    by_cases c:V.int r=V.int 5
    ·rw[decide_eq_true c];exact{21,Z9,by decide}
    ·rw[decide_eq_false c];exact{4,Z9,by decide}
   rw[em];refine{p,mm,Z9,U,mn.1,by omega,fun x G1 x0 x1 mM b1=>?_};obtain⟨n,rfl⟩:∃n:Nat,x=(n:Int):={x.toNat,by omega};exact hR n G1 {by omega,mM,((But.same (But.refl p Gd) s0).trans bG).trans b1}
  ·rintro n G0 h i ys G' hi ⟨ds,rfl,h1,_⟩;rw[aq];have:=h.1;omega
  ·rintro n G0 h i ys G' hi ⟨ds,rfl,h1,pu,b⟩;refine{Z9,?_};unfold w5;refine ja ?_;refine{_,Z9,p,100,Z9,pu,by decide,by decide,fun x Ga x0 x1 mG ba=>?_};exact{ds++[x],by rw[bT];rfl,by rw[ay,h1];rfl,mG,b.trans ba}
  rintro n G0 hn ys Ge ⟨ds,rfl,hI,nD,be⟩ dl hdl;have ld:ds.length<=100:=by have:=hn.1;omega
  have nz:=aD hdl (.lst (ds.map V.int));refine bL ?_;dsimp only;have ke:G dl=Z7:=my.dm nw dl (be.dm nD dl hdl);have lg:dl≠p:=rg nD hdl
  -- what it hears
  refine cb (dy {bO _,fun Z g=>bL ?_});have mb:=aD g (.lst []);have sD:=nz.trans mb;dsimp only;have lj:G Z=Z7:=my.dm nw Z (be.dm nD Z (none_of nz g));have no:=nD.same sD;have bF:But p G (upd (upd Ge dl (.lst (ds.map V.int))) Z (.lst [])):=(my.trans be).same sD;have nO:=sD _ _ (be _ _ nr nP);have nH:=sD _ _ (be _ _ nM nl);have nq:=mb _ _ (jC hdl (.lst (ds.map V.int)));have I:=jC g (.lst []);have nn:Z≠p:=rg (nD.same nz) g;have nh:lb≠Z/\lq≠Z/\dl≠Z:={av (nz _ _ (be _ _ nr nP)) g,av (nz _ _ (be _ _ nM nl)) g,av (jC hdl _) g};revert no bF nO nH nq I;clear sD mb nz hdl g be nD nr nM my nw hn;generalize upd (upd Ge dl (.lst (ds.map V.int))) Z (.lst [])=GF;intro no bF nO nH nq I;have ky:GF Z≠Z7:=fun z=>by
   rw[I]at z
   cases z
  -- its signs
  refine cb {by show 3<=aC;omega,fun l3 mc=>?_};have s3:=aD mc (.lst [.str "go",.str "on",.str "stop"]);refine{_,Z9,p,3,Z9,no.same s3,by decide,by decide,fun r Gg r0 r3 ml bg=>{_,_,Z9,Z9,_,Z9,l3,_,Z9,SqL.of (bg _ _ ag (rg no mc)),fun sl nc=>?_}};obtain⟨zs,lz,eq⟩:∃zs:List Str,zs.length<=3/\lI [V.str "go",.str "on",.str "stop"] Z7 (Z8 (1+r))=zs.map V.str:=by
   have cs:r=0\/r=1\/r=2:=by omega
   rcases cs with rfl|rfl|rfl
   ·exact{["go"],by decide,Z9}
   ·exact{["go","on"],by decide,Z9}
   ·exact{["go","on","stop"],by decide,Z9}
  rw[eq];have mD:=aD nc (.lst (zs.map V.str));have mx:=((But.refl p GF).same s3).trans bg;have kq:sl≠p:=rg ml nc;have kr:sl≠Z:=(av (mx _ _ I nn) nc).symm;have md:=ml.same mD;have kI:Kp [p,Z] GF (upd Gg sl (.lst (zs.map V.str))):=(Kp.but (mx) ax).trans (Kp.same mD);have nt:=mD _ _ (mx _ _ I nn);have nK:=jC nc (.lst (zs.map V.str));revert md kI nt nK;clear mD nc eq mx bg ml s3 mc;generalize upd Gg sl (.lst (zs.map V.str))=GI;intro md kI nt nK;have nB:∀{a:aa},a≠p->a≠Z->a∉[p,Z]:=fun n1 n2 z=>by
   simp only[ar,aI,or_false]at z;exact z.elim n1 n2
  have kt:∀{G':Hp},dO G' p->(∃o,G' Z=Z8 o)->∀a∈[p,Z],∃o,G' a=Z8 o:=fun pu h a z=>by
   simp only[ar,aI,or_false]at z
   rcases z with rfl|rfl
   ·obtain⟨x,y,e⟩:=pu;exact{_,e}
   ·exact h
  refine{sl,Z9,{_,SqL.of nK},?_};refine iI (K:=K) (a:=sl) (xs:=zs.map V.str) (fun j σ G'=>∃(u8:Option V) (hv:List V) (hs:List (Str×Ds)),σ=[Z8 (.ref p),Z8 (.int m),Z8 (.ref fl),Z8 (.str nm),Z8 (.ref lb),Z8 (.ref lq),Z8 (.ref dl),Z8 (.ref Z),u8]/\G' sl=Z8 (.lst (zs.map V.str))/\G' Z=Z8 (.lst hv)/\aH (HsO bs qs GF G') hv hs/\hs.length=j/\(∀q∈hs,q.2.toOk m/\q.2.deep<=4/\q.2.size<=3*ddz 4)/\dO G' p/\Kp [p,Z] GF G')
   {_,[],[],Z9,nK,nt,.nil,Z9,(fun q hq=>by cases hq),md,kI} ?_ ?_ ?_
  ·rintro j σ G' _ ⟨_,_,_,rfl,h,_⟩;exact SqL.of h
  ·rintro j v σ G' hj ⟨u8,hv,hs,rfl,mr,J,mz,lv,mf,W,O⟩;obtain⟨sg,kc,rfl⟩:=yW hj;have jl:=(aF.mp kc).1;have hz:=aV mz;have mt:Dm GF G':=O.dm (kt W {_,J});refine bL ?_;dsimp only;refine{_,Z9,.inl {Z9,_,SqL.of J},_,Z9,_,Z9,Es,fun lf la=>{_,Z9,_,Z9,lt2,fun lt io=>{_,Z9,?_}}};have hP:=aD la (.lst [.int 12]);have kw:=aD io (.tup [.ref lb,.ref lq]);have s2:=hP.trans kw;have L:Lf (upd (upd G' lf (.lst [.int 12])) lt (.tup [.ref lb,.ref lq])) p lf:={W.same s2,12,kw _ _ ag};have T:Th (upd (upd G' lf (.lst [.int 12])) lt (.tup [.ref lb,.ref lq])) lt lb lq bs qs:={ag,s2 _ _ (O _ _ nO (nB nP nh.1)),s2 _ _ (O _ _ nH (nB nl nh.2.1)),by omega,by omega};refine{(bs,qs),p,lt,lb,lq,lf,m,3,Z9,by decide,L,T,by omega,by omega,fun l ys dd Gk kl h1 hK O1 t1 hY ku Lk kk=>{lt2,fun t ht=>?_}};have st:=aD ht (.tup [.str sg,.ref l])
   -- all but the purse stays
   have kp:Kp [p] G' Gk:=fun b o e nb=>kk _ _ (s2 _ _ e) fun z=>by
    simp only[ar,aI,or_false]at z
    rcases z with z|z
    ·exact nb (by simp[z])
    ·rw[z,la]at e
     cases e
   have ki:dX G' Gk:=kp.keepI fun a ha=>by
    obtain⟨x,y,e⟩:=W;rw[aE.mp ha];exact{x,_,e}
   have lc:=kp _ _ J (by simpa using nn);have mo:=st _ _ lc;refine{Z,hv,.ref t,Z9,Z9,mo,by omega,?_};have lm:∀ys,upd Gk t (.tup [.str sg,.ref l]) Z≠Z8 (.tup ys):=fun ys z=>by
    rw[mo]at z
    cases z
   have nE:Dm G' (upd (upd G' lf (.lst [.int 12])) lt (.tup [.ref lb,.ref lq])):=Dm.same s2;have new:HsO bs qs GF (upd Gk t (.tup [.str sg,.ref l])) (.ref t) (sg,dd):={t,l,ys,Z9,ag,mt l (nE l kl),st _ _ h1,by omega,(O1.base (mt.trans nE)).keepI (dX.same st)};refine{_,hv++[.ref t],hs++[(sg,dd)],Z9,aP (st _ _ (kp _ _ mr (by simpa using kq))) kr,ag,?_,by rw[ay,lv];rfl,fun q hq=>?_,tR (Lk.pu.same st) nn,fun b o' e nb=>?_}
   ·exact eJ (Paired.mono (fun v q z=>(z.keepI (ki.trans (dX.same st))).old ky lm) mz) (new.old ky lm)
   ·rcases cv.mp hq with z|z
    ·exact mf q z
    ·rw[aE.mp z];exact{t1,cY hY (by decide),cY ku (by decide)}
   ·have hL:b≠Z:=fun z=>nb (by simp[z]);rw[aJ hL];exact st _ _ (kp _ _ (O _ _ e nb) fun z=>nb (by simp only[aE]at z;simp[z]))
  ·rintro σ G' ⟨u8,hv,hs,rfl,mr,J,mz,lv,mf,W,O⟩;dsimp only;rw[aq]at lv;have lw:But p G G':=fun b o e nb=>O _ _ (bF _ _ e nb) (nB nb (av e lj));have kB:=lw _ _ mL nf;have mW:=O _ _ nO (nB nP nh.1);have hD:=aV pM;rw[lk]at il;refine{_,Z9,.inl {Z9,_,SqL.of kB},_,Z9,?_};refine wF (K:=K) (a:=lb) (xs:=bs.map V.str) (fun R h=>{_,Z9,h}) (SqL.of mW) (fun j ys Gx=>∃ps:List (Str×Int),gO Gx ps ys/\ps.map (·.1)=bs.take j/\(∀q∈ps,Wo q.2)/\dO Gx p/\But p G' Gx) {[],.nil,Z9,(fun q hq=>by cases hq),W,But.refl _ _} ?_ ?_ ?_
   ·rintro j ys Gx hj ⟨ps,h5,h6,h7,h8,h9⟩;have l5:=h5.length;have l6:=congrArg jq h6;rw[aq,cK]at l6;exact{SqL.of (h9 _ _ mW nP),by omega}
   ·rintro j v ys Gx hj ⟨ps,h5,h6,h7,h8,h9⟩;obtain⟨o,ho,rfl⟩:=yW hj;refine{Z9,?_};unfold w5;refine ja ?_;refine{_,Z9,_,Z9,p,Z9,h8,fun x Gy x0 x1 hQ kv=>{lt2,fun t ht=>?_}};have st:=aD ht (.tup [.str o,.int x]);refine{ps++[(o,x)],?_,?_,fun q hq=>?_,hQ.same st,(h9.trans kv).same st}
    ·unfold gO;rw[bT];exact eJ (gO.tups (fun t xs e=>st _ _ (dX.but h8 kv _ _ e (oF xs))) h5) ⟨t,Z9,ag⟩
    ·rw[bT,h6,d9,ho];rfl
    ·rcases cv.mp hq with z|z
     ·exact h7 q z
     ·rw[aE.mp z];exact⟨x0,x1⟩
   rintro vb Gx ⟨ps,kn,kb,wb,ll,bx⟩ bl lh;rw[aq,dS]at kb;have js:=aD lh (.lst vb);refine{_,Z9,_,Z9,_,Z9,by show 5<=aC;omega,fun t ht=>?_};have st:=aD ht (.tup [.str nm,.ref bl,.ref lq,.ref dl,.ref Z]);have sZ:=js.trans st;have bz:=bx.same sZ;have mv:=lw.trans bz;have jp:=(dX.but W bx).trans (dX.same sZ);have hO:G bl=Z7:=lw.dm W bl (bx.dm ll bl lh);have iv:Dm G GF:=bF.dm no;have hT:Mch m G (upd (upd Gx bl (.lst vb)) t (.tup [.str nm,.ref bl,.ref lq,.ref dl,.ref Z])) t nm bs qs ds hs ps:={{bl,lq,dl,Z,vb,hv,ag,st _ _ ag,gO.same sZ kn,bz _ _ (O _ _ nH (nB nl nh.2.1)) nl,bz _ _ (O _ _ nq (nB lg nh.2.2)) lg,bz _ _ J nn,Paired.mono (fun v q z=>(z.keepI jp).base iv) mz,hO,iF,ke,lj},kb,hX,kh,by omega,by omega,ld,by omega,wb,mf};have mq:=mv _ _ mL nf;have kz:∀ys,upd (upd Gx bl (.lst vb)) t (.tup [.str nm,.ref bl,.ref lq,.ref dl,.ref Z]) fl≠Z8 (.tup ys):=fun ys z=>by
    rw[mq]at z
    cases z
   have nE:Dm G2 G:=kG.dm fun a z=>by
    simp only[ar,aI,or_false]at z
    rcases z with rfl|rfl
    ·obtain⟨x,y,e⟩:=U;exact{_,e}
    ·exact{_,mL}
   refine{fl,xs,.ref t,Z9,Z9,mq,by omega,?_};refine{_,_,_,_,_,_,xs++[.ref t],Ms++[⟨nm,bs,qs,ds,hs,ps⟩],Z9,aP (mv _ _ hG ka) ix,ag,?_,by rw[ay,lM];rfl,tR (ll.same sZ) nf,fun b o e nb=>?_}
   ·exact eJ (Paired.mono (fun v M z=>(z.but mS U mv).old ma kz) pM) (MIn.old ma kz {t,Z9,hT.base nE})
   ·have n1:b≠fl:=fun z=>nb (by simp[z]);have n2:b≠p:=fun z=>nb (by simp[z]);rw[aJ n1];exact mv _ _ (kG _ _ e nb) n2
 ·rintro σ G ⟨u3,u4,u5,u6,u7,u8,xs,Ms,rfl,hG,mL,pM,lM,U,kG⟩;dsimp only;rw[aq,lk]at lM;have bH:But p H G:=fun b o e nb=>kG _ _ (b2 _ _ e nb) fun z=>by
   simp only[ar,aI,or_false]at z;exact z.elim nb (av e ii)
  have nE:Dm H G2:=b2.dm mS;exact fH {_,Z9,k fl xs Ms G mL (by rw[lM];exact Paired.mono (fun v M ⟨t,e,z⟩=>{t,e,z.base nE}) pM) (by omega) (by omega) nf U bH}
end
theorem Kl{r:Int}(h0:0<=r)(h1:r<4):∃x:Str,atI [V.str "go",.str "on",.str "stop",.str "odd"] r=Z8 (.str x):=by
 obtain⟨x,hx,_⟩:=ko (bs:=["go","on","stop","odd"]) h0 h1;exact⟨x,hx⟩
section
variable{P:aL}{w:bA}{K:af}{mg:Str->Option ae}{base:cu}{f fD fW fSg:aa}{fd fdD fdW fdSg:bS}
seal PS PSs PE PA PT PW PI PG PGs PC
abbrev nSg:List Str:=["_law_purse_here","_law_many","_law_time","_law_rank","_law_to","_law_sign_here"]
abbrev pSg:List Str:=["_law_purse_here","_law_many"]
theorem HX:bK nSg pSg (aN oz):={}
inductive LA(vs:List V)(H:Hp)(Q:VK)(_e:XK):Prop where
 |mk(p:aa)(m:Nat)(_:vs=[.ref p,.int m])(_:dO H p)(_:0<m)(_:m<1000)(_:∀(v:V) (e:Ev) (H':Hp),xc H' v e->z9 m e->dO H' p->But p H H'->Q v H'):LA vs H Q _e
def spSg:Sp:=fun vs H Q Z=>LA vs H Q Z
theorem ok_sg(D:Df K mg "_law_sign" oz pSg f fd)(Z:Df K mg "_law_draw" eE pD fD fdD)(Y:Df K mg "_law_worth" fK pW fW fdW)(B:Bl mg):bh P w K mg base CX0 3 f fd pSg spSg:=by
 have U:bh P w K mg base CX0 1 fD fdD pD jR:=jZ Z;have GW:bh P w K mg base CX0 2 fW fdW pW vh:=wG Y Z B;refine D.F.ok HX (fun vs H Q E h=>?_) (fun dj A outer s H vs Q E hr h=>?_)
 ·obtain⟨p,m,rfl,_⟩:=h;rfl
 obtain⟨p,m,rfl,pu,m0,m1,k⟩:=h;have M:cZ 1 _:=hr.mono (by decide);have r2:cZ 2 _:=hr;refine⟨_,ai (bM (i:=2) HX.nd rfl (Or.inl rfl) (aM U M (by rfl) Z.m Z.F.kp Z.b .nil aY (bN (pv 0) (rW (bX dQ (eR (dA aw (qH (cQ gQ (cQ sQ aw aw) aw) aj))) (fg kN (by rfl) B.int boot_int (ak (nV eW (aM U M (by rfl) Z.m Z.F.kp Z.b .nil aY (bN (pv 0) (dA aw aj))) aw (bV _)) aj)) (fun _ _=>rfl)) aj))))
  (ai (bM (i:=3) HX.nd rfl (Or.inl rfl) (aM U M (by rfl) Z.m Z.F.kp Z.b .nil aY (bN (pv 0) (dA aw aj))))
  (ai (bM (i:=4) HX.nd rfl (Or.inl rfl) (aM U M (by rfl) Z.m Z.F.kp Z.b .nil aY (bN (pv 0) (bN (pv 1) aj))))
  (ai (bM (i:=5) HX.nd rfl (Or.inl rfl) (bX dQ (eR (dA cg (dA cg (dA cg (dA cg aj))))) (aM U M (by rfl) Z.m Z.F.kp Z.b .nil aY (bN (pv 0) (dA aw aj))) (fun _ _=>rfl)))
  (aA (bJ (eg (bN (pv 2) (bN (pv 3) (bN (pv 4) (bN (pv 5) (iY (aM GW r2 (by rfl) Y.m Y.F.kp Y.b .nil aY (bN (pv 0) aj)) (iY (aM GW r2 (by rfl) Y.m Y.F.kp Y.b .nil aY (bN (pv 0) aj)) aj)))))))))))),?_⟩
 have big:=dZ;have c6:Dz 10 6:={by decide,by decide,by decide};refine cb (dy {_,Z9,_,_,Z9,Z9,c6,_,_,Z9,Z9,lt2,fun l0 W=>?_});have s0:=aD W (.lst [.int 12,.int ((10:Int)^(6:Int).toNat+1)]);refine{_,Z9,p,8,Z9,pu.same s0,by decide,by decide,fun r G r0 r8 I bG=>{Z9,.inr {_,Z9,l0,_,_,_,Z9,Z9,SqL.of (bG _ _ ag (rg pu W)),tT,?_}}};obtain⟨mm,em,dq⟩:∃m:Int,(if decide (V.int r=V.int 7)=true then V.int ((10:Int)^(6:Int).toNat+1) else V.int 12)=.int m/\(0<m/\m<=1000001):=by
  by_cases c:V.int r=V.int 7
  ·rw[decide_eq_true c];exact{_,Z9,by decide}
  ·rw[decide_eq_false c];exact{12,Z9,by decide}
 refine wB ?_;show jR [V.ref p,(if decide (V.int r=V.int 7)=true then V.int ((10:Int)^(6:Int).toNat+1) else V.int 12)] _ _ _;rw[em];refine{p,mm,Z9,I,dq.1,by omega,fun z G1 dn dk dw b1=>bL ?_};have b1:But p H G1:=((But.same (But.refl p H) s0).trans bG).trans b1;clear bG I s0 W;dsimp only;refine cb (dy {_,Z9,p,10,Z9,dw,by decide,by decide,fun rk G2 di dl g b2=>bL ?_});dsimp only;refine cb (dy {_,Z9,_,Z9,p,m,Z9,g,by omega,by omega,fun to G3 dp du O b3=>bL ?_});dsimp only;refine cb (dy {by show 4<=aC;omega,fun l3 J=>?_});have s3:=aD J (.lst [.str "go",.str "on",.str "stop",.str "odd"]);refine{_,Z9,p,4,Z9,O.same s3,by decide,by decide,fun x G4 x0 x4 dG b4=>?_};obtain⟨sg,dv⟩:=Kl x0 x4;refine{l3,_,_,_,Z9,Z9,SqL.of (b4 _ _ ag (rg O J)),dv,bL ?_};dsimp only;refine fH {_,Z9,_,Z9,_,Z9,_,Z9,_,Z9,p,Z9,dG,fun va G5 a0 a1 dz b5=>{_,Z9,p,Z9,dz,fun vb G6 c0 c1 dt b6=>{by show 6<=aC;omega,fun t ht=>?_}}};have st:=aD ht (.tup [.int z,.int rk,.int to,.str sg,.int va,.int vb]);exact k _ {z,rk,0,0,to,sg,va,vb} _ ⟨t,Z9,ag⟩ {dp,du,tS {by show -1000000<=z;omega,by show z<=1000000;omega},⟨a0,a1⟩,⟨c0,c1⟩} (dt.same st) (((((((b1.trans b2).trans b3).same s3).trans b4).trans b5).trans b6).same st)
abbrev nSs:List Str:=["_law_purse_here","_law_many"]
abbrev pSs:List Str:=["_law_purse_here","_law_many"]
theorem scSs:bK nSs pSs (aN kf):={}
theorem ndSs:((["_law_k"]:List Str)++nSs).Nodup:=by decide +kernel
inductive LB(vs:List V)(H:Hp)(Q:VK)(_e:XK):Prop where
 |mk(p:aa)(m:Nat)(_:vs=[.ref p,.int m])(_:dO H p)(_:0<m)(_:m<1000)(_:∀(l:aa) (svs:List V) (es:List Ev) (H':Hp),H' l=Z8 (.lst svs)->aH (xc H') svs es->es.length<60->(∀e∈es,z9 m e)->l≠p->dO H' p->But p H H'->Q (.ref l) H'):LB vs H Q _e
def spSs:Sp:=fun vs H Q Z=>LB vs H Q Z
theorem ok_ss(D:Df K mg "_law_signs" kf pSs f fd)(Y:Df K mg "_law_sign" oz pSg fSg fdSg)(W:Df K mg "_law_draw" eE pD fD fdD)(DW:Df K mg "_law_worth" fK pW fW fdW)(B:Bl mg):bh P w K mg base CX0 4 f fd pSs spSs:=by
 have GD:bh P w K mg base CX0 1 fD fdD pD jR:=jZ W;have cd:bh P w K mg base CX0 3 fSg fdSg pSg spSg:=ok_sg Y W DW B;refine D.F.ok scSs (fun vs H Q E h=>?_) (fun cc A outer s H vs Q E hr h=>?_)
 ·obtain⟨p,m,rfl,_⟩:=h;rfl
 obtain⟨p,m,rfl,pu,m0,m1,k⟩:=h;have r1:cZ 1 _:=hr.mono (by decide);have r3:cZ 3 _:=hr;refine{_,aA (bJ (lS ["_law_k"] (iC.open (NN:=nSs) (N:=nSs) (sc:=aN kf) rfl rfl (by decide +kernel) rfl (by decide +kernel) (by decide +kernel) rfl (by decide +kernel)) rfl (ji (by rfl) B.range (iY (aM GD r1 (by rfl) W.m W.F.kp W.b .nil aY (bN (pv 0) (rW (bX dQ (eR (dA aw (dA aw aj))) (fg kN (by rfl) B.int boot_int (ak (nV eW (aM GD r1 (by rfl) W.m W.F.kp W.b .nil aY (bN (pv 0) (dA aw aj))) aw (bV _)) aj)) (fun _ _=>rfl)) aj))) aj)) (fun _ _ _ _=>df (i:=0) ndSs rfl (Or.inl rfl)) (fun _ _ _ _=>jW) (fun _ _ _ _=>aM cd r3 (by rfl) Y.m Y.F.kp Y.b .nil aY (bN (pv 1) (bN (pv 2) aj))))),?_};have big:=dZ;refine fH ?_;refine tQ (fun n G=>n<20/\dO G p/\But p H G) (fun R hR=>{_,Z9,lt2,fun l0 M=>?_}) (fun n G h=>by have:=h.1;omega) (fun n _ i ys G=>∃es:List Ev,aH (xc G) ys es/\es.length=i/\(∀e∈es,z9 m e)/\dO G p/\But p H G) (fun n G h=>{[],.nil,Z9,(fun e g=>by cases g),h.2.1,h.2.2}) ?_ ?_ ?_
 ·have s0:=aD M (.lst [.int 6,.int 20]);refine{_,Z9,p,6,Z9,pu.same s0,by decide,by decide,fun r G r0 r8 Z O=>{Z9,.inr {_,Z9,l0,_,_,_,Z9,Z9,SqL.of (O _ _ ag (rg pu M)),tT,?_}}};obtain⟨mm,em,ce⟩:∃m:Int,(if decide (V.int r=V.int 5)=true then V.int 20 else V.int 6)=.int m/\(0<m/\m<=20):=by
   by_cases c:V.int r=V.int 5
   ·rw[decide_eq_true c];exact{20,Z9,by decide}
   ·rw[decide_eq_false c];exact{6,Z9,by decide}
  rw[em];refine{p,mm,Z9,Z,ce.1,by omega,fun x G1 x0 x1 U J=>?_};obtain⟨n,rfl⟩:∃n:Nat,x=(n:Int):={x.toNat,by omega};exact hR n G1 {by omega,U,((But.same (But.refl p H) s0).trans O).trans J}
 ·rintro n G0 h i ys G hi ⟨es,h1,h2,_⟩;have:=h.1;have:=aV h1;omega
 ·rintro n G0 h i ys G hi ⟨es,h1,h2,I,Z,O⟩;refine{Z9,?_};unfold w5;refine ja ?_;refine{_,Z9,_,Z9,p,m,Z9,Z,m0,m1,fun v e G1 hv g U J=>{es++[e],eJ (Paired.mono (fun v e ⟨t,e',h⟩=>{t,e',dX.but Z J _ _ h (oF _)}) h1) hv,by rw[ay,h2];rfl,fun e' h'=>?_,U,O.trans J}}
  rcases cv.mp h' with z|z
  ·exact I e' z
  ·rw[aE.mp z];exact g
 ·rintro n G0 h ys G ⟨es,h1,h2,I,Z,O⟩ l hl;have st:=aD hl (.lst ys);exact k l ys es _ ag (Paired.mono (fun _ _ z=>z.same st) h1) (by have:=h.1;omega) I (rg Z hl) (Z.same st) (O.same st)
end
end My
namespace L2
open PySem PySem.Spec PyProof.Rows
theorem Km{vs:List ae}{ns:List Int}(h:eM vs ns):cS (ns.map V.int) vs:=by
 induction h with
 |nil=>exact .nil
 |cons n t _ Z=>exact .cons ⟨t,Z9⟩ Z
section
variable{prog:aL}{w:bA}{A:bY}{E:ae->ao->Prop}{s:ao}
theorem yY{K:Type}[DecidableEq K]{knd:KB prog w K}{d:aa}{kvs:List (K×ae)}{ss:List Int}{Q:ae->ao->Prop}(hh:A.handled=Z7)(lo:(d==eY)=false)(hm:s.heap.DictOf knd d kvs)(I:kvs.length<64)
  (hk:∀vs:List ae,vs.length=kvs.length->(∀(j:Nat) (v:ae),vs[j]?=Z8 v->∃k x,kvs[j]?=Z8 (k,x)/\knd.is k v=true)->eM vs ss)
  (h:∀(h1 h2:cu) (tk:Nat) (O:List ae) (Y:List Int) (e:Nat),(∀b o,s.heap.get? b=Z8 o->h1.get? b=Z8 o)->(∀b o,h1.get? b=Z8 o->h2.get? b=Z8 o)->h2.get? h1.objs.size=Z8 {cls:=.type "list",data:=.seq O.toArray e}->eM O Y->Y.Perm ss->Y.Pairwise (·<=·)->Q (.ref h1.objs.size) {s with heap:=h2,toks:=tk}) :
  aW (aX prog w) A (vw (.builtin "sorted") [.ref d]) Q E s:=by
 obtain⟨ep,M⟩:=hm.dictAt;refine Calls.call_function_entry Jt FU FV (args_sorted1 _) ?_;unfold gW.«sorted»;refine au (m:=MI "sorted" 1 1 _) (bf ?_);have sl:64<=aC:=by decide
 refine au (PySem.W.kdu_collect (A:=A.in1) (PySem.W.kdl_dict (knd:=knd) (kvs:=kvs) (ep:=ep) lo) hh M (by omega) fun h' tk Z H V=>?_);have J:Z.toList.length=kvs.length:=by rw[fu];exact V.1
 have t:eM Z.toList ss:=hk Z.toList J fun j v e=>V.2 j v (by rw[<- jV];exact e);refine au (pU ?_ (by rw[J];omega));have U:(h'.push (dJ "list" Z.toList.toArray 0)).get? h'.objs.size=Z8 (dJ "list" Z.toList.toArray 0):=cj _ rfl;refine au (eU (qF A9 {_,U,Z9} zO (list_sort_tree (s:={s with heap:=h'.push (dJ "list" Z.toList.toArray 0),toks:=tk}) U t (by rw[J];exact I) fun out Y g b2 b3=>{_,Z9,?_}) (args_list_sort _)));obtain⟨e,z⟩:=sortedHeap_at (out:=out) U;refine bf {_,Z9,h h' _ tk out.toList Y e H (fun b o D=>?_) z g b2 b3};have lt:=aQ D;rw[sortedHeap_old (aR lt) (by rw[qJ];exact iM lt)];exact aK _ D
end
section
variable{X:Cx}
theorem EE{P:aL}{w:bA}:∀(kvs:List (Key×V)) (ss:List Int) (Z:List (Key×ae)),KV kvs Z->kvs.map (·.1)=ss.map Sum.inl->∀vs:List ae,vs.length=Z.length->(∀(j:Nat) (v:ae),vs[j]?=Z8 v->∃k x,Z[j]?=Z8 (k,x)/\(eN P w).is k v=true)->eM vs ss:=by
 intro kvs
 induction kvs with
 |nil=>
  intro ss Z k e vs Y _
  cases k
  cases ss with
  |nil=>
   cases vs with
   |nil=>exact .nil
   |cons _ _=>cases Y
  |cons _ _=>cases e
 |cons kv r ih=>
  intro ss Z k e vs Y O
  cases k with
  |@cons _ J _ wr z M=>
   cases ss with
   |nil=>cases e
   |cons x W=>
    rw[bU,bU]at e;injection e with e1 I
    cases vs with
    |nil=>cases Y
    |cons v vr=>
     obtain⟨U,g,a,b⟩:=O 0 v rfl;have a:J=(U,g):=cI a;have D:U=Sum.inl x:=by
      rw[<- e1,z.1,a]
     subst D;obtain⟨t,rfl⟩:=EL (show Ay x v=true from b);exact .cons x t (ih W wr M I vr (IC Y) fun j v' H=>O (j+1) v' H)
theorem yZ(hc:X.calm=true):kR X (.builtin "sorted") (fun xs H Q=>∃p ss kvs,xs=[V.ref p]/\H p=Z8 (.dK kvs)/\kvs.map (·.1)=ss.map Sum.inl/\ss.length<64 /\
  ∀(l:aa) (Z:List Int),H l=Z7->Z.Perm ss->Z.Pairwise (·<=·)->Q (.ref l) (upd H l (.lst (Z.map V.int)))):=by
 intro pins s σ H xs us Q I r h;obtain⟨p,ss,kvs,rfl,hp,hk,bn,q⟩:=h;obtain⟨u,rfl,ru⟩:=vals1 r
 cases ru;have sl:64<=aC:=by decide
 obtain⟨_,n1,J,k1,D⟩:=(show eB X.prog X.w H s.heap p (.dK kvs) from I.hok p _ hp);have g:=congrArg jq hk;rw[aq,aq]at g;refine yY (knd:=eN X.prog X.w) (I.ok.hd hc) n1 D (by rw[<- k1.length];omega) (EE kvs ss J k1 hk) fun h1 h2 tk Y Z e W U t b1 O b3=>?_;have M:Inv X pins σ H {s with heap:=h1,toks:=tk}:=I.kept (t':=tk) W;have z:=M.laid (a:=h1.objs.size) (o:=.lst (Z.map V.int)) (t':=tk) (h':=h2) U (aB _) {by rw[aq,O.length_eq];omega,Y,e,Km b1,t};exact{.ref h1.objs.size,_,z,Z9,q _ Z (M.hok.fresh (aB _)) O b3}
end
end L2
namespace My
open PySem L2
section
variable{Ms:List MD}{r:RS}
theorem NV{Z:Int}(V:EB Ms):∀{i:Nat},(∀j,j<i->ROk Ms.length (itR Ms r j).1/\ib (itR Ms r j).1 (Z-(itR Ms r j).2.length)=Z7)->(∀j,j<i->(itR Ms r j).2.length=j)/\(itR Ms r i).2.length<=i
 |0,_=>{fun j W=>absurd W (gX _),aB _}
 |i+1,h=>by
  obtain⟨h2,H⟩:=NV (i:=i) V fun j W=>h j (by omega);have M:=jB (h i (by omega)).2;have I:=(h i (by omega)).1;obtain⟨_,s2⟩:=rT (vg V I M.2.1);have O:(itR Ms r i).2.length=i:=by
   cases i with
   |zero=>rfl
   |succ i=>
    -- the turn ahead of it told a record, else it would be over
    have e:(itR Ms r (i+1)).2=(itR Ms r i).2++(gP Ms (itR Ms r i).1).2:=rfl;have J:=jB (h i (by omega)).2;obtain⟨_,U⟩:=rT (vg V (h i (by omega)).1 J.2.1)
    rcases U with⟨q,eq⟩|⟨_,sp,Y⟩
    ·rw[e,eq,ay,h2 i (by omega)];rfl
    ·have:(itR Ms r (i+1)).1.sp=Z8 sp:=Y;rw[M.1]at this
     cases this
  refine{fun j W=>?_,?_}
  ·rcases uz j i with z|z
   ·exact h2 j z
   ·have:j=i:=by omega
    rw[this];exact O
  ·have e:(itR Ms r (i+1)).2=(itR Ms r i).2++(gP Ms (itR Ms r i).1).2:=rfl;rw[e,ay,O]
   rcases s2 with⟨q,eq⟩|⟨eq,_⟩
   ·rw[eq];exact aB _
   ·rw[eq];exact gc _
theorem x8{Z:Int}{i:Nat}{e:End}(Y:EB Ms)(s:lD Ms r Z i e)(m0:0<=Z):((itR Ms r i).2.length:Int)<=Z:=by
 cases i with
 |zero=>
  show ((0:Nat):Int)<=Z;omega
 |succ i=>
  obtain⟨h1,h2⟩:=NV Y s.1;have d:=jB (s.1 i (by omega)).2;have:=h1 i (by omega);omega
theorem wH{r:RS}{a b:Int}(h:ib r a=Z7)(l:a<=b):ib r b=Z7:=by
 obtain⟨h1,h2,Z⟩:=jB h;unfold ib;rw[h1];dsimp only;rw[if_neg,if_neg (by omega)];intro z;exact h2 (ID.mp z)
end
theorem oH(Ms:List MD)(r:RS)(i:Nat):∀j:Nat,itR Ms r (i+j)=((itR Ms (itR Ms r i).1 j).1,(itR Ms r i).2++(itR Ms (itR Ms r i).1 j).2)
 |0=>by
  show itR Ms r i=((itR Ms r i).1,(itR Ms r i).2++[]);rw[cB]
 |j+1=>by
  show ((gP Ms (itR Ms r (i+j)).1).1,(itR Ms r (i+j)).2++(gP Ms (itR Ms r (i+j)).1).2)=_;rw[oH Ms r i j];show _=((gP Ms (itR Ms (itR Ms r i).1 j).1).1,(itR Ms r i).2++((itR Ms (itR Ms r i).1 j).2++(gP Ms (itR Ms (itR Ms r i).1 j).1).2));rw[jK]
structure Mrk(Ms:List MD)(es:List Ev)(n:Nat)(r:RS):Prop where
 e:r=(itR Ms (gy Ms es) n).1
 l:∀j,j<=n->(itR Ms (gy Ms es) j).2.length=j
 d:∀j,j<n->ROk Ms.length (itR Ms (gy Ms es) j).1/\ib (itR Ms (gy Ms es) j).1 1=Z7
theorem Kn{r:RS}{k:Int}(h:ib r k=Z7):ib r 1=Z7:=by
 obtain⟨h1,h2,Z⟩:=jB h;unfold ib;rw[h1];dsimp only;rw[if_neg (fun z=>h2 (ID.mp z)),if_neg (by decide)]
theorem LC(Ms:List MD)(es:List Ev):Mrk Ms es 0 (gy Ms es):=⟨Z9,fun j Z=>by
 have:j=0:=by omega
 subst this;rfl,fun j Z=>absurd Z (gX _)⟩
section
variable{Ms:List MD}{es:List Ev}{n i:Nat}{r:RS}{k:Int}{e:End}
theorem Mrk.full(V:EB Ms)(m:Mrk Ms es n r)(s:lD Ms r k i e)(l:((itR Ms r i).2.length:Int)=k):Mrk Ms es (n+i) (itR Ms r i).1/\(i:Int)=k:=by
 obtain⟨Z,O⟩:=NV V s.1;have ik:(i:Int)=k:=by
  cases i with
  |zero=>exact l
  |succ i=>
   have d:=(jB (s.1 i (by omega)).2).2.2;rw[Z i (by omega)]at d;omega
 have U:=m.e;subst U;have add:=oH Ms (gy Ms es) n;refine{{by rw[add i],fun j W=>?_,fun j W=>?_},ik}
 ·by_cases c:j<=n
  ·exact m.l j c
  ·obtain⟨d,rfl⟩:∃d,j=n+d:={j-n,by omega};rw[add d];show ((itR Ms (gy Ms es) n).2++_).length=n+d;rw[ay,m.l n (aB _)]
   by_cases Y:d<i
   ·rw[Z d Y]
   ·have:d=i:=by omega
    rw[this];omega
 ·by_cases c:j<n
  ·exact m.d j c
  ·obtain⟨d,rfl⟩:∃d,j=n+d:={j-n,by omega};rw[add d];have q:=s.1 d (by omega);exact{q.1,Kn q.2}
theorem Mrk.on(m:Mrk Ms es n r)(s:lD Ms r k i e)(k0:0<=k):lD Ms (gy Ms es) (n+k) (n+i) e/\(itR Ms (gy Ms es) (n+i)).2.drop n=(itR Ms r i).2:=by
 have Z:=m.e;subst Z;have add:=oH Ms (gy Ms es) n;have len:∀d,((n:Int)+k)-(itR Ms (gy Ms es) (n+d)).2.length=k-(itR Ms (itR Ms (gy Ms es) n).1 d).2.length:=fun d=>by
  rw[add d];show (n:Int)+k-((itR Ms (gy Ms es) n).2++_).length=_;rw[ay,m.l n (aB _)];omega
 refine{{fun j Y=>?_,?_,?_},?_}
 ·by_cases c:j<n
  ·have q:=m.d j c;refine{q.1,wH q.2 ?_};rw[m.l j (by omega)];omega
  ·obtain⟨d,rfl⟩:∃d,j=n+d:={j-n,by omega};have q:=s.1 d (by omega);rw[len d,add d];exact q
 ·rw[len i,add i];exact s.2.1
 ·rw[add i];exact s.2.2
 ·rw[add i];show ((itR Ms (gy Ms es) n).2++_).drop n=_;rw[List.drop_append,m.l n (aB _),qg,xy,List.drop_of_length_le (AH (m.l n (aB _))),kP]
end
structure Rst(Ms:List MD)(r:RS):Prop where
 ok:ROk Ms.length r
 wk:∀(i:Nat) (M:MD) (s:Sta),Ms[i]?=Z8 M->r.sts[i]?=Z8 s->p9 M.bs M.qs s.w
def CoK(CC CS m:aa)(F:Hp)(c:aa)(r:RS):Prop:=∃(dx sl pl:aa) (Y Z:V) (ss:List aa) (ps:List V),F c=Z8 (.ins CC dx (iz (.ref m) (.ref sl) (.ref pl) Y Z))/\yO F Y r.re/\yP F Z r.sp/\F sl=Z8 (.lst (ss.map V.ref))/\aH (StA CS F) ss r.sts/\F pl=Z8 (.lst ps)/\aH (ip F) ps r.pd
theorem CoK.same{CC CS m:aa}{F G:Hp}(s:aT F G){c:aa}{r:RS}(h:CoK CC CS m F c r):CoK CC CS m G c r:=by
 obtain⟨dx,sl,pl,O,U,ss,ps,h1,h2,Z,W,Y,V,M⟩:=h;exact{dx,sl,pl,O,U,ss,ps,s _ _ h1,h2.same s,Z.same s,s _ _ W,Paired.mono (fun _ _ z=>iG.same' s z) Y,s _ _ V,Paired.mono (fun _ _ z=>z.same s) M}
theorem iq.rst{CC CS:aa}{Ms:List MD}{Hb G:Hp}{ex:Ex}{co m sl pl:aa}{r:RS}(c:iq CC CS Ms Hb ex G co m sl pl r):Rst Ms r:=⟨c.ok,c.wk⟩
theorem iq.weak{CC CS:aa}{Ms:List MD}{Hb Z G:Hp}{ex:Ex}{co m sl pl:aa}{r:RS}(s:aT Z Hb)(c:iq CC CS Ms Hb ex G co m sl pl r):iq CC CS Ms Z ex G co m sl pl r:={c.ok,fun b o e=>c.sm b o (s _ _ e),c.i1,c.i2,c.i3,c.n1,c.n2,c.n3,c.hc,c.hs,c.hp,c.wk,c.nt}
theorem iq.k{CC CS:aa}{Ms:List MD}{Hb G:Hp}{ex:Ex}{co m sl pl:aa}{r:RS}(c:iq CC CS Ms Hb ex G co m sl pl r):CoK CC CS m G co r:=by
 obtain⟨dx,O,U,h1,h2,Z⟩:=c.hc;obtain⟨ss,W,Y⟩:=c.hs;obtain⟨ps,V,M⟩:=c.hp;exact{dx,sl,pl,O,U,ss,ps,h1,h2.same cG,Z.same cG,W,Paired.mono (fun _ _ z=>iG.same' cG z) Y,V,Paired.mono (fun _ _ z=>z.same cG) M}
theorem wI{Z Y:Type}{R:Z->Y->Prop}:∀{xs:List Z} {ys:List Y} {i:Nat} {x:Z},aH R xs ys->xs[i]?=Z8 x->∃y,ys[i]?=Z8 y/\R x y
 |_,_,0,_,.cons a _,e=>by
  cases e;exact{_,Z9,a}
 |_,_,i+1,_,.cons _ r,e=>wI (i:=i) r e
theorem Hs.hid{CS:aa}{H0 H G:Hp}{st:aa}{bx:List (Str×Int)}{qu:List (Str×List Int)}{dr:Nat}{se:Int}{Z V W:aa}{Y:List (Str×aa)}(s:aT H0 H)(n:Hs CS H G st bx qu dr se Z V W Y):iG CS (Hid {[],H0} G) st bx qu dr se:=by
 have v:∀{a:aa} {o:HO},a∈st::V::W::Y.map (·.2)->G a=Z8 o->Hid {[],H0} G a=Z8 o:=fun m e=>by
  rw[cW (iT (none_of s (n.fr _ m)))];exact e
 exact{Z,V,W,Y,v (by simp) n.hst,v (by simp) n.hb,v (by simp) n.hq,n.hl.hid fun a m=>iT (none_of s (n.fr a (by simp only[ar];exact .inr (.inr (.inr m)))))}
theorem yO.hid{ex:Ex}{G:Hp}(Z:∀a∈ex,∃o,G a=Z8 o/\∀xs,o≠.tup xs){v:V}:∀{q:Option Ev},yO G v q->yO (Hid ex G) v q
 |none,h=>h
 |some _,⟨k,e,h⟩=>{k,e,gs Z h}
theorem yP.hid{ex:Ex}{G:Hp}(Z:∀a∈ex,∃o,G a=Z8 o/\∀xs,o≠.tup xs){v:V}:∀{q:Option Stp},yP G v q->yP (Hid ex G) v q
 |none,h=>h
 |some (.fin _),⟨t,k,e,h1,h2⟩=>{t,k,e,gs Z h1,gs Z h2}
 |some (.flt _ _),⟨t,k,e,h1,h2⟩=>{t,k,e,gs Z h1,gs Z h2}
section
variable{P:aL}{w:bA}{K:af}{mg:Str->Option ae}{base:cu}{f fCp fCI CC CM CS:aa}{fd fdCp fdCI:bS}
seal PS PSs PE PA PT PW PI PG PGs PC
abbrev nCc:List Str:=["self","other"]
abbrev pCc:List Str:=["self"]
theorem scCc:bK nCc pCc (aN gS):={}
theorem ndCc:((["state"]:List Str)++nCc).Nodup:=by decide +kernel
inductive HY(CC CS:aa)(vs:List V)(H:Hp)(Q:VK)(_e:XK):Prop where
 |mk(Ms:List MD)(c m:aa)(r:RS)(_:vs=[.ref c])(_:CoK CC CS m H c r)(_:Rst Ms r)(_:Ms.length<1000)(_:r.pd.length<=1000000)(_:∀(G:Hp) (c' sl pl:aa),iq CC CS Ms H ⟨[c',sl,pl],H⟩ G c' m sl pl r->Q (.ref c') G):HY CC CS vs H Q _e
def HZ(CC CS:aa):Sp:=fun vs H Q Z=>HY CC CS vs H Q Z
theorem H9(F:Fun K "copy" "Course.copy" gS f fd)(el:Mt K CS "copy" "State.copy" iR ["self"] fCp fdCp)(ea:bh P w K mg base CX0 3 fCp fdCp ["self"] (Bm CS))(MC:Mk K CC fCI)(dG:bh P w K mg base CX0 1 fCI fdCI ["self","model","states","pending"] (NG CC))(dL:Binds K fdCI ["self","model","states","pending"] [])(T:CoT K mg CC)(TM:MdT K mg CM CS)(B:Bl mg) :
  bh P w K mg base CX0 4 f fd pCc (HZ CC CS):=by
 refine F.ok scCc (fun vs H Q E h=>?_) (fun dn A outer s H vs Q E hr h=>?_)
 ·obtain⟨Ms,c,m,r,rfl,_⟩:=h;rfl
 obtain⟨Ms,c,m,r,rfl,hc,hR,lM,lp,k⟩:=h;have r2:cZ 2 _:=hr.mono (by decide);have r3:cZ 3 _:=hr;refine⟨_,ai (bM (i:=1) scCc.nd rfl (Or.inl rfl) (jT MC dG r2 (by rfl) T.m dL .nil aY (ak (cM K (by rfl) (pv 0) (by rfl)) (ak (lS ["state"] (iC.open (NN:=nCc) (N:=nCc) (sc:=aN gS) rfl rfl (by decide +kernel) rfl (by decide +kernel) (by decide +kernel) rfl (by decide +kernel)) rfl (g9 (cM K (by rfl) (pv 0) (by rfl))) (fun _ _ _ _=>df (i:=0) ndCc rfl (Or.inl rfl)) (fun _ _ _ _=>jW) (fun _ _ _ _=>gB (pv 0) TM.clS el.m ea r3 el.b .nil aY)) (iY (fg (qf K (by rfl)) (by rfl) B.list boot_list (ak (cM K (by rfl) (pv 0) (by rfl)) aj)) aj)))))
  (ai (eD (pv 1) (cM K (by rfl) (pv 0) (by rfl)) rfl)
  (ai (eD (pv 1) (cM K (by rfl) (pv 0) (by rfl)) rfl)
  (aA (bJ (pv 1))))),?_⟩
 have big:=dZ;obtain⟨dx,sl,pl,g,sv,ss,ps,h1,h2,h3,h4,h5,h6,h7⟩:=hc;refine cb (dy (tM ?_));refine{_,Z9,c,CC,dx,_,_,Z9,h1,T.cl,T.nM,co_m _ _ _ _ _,?_};have eb:=aV h5;have lst:=hR.ok.len;refine wF (K:=K) (a:=sl) (xs:=ss.map V.ref) (fun R h=>{_,Z9,c,CC,dx,_,_,Z9,h1,T.cl,T.nS,HD _ _ _ _ _,h}) (SqL.of h4) (fun i ys G=>∃U:List aa,ys=U.map V.ref/\aT H G/\aH (StA CS (Hid {[],H} G)) U (r.sts.take i)) {[],Z9,aT.refl _,by rw[jL];exact .nil} ?_ ?_ ?_
 ·rintro i ys G hi ⟨U,rfl,D,p1⟩;have:=aV p1;rw[cK]at this;rw[aq];exact{SqL.of (D _ _ h4),by omega}
 ·rintro i x ys G hi ⟨U,rfl,D,p1⟩;rw[cm]at hi;obtain⟨st,ef,rfl⟩:=fh.mp hi;obtain⟨sta,hs,hS⟩:=wI h5 ef;have il:=(aF.mp hs).1;have hM:Ms[i]?=Z8 Ms[i]:=aO (by omega);have wk:=hR.wk i _ sta hM hs;have ek:=iG.same' D hS;obtain⟨ec,bd,qd,qa,g1,_⟩:=id ek;have kq:sta.qu.map (·.1)=Ms[i].qs:=wk.kq;have lq:sta.qu.length<100:=by
   have:=congrArg jq kq;rw[aq]at this;have:=wk.fw;rw[ay]at this;omega
  refine{Z9,?_};unfold w5;refine ja ?_;refine{_,Z9,st,ec,_,Z9,g1,Z9,st,sta.bx,sta.qu,sta.dr,sta.se,Z9,ek,by rw[kq];exact wk.nq,lq,fun G' ee du dt dp dq N=>{U++[ee],by rw[bT];rfl,D.trans N.sm,?_}};rw[d9,hs];exact eJ (Paired.mono (fun _ _ z=>iG.same' (gD N.sm) z) p1) (N.hid D)
 rintro ys G ⟨U,rfl,D,p1⟩ Z M;rw[aq,eb,dS]at p1;have u1:=aD M (.lst (U.map V.ref));refine{_,Z9,c,CC,dx,_,_,Z9,u1 _ _ (D _ _ h1),T.cl,T.nP,JU _ _ _ _ _,pl,ps,Z9,.inl (SqL.of (u1 _ _ (D _ _ h6))),fun Y J=>?_};have u2:=aD J (.lst ps);have s2:=(D.trans u1).trans u2;have q1:=u2 _ _ (jC M (.lst (U.map V.ref)));have q2:=jC J (.lst ps);have dw:H Z=Z7:=none_of D M;have dv:H Y=Z7:=none_of (D.trans u1) J;have eh:Z≠Y:=av (jC M _) J;have uG:=u1.trans u2;revert s2 q1 q2 uG;generalize upd (upd G Z (.lst (U.map V.ref))) Y (.lst ps)=G2;intro s2 q1 q2 uG;refine fun O W I ei nc=>{O,W,_,_,_,Z9,ag,fun G3 ej but=>{Z9,bL ?_}};dsimp only;have b3:∀b o,G2 b=Z8 o->b≠O/\G3 b=Z8 o:=fun b o e=>{av e I,but _ _ (aP (aP e (av e ei)) (av e I)) (av e I)};refine cb {_,Z9,c,CC,dx,_,_,Z9,(b3 _ _ (s2 _ _ h1)).2,T.cl,T.nR,co_r _ _ _ _ _,_,Z9,O,CC,W,_,Z9,ej,T.cl,T.nR,wc _ _ _ _ _,?_};rw[Cv];have b4:∀b o,G2 b=Z8 o->b≠O/\upd G3 O (.ins CC W (iz (.ref m) (.ref Z) (.ref Y) g .non)) b=Z8 o:=fun b o e=>{(b3 b o e).1,aP (b3 b o e).2 (b3 b o e).1};refine cb {_,Z9,c,CC,dx,_,_,Z9,(b4 _ _ (s2 _ _ h1)).2,T.cl,T.nE,JV _ _ _ _ _,_,Z9,O,CC,W,_,Z9,ag,T.cl,T.nE,wc _ _ _ _ _,?_};rw[yQ];have b5:∀b o,G2 b=Z8 o->b≠O/\upd (upd G3 O (.ins CC W (iz (.ref m) (.ref Z) (.ref Y) g .non))) O (.ins CC W (iz (.ref m) (.ref Z) (.ref Y) g sv)) b=Z8 o:=fun b o e=>{(b4 b o e).1,aP (b4 b o e).2 (b4 b o e).1};have q3:upd (upd G3 O (.ins CC W (iz (.ref m) (.ref Z) (.ref Y) g .non))) O (.ins CC W (iz (.ref m) (.ref Z) (.ref Y) g sv)) O=Z8 (.ins CC W (iz (.ref m) (.ref Z) (.ref Y) g sv)):=ag;revert b5 q3;generalize upd (upd G3 O (.ins CC W (iz (.ref m) (.ref Z) (.ref Y) g .non))) O (.ins CC W (iz (.ref m) (.ref Z) (.ref Y) g sv))=G5;intro b5 q3;clear b4 b3 but ej ei;have s5:aT G2 G5:=fun b o e=>(b5 b o e).2;have sH:aT H G5:=s2.trans s5;have dz:O≠Z:=fun z=>(b5 _ _ q1).1 z.symm;have dV:O≠Y:=fun z=>(b5 _ _ q2).1 z.symm;have ed:H O=Z7:=none_of s2 I;have t:∀a∈({[O,Z,Y],H}:Ex),∃o,G5 a=Z8 o/\∀xs,o≠.tup xs:=fun a ha=>by
  rcases ha with ha|⟨o,e,n⟩
  case inr=>exact{o,sH _ _ e,n}
  have ha:a∈[O,Z,Y]:=ha;simp only[ar,aI,or_false]at ha
  rcases ha with rfl|rfl|rfl
  ·exact{_,q3,fun xs z=>by cases z}
  ·exact{_,s5 _ _ q1,fun xs z=>by cases z}
  ·exact{_,s5 _ _ q2,fun xs z=>by cases z}
 have sS:aT (Hid {[],H} G) (Hid {[O,Z,Y],H} G5):=wD (uG.trans s5) fun a ha=>by
  simp only[ar,aI,or_false]at ha
  rcases ha with rfl|rfl|rfl
  ·exact none_of uG I
  ·exact M
  ·exact none_of u1 J
 dsimp only;refine fH {_,Z9,k G5 O Z Y {hR.ok,fun b o e=>{av e ed,av e dw,av e dv,sH _ _ e},.inl (by simp),.inl (by simp),.inl (by simp),dz,dV,eh,{W,g,sv,q3,yO.hid t (h2.same sH),yP.hid t (h3.same sH)},{U,s5 _ _ q1,Paired.mono (fun _ _ z=>iG.same' sS z) p1},{ps,s5 _ _ q2,Paired.mono (fun _ _ z=>ip.hid t (z.same sH)) h7},hR.wk,t}}
end
section
variable{Ms:List MD}{x:Ev}
end
section
variable{Ms:List MD}{es:List Ev}{x:Ev}
end
def Wp(p:aa)(H:Hp):Hp:=fun a=>if a=p then Z7 else H a
theorem iE{p a:aa}{H:Hp}{o:HO}(h:H a=Z8 o)(n:a≠p):Wp p H a=Z8 o:=by
 unfold Wp;rw[if_neg n];exact h
theorem uo{p a:aa}{H:Hp}{o:HO}(h:Wp p H a=Z8 o):a≠p/\H a=Z8 o:=by
 unfold Wp at h
 by_cases c:a=p
 ·rw[if_pos c]at h
  cases h
 ·rw[if_neg c]at h;exact⟨c,h⟩
theorem But.wp{p:aa}{H H':Hp}(b:But p H H'):aT (Wp p H) (Wp p H'):=fun a o e=>by
 obtain⟨n,h⟩:=uo e;exact iE (b _ _ h n) n
theorem vi(p:aa)(H:Hp):aT (Wp p H) H:=fun a o e=>(uo e).2
theorem y7{p:aa}{G F:Hp}(s:aT G F):aT (Wp p G) (Wp p F):=fun a o e=>iE (s _ _ (uo e).2) (uo e).1
structure Rn(CM:aa)(Ms:List MD)(es:List Ev)(H:Hp)(m sgl:aa):Prop where
 mo:uC CM Ms H m
 lm:Ms.length<1000
 sg:∃svs,H sgl=Z8 (.lst svs)/\aH (xc H) svs es
 le:es.length<64
 ev:∀e∈es,z9 Ms.length e
theorem Rn.same{CM:aa}{Ms:List MD}{es:List Ev}{H G:Hp}{m Z:aa}(s:aT H G)(h:Rn CM Ms es H m Z):Rn CM Ms es G m Z:=by
 obtain⟨Y,h1,h2⟩:=h.sg;exact{h.mo.same s,h.lm,{Y,s _ _ h1,Paired.mono (fun _ _ z=>z.same s) h2},h.le,h.ev}
def jH(m s e k:V):List (Str×V):=[("model",m),("signs",s),("every",e),("kept",k)]
structure KeT(K:af)(mg:Str->Option ae)(CK:aa):Prop where
 cl:Cls K CK
 nM:eC K CK "model"
 nS:eC K CK "signs"
 nE:eC K CK "every"
 nK:eC K CK "kept"
 m:mg "Keeper"=Z8 (.ref CK)
theorem ke_m(m s e k:V):(jH m s e k).lookup ("model":Str)=Z8 m:=rfl
theorem ke_s(m s e k:V):(jH m s e k).lookup ("signs":Str)=Z8 s:=rfl
theorem ke_e(m s e k:V):(jH m s e k).lookup ("every":Str)=Z8 e:=rfl
theorem Ia(m s e k:V):(jH m s e k).lookup ("kept":Str)=Z8 k:=rfl
theorem Ib(m s e k:V):(jH m s e k).length<1000:=by show 4<1000;decide
theorem C9(m s e k Z:V):cE "kept" Z (jH m s e k)=jH m s e Z:=rfl
theorem qq(m s e k:V){x:Str}(hx:(["model","signs","every","kept"]:List Str).contains x=false):(jH m s e k).lookup x=Z7:=by
 have z:∀k∈(["model","signs","every","kept"]:List Str),(x==k)=false:=fun k hk=>beq_eq_false_iff_ne.mpr fun e=>by
  rw[e,kj.mpr hk]at hx
  cases hx
 unfold jH;rw[dM (z _ (by simp)),dM (z _ (by simp)),dM (z _ (by simp)),dM (z _ (by simp))];rfl
structure Kpt(CC CS m:aa)(Ms:List MD)(es:List Ev)(F:Hp)(kvs:List (Key×V)):Prop where
 at_:∀q∈kvs,∃(n:Nat) (c:aa) (r:RS),q=(Sum.inl (n:Int),V.ref c)/\CoK CC CS m F c r/\Rst Ms r/\Mrk Ms es n r/\r.pd.length<=900000
 nd:(kvs.map (·.1)).Nodup
 few:kvs.length<=50
theorem Kpt.same{CC CS m:aa}{Ms:List MD}{es:List Ev}{F G:Hp}{kvs:List (Key×V)}(s:aT F G)(h:Kpt CC CS m Ms es F kvs):Kpt CC CS m Ms es G kvs:=⟨fun q hq=>by
 obtain⟨n,c,r,e,h1,h2⟩:=h.at_ q hq;exact{n,c,r,e,h1.same s,h2},h.nd,h.few⟩
def jD(kvs:List (Key×V)):List Int:=kvs.map fun q=>match q.1 with
 |.inl n=>n
 |.inr _=>0
theorem Kpt.keys{CC CS m:aa}{Ms:List MD}{es:List Ev}{F:Hp}{kvs:List (Key×V)}(h:Kpt CC CS m Ms es F kvs):kvs.map (·.1)=(jD kvs).map Sum.inl:=by
 unfold jD;rw[dC];refine gv fun q hq=>?_;obtain⟨n,c,r,e,_⟩:=h.at_ q hq;rw[e];rfl
theorem Ko{kvs:List (Key×V)}{k:Key}{v:V}(h:jF kvs k=Z8 v):(k,v)∈kvs:=by
 unfold jF at h;obtain⟨p,hp,rfl⟩:=fh.mp h;have h1:=List.mem_of_find?_eq_some hp;have h2:=List.find?_some hp;have:p.1=k:=by simpa using h2
 rw[<- this];exact h1
structure BB(CK CC CM CS:aa)(Ms:List MD)(es:List Ev)(F:Hp)(k m sl kd:aa)(ev:Int)(kvs:List (Key×V)):Prop where
 ob:∃dx,F k=Z8 (.ins CK dx (jH (.ref m) (.ref sl) (.int ev) (.ref kd)))
 rn:Rn CM Ms es F m sl
 dk:F kd=Z8 (.dK kvs)
 kk:Kpt CC CS m Ms es F kvs
theorem BB.same{CK CC CM CS:aa}{Ms:List MD}{es:List Ev}{F G:Hp}{k m sl Z:aa}{ev:Int}{kvs:List (Key×V)}(s:aT F G)(h:BB CK CC CM CS Ms es F k m sl Z ev kvs):BB CK CC CM CS Ms es G k m sl Z ev kvs:=by
 obtain⟨dx,h1⟩:=h.ob;exact{{dx,s _ _ h1},h.rn.same s,s _ _ h.dk,h.kk.same s}
section
variable{P:aL}{w:bA}{K:af}{mg:Str->Option ae}{base:cu}{f fCp fCf fR CK CC CM CS CN:aa}{fd fdCp fdCf fdR:bS}
seal PS PSs PE PA PT PW PI PG PGs PC
abbrev nKm:List Str:=["self"]
abbrev pKm:List Str:=["self"]
theorem scKm:bK nKm pKm (aN hV):={}
inductive LD(CK:aa)(vs:List V)(H:Hp)(Q:VK)(_e:XK):Prop where
 |mk(k kd dx:aa)(m s e:V)(kvs:List (Key×V))(ns:List Int)(_:vs=[.ref k])(_:H k=Z8 (.ins CK dx (jH m s e (.ref kd))))(_:H kd=Z8 (.dK kvs))(_:kvs.map (·.1)=ns.map Sum.inl)(_:ns.length<64)(_:∀(l:aa) (ns':List Int),H l=Z7->ns'.Perm ns->ns'.Pairwise (·<=·)->Q (.ref l) (upd H l (.lst (ns'.map V.int)))):LD CK vs H Q _e
def NW(CK:aa):Sp:=fun vs H Q Z=>LD CK vs H Q Z
theorem LF(F:Fun K "marks" "Keeper.marks" hV f fd)(T:KeT K mg CK)(V:mg "sorted"=Z7):bh P w K mg base CX0 1 f fd pKm (NW CK):=by
 refine F.ok scKm (fun vs H Q E h=>?_) (fun W A outer s H vs Q E O h=>?_)
 ·obtain⟨k,Z,dx,m,s',e,kvs,ns,rfl,_⟩:=h;rfl
 obtain⟨k,Z,dx,m,s',e,kvs,ns,rfl,h1,h2,Y,U,q⟩:=h;refine{_,aA (bJ (cT (yZ rfl) (by rfl) V PyProof.Rows.boot_sorted (ak (cM K (by rfl) (pv 0) (by rfl)) aj))),?_};exact fH {_,Z9,k,CK,dx,_,_,Z9,h1,T.cl,T.nK,Ia _ _ _ _,Z,ns,kvs,Z9,h2,Y,U,q}
abbrev nKc:List Str:=["self","number"]
abbrev pKc:List Str:=["self","number"]
theorem scKc:bK nKc pKc (aN fJ):={}
inductive LH(CK CC CM CS CN:aa)(vs:List V)(H:Hp)(Q:VK)(E:XK):Prop where
 |mk(Ms:List MD)(es:List Ev)(k m sl kd:aa)(ev n:Int)(kvs:List (Key×V))(_:vs=[.ref k,.int n])(_:BB CK CC CM CS Ms es H k m sl kd ev kvs)(_:(n∉jD kvs->E (.ref CN) Z7 H))(_:∀(G:Hp) (c' sl' pl':aa) (nn:Nat) (r:RS),n∈jD kvs->n=nn->Mrk Ms es nn r->r.pd.length<=900000->iq CC CS Ms H ⟨[c',sl',pl'],H⟩ G c' m sl' pl' r->Q (.ref c') G):LH CK CC CM CS CN vs H Q E
def spKc(CK CC CM CS CN:aa):Sp:=fun vs H Q E=>LH CK CC CM CS CN vs H Q E
theorem ok_kc(F:Fun K "course_from" "Keeper.course_from" fJ f fd)(Z:Mt K CC "copy" "Course.copy" gS pCc fCp fdCp)(U:bh P w K mg base CX0 4 fCp fdCp pCc (HZ CC CS))(T:KeT K mg CK)(TC:CoT K mg CC)(mN:mg "NoMark"=Z8 (.ref CN))(xN:cX K CN pO "ValueError.__new__"=true):bh P w K mg base (CXo P w) 5 f fd pKc (spKc CK CC CM CS CN):=by
 refine F.okX scKc (fun vs H Q E h=>?_) (fun bB A outer s H vs Q E I h=>?_)
 ·obtain⟨Ms,es,k,m,sl,W,ev,n,kvs,rfl,_⟩:=h;rfl
 obtain⟨Ms,es,k,m,sl,W,ev,n,kvs,rfl,hk,no,q⟩:=h;have Y:=lQ I;have g:cZ 4 _:=I;refine⟨_,ai (cN (qR (D0 Y (pv 1) (cM K (by rfl) (pv 0) (by rfl)))) (aA (j8 dW rfl rfl mN xN ((dA cg aj)))) bZ)
  (aA (bJ (gB (qy Y (cM K (by rfl) (pv 0) (by rfl)) (pv 1) (fun _ _=>rfl)) TC.cl Z.m U g Z.b .nil aY))),?_⟩
 have big:=dZ;obtain⟨dx,D⟩:=hk.ob;have J:oW H W (.int n) (jF kvs (Sum.inl n)):=oW.k (k:=Sum.inl n) hk.dk;refine cb (iA {_,Z9,_,Z9,k,CK,dx,_,_,Z9,D,T.cl,T.nK,Ia _ _ _ _,W,_,Z9,J,_,Z9,?_});have key:=hk.kk.keys
 cases e:jF kvs (Sum.inl n) with
 |none=>
  refine ja {Es,no fun z=>?_};refine FE e ?_;rw[key];exact je z
 |some v=>
  refine gf ?_;dsimp only[lP];have mem:=Ko e;have nm:n∈jD kvs:=by
   have:=je (f:=(·.1)) mem;rw[key]at this;obtain⟨x,hx,e'⟩:=cq.mp this
   cases e';exact hx
  obtain⟨nn,c,r,eq,h1,h2,t,h4⟩:=hk.kk.at_ _ mem
  cases eq;rw[e]at J;obtain⟨O,bF,bz,rv,sv,ss,ps,g1,_⟩:=id h1;refine fH {_,Z9,k,CK,dx,_,_,Z9,D,T.cl,T.nK,Ia _ _ _ _,_,Z9,W,_,Z9,J,c,O,_,Z9,g1,wg _ _ _ _ _ (by decide +kernel),Ms,c,m,r,Z9,h1,h2,hk.rn.lm,by omega,fun G c' V M C=>q G c' V M nn r nm rfl t h4 C}
abbrev nKg:List Str:=["self","number","most"]
abbrev pKg:List Str:=["self","number","most"]
theorem scKg:bK nKg pKg (aN iK):={}
inductive LI(CK CC CM CS CN:aa)(vs:List V)(H:Hp)(Q:VK)(E:XK):Prop where
 |mk(Ms:List MD)(es:List Ev)(k m sl kd:aa)(ev n most:Int)(kvs:List (Key×V))(_:vs=[.ref k,.int n,.int most])(_:BB CK CC CM CS Ms es H k m sl kd ev kvs)(_:most<=1000)(_:(n∉jD kvs->E (.ref CN) Z7 H))(_:∀(G:Hp) (t rl:aa) (en:V) (rvs:List V) (nn i:Nat) (r:RS) (e:End),n∈jD kvs->n=nn->Mrk Ms es nn r->lD Ms r most i e->aT H G->G t=Z8 (.tup [.ref rl,en])->G rl=Z8 (.lst rvs)->H rl=Z7->aH (RcIn G) rvs (itR Ms r i).2->nF G en e->Q (.ref t) G):LI CK CC CM CS CN vs H Q E
def spKg(CK CC CM CS CN:aa):Sp:=fun vs H Q E=>LI CK CC CM CS CN vs H Q E
theorem ok_kg(F:Fun K "go_on" "Keeper.go_on" iK f fd)(W:Mt K CK "course_from" "Keeper.course_from" fJ pKc fCf fdCf)(M:bh P w K mg base (CXo P w) 5 fCf fdCf pKc (spKc CK CC CM CS CN))(J:Df K mg "run_on" m8 ["course","most"] fR fdR)(GR:bh P w K mg base CX0 39 fR fdR ["course","most"] (CH CC CM CS))(T:KeT K mg CK):bh P w K mg base (CXo P w) 40 f fd pKg (spKg CK CC CM CS CN):=by
 refine F.okX scKg (fun vs H Q E h=>?_) (fun bG A outer s H vs Q E D h=>?_)
 ·obtain⟨Ms,es,k,m,sl,kd,ev,n,Z,kvs,rfl,_⟩:=h;rfl
 obtain⟨Ms,es,k,m,sl,kd,ev,n,Z,kvs,rfl,hk,hm,no,q⟩:=h;have r5:cZ 5 _:=D.mono (by decide);have U:cZ 39 _:=D;refine{_,aA (bJ (aM GR U (by rfl) J.m J.F.kp J.b .nil aY (iY (fZ (pv 0) T.cl W.m M r5 W.b .nil (dW.passes fun _ _ _ z=>z) (bN (pv 1) aj)) (bN (pv 2) aj)))),?_};obtain⟨dx,ob⟩:=hk.ob;refine fH {_,Z9,k,dx,_,Z9,ob,qq _ _ _ _ (by decide +kernel),_,Z9,Ms,es,k,m,sl,kd,ev,n,kvs,Z9,hk,no,fun G c' Y V nn r nm en hM lp C=>?_};refine{_,Z9,Ms,H,_,c',m,Y,V,r,Z,Z9,hk.rn.mo,C,hm,by omega,fun g t i e R=>?_};obtain⟨rl,env,rvs,g1,I,_,g3,g4⟩:=R.rs;have sH:aT H g:=fun a o e=>(R.cc.sm a o e).2.2.2;have O:H rl=Z7:=by
  cases z:H rl with
  |none=>rfl
  |some o=>
   refine absurd (.inr {o,z,fun xs y=>?_}:rl∈({[c',Y,V],H}:Ex)) (dN I);have:=cG _ _ I;rw[sH _ _ z,y]at this
   cases this
 exact q g t rl env rvs nn i r e nm en hM R.st sH (cG _ _ g1) (cG _ _ I) O (Paired.mono (fun _ _ z=>z.same cG) g3) (g4.same cG)
end
theorem Aj{kvs:List (Key×V)}{k:Key}{v:V}(h:k∉kvs.map (·.1)):iW kvs k v=kvs++[(k,v)]:=zx v (by
 cases z:jF kvs k with
 |none=>rfl
 |some x=>exact absurd (BU z) h)
def MoT(CM:aa)(Ms:List MD)(H:Hp)(m:aa):Prop:=∃(dx Z:aa) (fs:List (Str×V)),H m=Z8 (.ins CM dx fs)/\fs.lookup ("machines":Str)=Z8 (.ref Z)/\yN (Ms.length:Int) H Z Ms/\Tree H 29 (.ref Z)
theorem MoT.at{CM:aa}{Ms:List MD}{H:Hp}{m:aa}(h:MoT CM Ms H m):uC CM Ms H m:=by
 obtain⟨dx,Y,fs,h1,h2,Z,_⟩:=h;exact⟨dx,Y,fs,h1,h2,Z⟩
theorem Tree.mono{H G:Hp}(s:aT H G):∀{n:Nat} {v:V},Tree H n v->Tree G n v
 |0,_,h=>h
 |n+1,v,h=>by
  rcases h with h|⟨p,xs,e,h1,h2,Z⟩
  ·exact .inl h
  ·exact .inr {p,xs,e,h1.imp (s _ _) (s _ _),h2,fun x hx=>Tree.mono s (Z x hx)}
theorem MoT.same{CM:aa}{Ms:List MD}{H G:Hp}{m:aa}(s:aT H G)(h:MoT CM Ms H m):MoT CM Ms G m:=by
 obtain⟨dx,Y,fs,h1,h2,Z,W⟩:=h;exact{dx,Y,fs,s _ _ h1,h2,Z.same s,W.mono s}
theorem Alike.tree{H H':Hp}:∀{n:Nat} {v Z:V},Tree H n v->Alike H H' n v Z->Tree H' n Z
 |0,v,Z,h,a=>by
  rw[show Z=v from a];exact h
 |n+1,v,Z,h,a=>by
  rcases a with⟨h1,rfl⟩|⟨p,Y,xs,ys,rfl,rfl,h1,h2,r⟩|⟨p,Y,xs,ys,rfl,rfl,h1,h2,r⟩
  ·exact .inl h1
  all_goals
   rcases h with h|⟨q,zs,e,e1,U,e3⟩
   ·cases h
   ·cases e;have W:zs=xs:=by
     rcases e1 with e1|e1
     all_goals
      rw[h1]at e1
      cases e1
      try rfl
    subst W;refine .inr {Y,ys,Z9,?_,by rw[<- aV r];exact U,fun y hy=>?_}
    ·first
      |exact .inl h2
      |exact .inr h2
    ·obtain⟨j,O⟩:=dB hy;obtain⟨x,hx,z⟩:=jQ r O;exact Alike.tree (e3 x (bD hx)) z
theorem Ic{m:Int}{H H2:Hp}{W:aa}{Ms:List MD}{Y:V}(h:yN m H W Ms)(t:Tree H 29 (.ref W))(U:Alike H H2 29 (.ref W) Y):∃Z,Y=.ref Z/\yN m H2 Z Ms/\Tree H2 29 (.ref Z):=by
 have t':=Alike.tree t U;obtain⟨xs,h0,p⟩:=h;obtain⟨Z,ys,rfl,h1,O⟩:=m9 h0 U;refine⟨Z,rfl,⟨ys,h1,qz (R:=MoI m H) (S:=Alike H H2 28) (T:=Tree H 28) (fun v M Y z b c=>?_) p O fun x hx=>?_⟩,t'⟩
 ·exact⟨z.ma.alike c b,z.fs.alike b,z.kb,z.nb,z.nq,z.lb,z.lq,z.ld,z.lh,z.wb,z.hk⟩
 ·rcases t with t|⟨q,zs,e,e1,J,e3⟩
  ·cases t
  ·cases e
   rcases e1 with e1|e1
   ·rw[h0]at e1
    cases e1;exact e3 x hx
   ·rw[h0]at e1
    cases e1
theorem iq.kx{CC CS:aa}{Ms:List MD}{Hb G:Hp}{c m sl pl:aa}{r:RS}{ex:Ex}(h:iq CC CS Ms Hb ⟨[c,sl,pl],Hb⟩ G c m sl pl r)(n:∀a∈ex,∃o,Hb a=Z8 o/\∀xs,o≠.tup xs):CoK CC CS m (Hid ex G) c r:=by
 obtain⟨dx,J,H,h1,h2,W⟩:=h.hc;obtain⟨ss,M,V⟩:=h.hs;obtain⟨ps,O,I⟩:=h.hp;have s:aT (Hid ⟨[c,sl,pl],Hb⟩ G) (Hid ex G):=fun a o e=>by
  have Y:a∉ex:=fun z=>by
   obtain⟨o',Z,q⟩:=n a z;exact dN e (.inr ⟨o',Z,q⟩)
  rw[cW Y];exact cG _ _ e
 have v:∀{a:aa} {o:HO},a∉ex->G a=Z8 o->Hid ex G a=Z8 o:=fun Y e=>by
  rw[cW Y];exact e
 have U:c∉ex:=fun z=>by
  obtain⟨o',Z,_⟩:=n _ z;exact (h.sm _ _ Z).1 rfl
 have ns:sl∉ex:=fun z=>by
  obtain⟨o',Z,_⟩:=n _ z;exact (h.sm _ _ Z).2.1 rfl
 have np:pl∉ex:=fun z=>by
  obtain⟨o',Z,_⟩:=n _ z;exact (h.sm _ _ Z).2.2.1 rfl
 exact{dx,sl,pl,J,H,ss,ps,v U h1,h2.same s,W.same s,v ns M,Paired.mono (fun _ _ z=>iG.same' s z) V,v np O,Paired.mono (fun _ _ z=>z.same s) I}
def atL(num:Int)(q:Key×V):Bool:=match q.1 with
 |.inl n=>decide (num<=n)
 |.inr _=>true
theorem NX{CM:aa}{G H2 G':Hp}{m Z k:aa}{U:V}(O:Z≠m)(hk:G k≠Z7)(b:But k (upd H2 m (.ins CM Z (cE "machines" U []))) G'):aT (Nw (upd (upd G Z (.own m)) m (.ins CM Z [])) H2) (Hid {[],G} G'):=fun a o e=>by
 have n:(upd (upd G Z (.own m)) m (.ins CM Z [])) a=Z7:=by
  unfold Nw at e
  by_cases c:(upd (upd G Z (.own m)) m (.ins CM Z [])) a=Z7
  ·exact c
  ·rw[if_neg c]at e
   cases e
 have Y:a≠m:=fun z=>by
  rw[z,ag]at n
  cases n
 have W:a≠Z:=fun z=>by
  rw[z,aJ O,ag]at n
  cases n
 have M:G a=Z7:=by
  rw[aJ Y,aJ W]at n;exact n
 rw[cW (iT M)];exact b _ _ (by rw[aJ Y];exact nw_le _ _ e) fun z=>hk (z ▸ M)
theorem mo_h{CM:aa}{Ms:List MD}{G H2 G':Hp}{m Z Y k:aa}(nm:G m=Z7)(W:Z≠m)(hk:G k≠Z7)(V:yN (Ms.length:Int) (Nw (upd (upd G Z (.own m)) m (.ins CM Z [])) H2) Y Ms)(t:Tree (Nw (upd (upd G Z (.own m)) m (.ins CM Z [])) H2) 29 (.ref Y))(b:But k (upd H2 m (.ins CM Z (cE "machines" (.ref Y) []))) G'):MoT CM Ms (Hid {[],G} G') m:=by
 have s:=NX W hk b;exact{Z,Y,_,by rw[cW (iT nm)];exact b _ _ ag (fun z=>hk (z ▸ nm)),Z9,V.same s,t.mono s}
section
variable{P:aL}{w:bA}{K:af}{mg:Str->Option ae}{base:cu}{f fMI fCa CK CC CM CS:aa}{fd fdMI fdCa:bS}
seal PS PSs PE PA PT PW PI PG PGs PC
abbrev nKt:List Str:=["self","number","left","mark","course"]
abbrev pKt:List Str:=["self","number"]
theorem Kq:bK nKt pKt (aN jx):={}
inductive LJ(CK CC CS:aa)(vs:List V)(H:Hp)(Q:VK)(_e:XK):Prop where
 |mk(F:Hp)(Ms:List MD)(es:List Ev)(mo k kd dx:aa)(m s e:V)(num:Int)(kvs:List (Key×V))(_:vs=[.ref k,.int num])(_:H k=Z8 (.ins CK dx (jH m s e (.ref kd))))(_:Wp k H kd=Z8 (.dK kvs))(_:Kpt CC CS mo Ms es F kvs)(_:∀(G:Hp) (kd':aa) (kvs':List (Key×V)),But k H G->G k=Z8 (.ins CK dx (jH m s e (.ref kd')))->G kd'=Z8 (.dK kvs')->H kd'=Z7->kvs'=kvs.filter (atL num)->Kpt CC CS mo Ms es F kvs'->Q .non G):LJ CK CC CS vs H Q _e
def spKt(CK CC CS:aa):Sp:=fun vs H Q Z=>LJ CK CC CS vs H Q Z
theorem ok_kt(F:Fun K "cut" "Keeper.cut" jx f fd)(T:KeT K mg CK):bh P w K mg base CX0 1 f fd pKt (spKt CK CC CS):=by
 refine F.ok Kq (fun vs H Q E h=>?_) (fun bI A outer s H vs Q E hr h=>?_)
 ·obtain⟨F,Ms,es,mo,k,Z,dx,m,s',e,num,kvs,rfl,_⟩:=h;rfl
 obtain⟨F,Ms,es,mo,k,Z,dx,m,s',e,num,kvs,rfl,h1,h2,O,q⟩:=h;have cc:=lQ hr;refine⟨_,ai (bM (i:=2) Kq.nd rfl (Or.inl rfl) pK)
  (ai (B4 (iH cF rfl (zN (cM K (by rfl) (pv 0) (by rfl))) (vt rfl (i9 (df (i:=3) Kq.nd rfl (Or.inl rfl)) (i9 (df (i:=4) Kq.nd rfl (Or.inl rfl)) rC))) (aA (cN (bP Fi (pv 3) (pv 1) (bV _)) (aA (kK cc (pv 2) (pv 3) (pv 4) rfl)) bZ))))
  (aA (eD (pv 0) (pv 2) rfl))),?_⟩
 have big:=dZ;obtain⟨bW,Y⟩:=uo h2;refine cb (dy fun d D=>bL ?_);have s1:=aD D (.dK []);dsimp only;have nf:∀(ob:Obj) (u:HO),H Z≠Z8 (.frz ob u):=fun ob u z=>by
  rw[Y]at z
  cases z
 have ca:d≠k:=(av h1 D).symm;have U:d≠Z:=(av Y D).symm;refine cb {_,Z9,k,CK,dx,_,_,Z9,s1 _ _ h1,T.cl,T.nK,Ia _ _ _ _,Z,_,Z9,s1 _ _ Y,nf,fun od=>?_};refine xI (d:=Z) (od:=od) (kvs:=kvs) (fun i σ G=>∃(v3 v4:Option V) (ks:List (Key×V)),σ=[Z8 (.ref k),Z8 (.int num),Z8 (.ref d),v3,v4]/\G Z=Z8 (.frz od (.dK kvs))/\(∀b o,H b=Z8 o->b≠Z->G b=Z8 o)/\G d=Z8 (.dK ks)/\ks=(kvs.take i).filter (atL num)) {_,_,[],Z9,ag,fun b o e n=>?_,?_,Z9} ?_ ?_ ?_
 ·rw[aJ n];exact s1 _ _ e
 ·rw[aJ U];exact ag
 ·rintro i σ G _ ⟨_,_,_,_,h,_⟩;exact h
 ·rintro i kv t σ G hi ⟨v3,v4,ks,rfl,g1,g2,g3,W⟩ ht;have il:=(aF.mp hi).1;obtain⟨n,c,r,rfl,_⟩:=O.at_ kv (bD hi);have st:=aD ht (.tup [.int n,.ref c]);have tk:kvs.take (i+1)=kvs.take i++[(Sum.inl (n:Int),V.ref c)]:=by
   rw[d9,hi];rfl
  refine{t,_,Z9,SqT.of ag,Z9,_,_,Z9,bL {_,_,Z9,bL {Z9,?_}}};dsimp only;refine iA {_,Z9,_,Z9,_,_,Z9,Z9,_,Z9,gp (fun c1=>?_) (fun c1=>?_)}
  ·have M:ks.Sublist (kvs.take i):=W ▸ EF;have few:ks.length<aC:=by
    have:=M.length_le;rw[cK]at this;have:=O.few;omega
   have dp:=rH.k (k:=Sum.inl (n:Int)) (v:=.ref c) (st _ _ g3) few;have cd:(Sum.inl (n:Int):Key)∉ks.map (·.1):=fun z=>by
    have I:((kvs.take (i+1)).map (·.1)).Nodup:=by
     rw[zo];exact O.nd.sublist (mP _ _)
    rw[tk,bT]at I;exact (gY.mp I).2.2 _ ((M.map (·.1)).subset z) (Sum.inl (n:Int)) (by simp) rfl
   rw[Aj cd]at dp;refine{_,Z9,_,Z9,_,Z9,d,_,Z9,dp,{_,_,ks++[(Sum.inl (n:Int),V.ref c)],Z9,aP (st _ _ g1) U.symm,fun b o e J=>?_,ag,?_}}
   ·exact aP (st _ _ (g2 _ _ e J)) (av e D)
   ·rw[tk,me,<- W,ie (show atL num (Sum.inl (n:Int),V.ref c)=true from c1)];rfl
  ·exact{_,_,ks,Z9,st _ _ g1,fun b o e J=>st _ _ (g2 _ _ e J),st _ _ g3,by rw[tk,me,<- W,ig (show ¬atL num (Sum.inl (n:Int),V.ref c)=true from c1),Kr,cB]}
 ·rintro σ G ⟨v3,v4,ks,rfl,g1,g2,g3,W⟩;rw[dS]at W;have M:ks.Sublist kvs:=W ▸ EF;refine{Z,od,_,g1,nf,?_};have sH:aT H (upd G Z (.dK kvs)):=fun b o e=>by
   by_cases c:b=Z
   ·rw[c,ag];rw[c,Y]at e;exact e
   ·rw[aJ c];exact g2 _ _ e c
  have g:upd G Z (.dK kvs) d=Z8 (.dK ks):=aP g3 U;generalize upd G Z (.dK kvs)=G2 at sH g;dsimp only;refine{_,Z9,_,Z9,k,CK,dx,_,Z9,sH _ _ h1,T.cl,T.nK,Ib _ _ _ _,?_};rw[C9];have bt:But k H (upd G2 k (.ins CK dx (jH m s' e (.ref d)))):=fun b o e J=>aP (sH _ _ e) J;exact q _ d ks bt ag (aP g ca) D W {fun x hx=>O.at_ x (M.subset hx),O.nd.sublist (M.map (·.1)),cY M.length_le O.few}
abbrev nKi:List Str:=["self","model","signs","every"]
abbrev pKi:List Str:=["self","model","signs","every"]
theorem scKi:bK nKi pKi (aN mC):={}
inductive LK(CK CC CM CS:aa)(vs:List V)(H:Hp)(Q:VK)(_e:XK):Prop where
 |mk(Ms:List MD)(es:List Ev)(k dx m0 sg:aa)(ev:Int)(_:vs=[.ref k,.ref m0,.ref sg,.int ev])(_:H k=Z8 (.ins CK dx []))(_:MoT CM Ms H m0)(_:Rn CM Ms es H m0 sg)(_:1<=ev)(_:ev<=100)(_:∀(G:Hp) (m sl kd co:aa),But k H G->G k=Z8 (.ins CK dx (jH (.ref m) (.ref sl) (.int ev) (.ref kd)))->Rn CM Ms es (Hid ⟨[],H⟩ G) m sl->Hid ⟨[],H⟩ G kd=Z8 (.dK [(Sum.inl 0,.ref co)])->Kpt CC CS m Ms es (Hid ⟨[],H⟩ G) [(Sum.inl 0,.ref co)]->Q .non G):LK CK CC CM CS vs H Q _e
def NY(CK CC CM CS:aa):Sp:=fun vs H Q Z=>LK CK CC CM CS vs H Q Z
theorem ok_ki(F:Fun K "__init__" "Keeper.__init__" mC f fd)(dG:Mk K CM fMI)(dv:bh P w K mg base CX0 31 fMI fdMI ["self","machines"] (MY CM 29))(dw:Binds K fdMI ["self","machines"] [])(I:Df K mg "course_at_first" e9 ["model","signs"] fCa fdCa)(du:bh P w K mg base CX0 4 fCa fdCa ["model","signs"] (CO CC CM CS))(T:KeT K mg CK)(TM:MdT K mg CM CS)(B:Bl mg):bh P w K mg base CX0 33 f fd pKi (NY CK CC CM CS):=by
 refine F.ok scKi (fun vs H Q E h=>?_) (fun dj A outer s H vs Q E hr h=>?_)
 ·obtain⟨Ms,es,k,dx,m0,sg,ev,rfl,_⟩:=h;rfl
 obtain⟨Ms,es,k,dx,m0,sg,ev,rfl,hk,hM,M,e1,e2,q⟩:=h;have dn:=lQ hr;have r4:cZ 4 _:=hr.mono (by decide);have dL:cZ 32 _:=hr;refine⟨_,ai (eD (pv 0) (jT dG dv dL (by rfl) TM.mM dw .nil aY (ak (cM K (by rfl) (pv 1) (by rfl)) aj)) rfl)
  (ai (eD (pv 0) (fg (qf K (by rfl)) (by rfl) B.list boot_list (bN (pv 2) aj)) rfl)
  (ai (eD (pv 0) (cT (xk rfl) (by rfl) B.max boot_max (bN (pv 3) (dA aw aj))) rfl)
  (aA (eD (pv 0) (BR (zC aw (aM du r4 (by rfl) I.m I.F.kp I.b .nil aY (ak (cM K (by rfl) (pv 0) (by rfl)) (ak (cM K (by rfl) (pv 0) (by rfl)) aj))) BQ) rfl rfl (by simp) (by decide)) rfl)))),?_⟩
 have big:=dZ;obtain⟨dz,ml,fs,g1,g2,g3,g4⟩:=hM;obtain⟨Z,D,dq⟩:=M.sg;refine cb (tM ?_);refine{_,Z9,m0,CM,dz,_,_,Z9,g1,TM.clM,TM.nM,g2,fun m W hm dV ea=>?_};have sA:aT H (upd (upd H W (.own m)) m (.ins CM W [])):=fun b o e=>by
  rw[aJ (av e hm),aJ (av e dV)];exact e
 refine{m,W,.ref ml,Z9,ag,g4.mono sA,fun v' G5 s5 al=>{Z9,?_}};obtain⟨g,rfl,eh,ed⟩:=Ic (g3.same sA) (g4.mono sA) al;have kn:H k≠Z7:=fun z=>by
  rw[hk]at z
  cases z
 have dk:m≠k:=(av hk hm).symm;have U:aT H (upd G5 m (.ins CM W (cE "machines" (.ref g) []))):=qe (sA.trans s5) hm _;have mo:∀{G:Hp},But k (upd G5 m (.ins CM W (cE "machines" (.ref g) []))) G->uC CM Ms (Hid {[],H} G) m:=fun b=>(mo_h hm ea kn eh ed b).at;revert mo U;generalize upd G5 m (.ins CM W (cE "machines" (.ref g) []))=GM;intro U mo;clear eh ed al s5 sA dV ea;refine{_,Z9,k,CK,dx,_,Z9,U _ _ hk,T.cl,T.nM,(by show 0<1000;decide),?_};have b1:But k GM (upd GM k (.ins CK dx (cE "model" (.ref m) []))):=But.upd k GM _;have dp:sg≠k:=fun z=>by
  rw[z,hk]at D
  cases D
 refine cb {_,Z9,sg,Z,Z9,.inl (SqL.of (b1 _ _ (U _ _ D) dp)),fun sl Y=>{_,Z9,k,CK,dx,_,Z9,(aD Y (.lst Z)) _ _ ag,T.cl,T.nS,(by show 1<1000;decide),?_}};have dt:H sl=Z7:=by
  cases z:H sl with
  |none=>rfl
  |some o=>
   have y:=U _ _ z
   by_cases c:sl=k
   ·rw[c,ag]at Y
    cases Y
   ·rw[aJ c,y]at Y
    cases Y
 have J:sl≠k:=(av (ag:upd GM k (.ins CK dx (cE "model" (.ref m) [])) k=_) Y).symm;refine cb {_,Z9,ev,1,Z9,_,Z9,k,CK,dx,_,Z9,ag,T.cl,T.nE,(by show 2<1000;decide),?_};rw[if_neg (by omega:¬(1:Int)>ev)];have V:upd (upd (upd (upd GM k (.ins CK dx (cE "model" (.ref m) []))) sl (.lst Z)) k (.ins CK dx (cE "signs" (.ref sl) (cE "model" (.ref m) [])))) k (.ins CK dx (cE "every" (.int ev) (cE "signs" (.ref sl) (cE "model" (.ref m) [])))) k=Z8 (.ins CK dx [("model",.ref m),("signs",.ref sl),("every",.int ev)]):=ag;have b4:But k GM (upd (upd (upd (upd GM k (.ins CK dx (cE "model" (.ref m) []))) sl (.lst Z)) k (.ins CK dx (cE "signs" (.ref sl) (cE "model" (.ref m) [])))) k (.ins CK dx (cE "every" (.int ev) (cE "signs" (.ref sl) (cE "model" (.ref m) []))))):=(((b1.same (aD Y _)).trans (But.upd k _ _)).trans (But.upd k _ _));have qs:upd (upd (upd (upd GM k (.ins CK dx (cE "model" (.ref m) []))) sl (.lst Z)) k (.ins CK dx (cE "signs" (.ref sl) (cE "model" (.ref m) [])))) k (.ins CK dx (cE "every" (.int ev) (cE "signs" (.ref sl) (cE "model" (.ref m) [])))) sl=Z8 (.lst Z):=aP (aP ag J) J;revert V b4 qs;generalize upd (upd (upd (upd GM k (.ins CK dx (cE "model" (.ref m) []))) sl (.lst Z)) k (.ins CK dx (cE "signs" (.ref sl) (cE "model" (.ref m) [])))) k (.ins CK dx (cE "every" (.int ev) (cE "signs" (.ref sl) (cE "model" (.ref m) []))))=G4;intro V b4 qs;clear b1 Y;have rn:∀{G:Hp},But k G4 G->Rn CM Ms es (Hid {[],H} G) m sl:=fun b=>⟨mo (b4.trans b),M.lm,⟨Z,by rw[cW (iT dt)];exact b _ _ qs J,Paired.mono (fun v e ⟨t,e',h⟩=>by
  have nt:t≠k:=fun z=>by
   rw[z,hk]at h
   cases h
  refine{t,e',?_};rw[cW fun z=>?_]
  ·exact b _ _ (b4 _ _ (U _ _ h) nt) nt
  ·rcases z with z|⟨o,z,y⟩
   ·cases z
   ·have z:H t=Z8 o:=z;rw[h]at z
    cases z;exact y _ rfl) dq⟩,M.le,M.ev⟩
 refine fun d hd=>?_;have O:=aD hd (.dK []);have R5:=(rn (But.same (But.refl k G4) O)).same cG;obtain⟨eb,ef,ee⟩:=R5.sg;refine{_,Z9,k,CK,dx,_,_,Z9,O _ _ V,T.cl,T.nM,Z9,_,Z9,k,CK,dx,_,_,Z9,O _ _ V,T.cl,T.nS,Z9,Ms,m,sl,eb,es,Z9,R5.mo,M.lm,ef,ee,M.le,M.ev,fun G6 co dl di C=>?_};have s6:aT (upd G4 d (.dK [])) G6:=fun a o e=>(C.sm a o e).2.2.2;refine{s6 _ _ ag,[(Sum.inl 0,.ref co)],Z9,(by show 1<=15;decide),?_};have ec:k≠d:=av V hd;refine{_,Z9,k,CK,dx,_,Z9,aP ((O.trans s6) _ _ V) ec,T.cl,T.nK,(by show 3<1000;decide),?_};have b7:But k G4 (upd (upd G6 d (.dK (jO [] [(Sum.inl 0,.ref co)]))) k (.ins CK dx (jH (.ref m) (.ref sl) (.int ev) (.ref d)))):=fun b o e nb=>aP (aP ((O.trans s6) _ _ e) (av e hd)) nb;have nH:∀{a:aa},G4 a=Z7->H a=Z7:=fun {a} z=>by
  cases y:H a with
  |none=>rfl
  |some o=>
   by_cases c:a=k
   ·rw[c,V]at z
    cases z
   ·rw[b4 _ _ (U _ _ y) c]at z
    cases z
 have K7:CoK CC CS m (Hid {[k,d],H} (upd (upd G6 d (.dK (jO [] [(Sum.inl 0,.ref co)]))) k (.ins CK dx (jH (.ref m) (.ref sl) (.int ev) (.ref d))))) co (gy Ms es):=by
  rw[iD (.inl (by simp)),iD (.inl (by simp))];refine C.kx fun a ha=>?_
  rcases ha with ha|⟨o,e,nt⟩
  ·have ha:a∈[k,d]:=ha;simp only[ar,aI,or_false]at ha
   rcases ha with rfl|rfl
   ·exact{_,O _ _ V,fun xs z=>by cases z}
   ·exact{_,ag,fun xs z=>by cases z}
  ·by_cases c:a=k
   ·rw[c];exact{_,O _ _ V,fun xs z=>by cases z}
   ·exact{o,O _ _ (b4 _ _ (U _ _ e) c),nt}
 have sh:∀{F:Hp},aT (Hid {[k,d],H} F) (Hid {[],H} F):=fun {F} a o e=>by
  have n:a∉({[],H}:Ex):=fun z=>dN e (z.elim (fun y=>absurd y aI) .inr);rw[cW n];exact cG _ _ e
 refine q _ m sl d co (fun b o e nb=>b7 _ _ (b4 _ _ (U _ _ e) nb) nb) ag (rn b7) ?_ {fun x hx=>?_,cC.mpr {(fun z=>by cases z),ic},by show 1<=50;decide}
 ·rw[cW (iT (nH hd))];exact aP ag ec.symm
 ·rw[aE.mp hx];refine{0,co,gy Ms es,Z9,K7.same sh,C.rst,LC Ms es,?_};show (oE (qm es) []).length<=900000;rw[(gb _ _).length_eq,cB,lE];have:=M.le;omega
end
theorem Ie{Z Y:Type}{F:Z->Y->Prop}{xs zs:List Z}{ys us:List Y}(h:aH F xs ys)(z:aH F zs us):aH F (xs++zs) (ys++us):=by
 induction h with
 |nil=>exact z
 |cons x _ W=>exact .cons x W
theorem EG:eK "min"=Z8 (.builtin "min"):=by decide +kernel
theorem Da{Ms:List MD}{r:RS}(Y:EB Ms){Z:Int}:∀{i:Nat},(∀j,j<i->ROk Ms.length (itR Ms r j).1/\ib (itR Ms r j).1 (Z-(itR Ms r j).2.length)=Z7)->(itR Ms r i).1.pd.length<=r.pd.length+5000*(itR Ms r i).2.length
 |0,_=>vU _ _
 |i+1,h=>by
  have a:=Da Y (i:=i) fun j W=>h j (by omega);have q:=h i (by omega);have b:=(rT (vg Y q.1 (jB q.2).2.1)).1;show (gP Ms (itR Ms r i).1).1.pd.length<=r.pd.length+5000*((itR Ms r i).2++(gP Ms (itR Ms r i).1).2).length;rw[ay];omega
theorem Ig{r:RS}{k Z:Int}{e:End}(h:ib r k=Z8 e)(c:e≠.cut\/Z<=0):∃Y,ib r Z=Z8 Y:=by
 unfold ib at h |-
 split at h
 ·exact{_,Z9}
 ·split at h
  ·rename_i y
   rw[if_pos y];exact{_,Z9}
  ·rename_i y
   rw[if_neg y]
   split at h
   ·cases h
    rcases c with c|c
    ·exact absurd rfl c
    ·rw[if_pos c];exact{_,Z9}
   ·cases h
theorem Ks{r:RS}{k:Int}(h:ib r k=Z8 .cut):k<=0:=by
 unfold ib at h
 split at h
 ·cases h
 ·split at h
  ·cases h
  ·split at h
   ·assumption
   ·cases h
abbrev kx(H:Hp)(k co s p d rl:aa):Ex:={[k,co,s,p,d,rl],H}
theorem LL{H:Hp}{k co s p d rl a:aa}(h:a∈kx H k co s p d rl):(a=k\/a=co\/a=s\/a=p\/a=d\/a=rl)\/∃o,H a=Z8 o/\∀xs,o≠.tup xs:=by
 rcases h with h|h
 ·have h:a∈[k,co,s,p,d,rl]:=h;exact .inl (by simpa using h)
 ·exact .inr h
noncomputable def On(ex:Ex)(G:Hp):Hp:=fun a=>by
 classical
 exact if a∈ex\/∃xs,G a=Z8 (.tup xs) then G a else Z7
section
variable{ex:Ex}{G G':Hp}{a:aa}{o:HO}
theorem on_at(h:a∈ex\/∃xs,G a=Z8 (.tup xs)):On ex G a=G a:=if_pos h
theorem qQ(h:On ex G a=Z8 o):(a∈ex\/∃xs,o=.tup xs)/\G a=Z8 o:=by
 unfold On at h
 split at h
 ·rename_i z
  refine{z.imp id fun⟨xs,e⟩=>{xs,?_},h};rw[h]at e;exact cI e
 ·cases h
theorem mi(h:a∈ex\/∃xs,o=.tup xs)(e:G a=Z8 o):On ex G a=Z8 o:=by
 rw[on_at (h.imp id fun⟨xs,z⟩=>{xs,by rw[e,z]})];exact e
theorem on_le:aT (On ex G) G:=fun _ _ e=>(qQ e).2
noncomputable def Ex.grow(ex:Ex)(G G':Hp):Ex:=⟨ex.l,fun a=>by
 classical
 exact if ex.b a=Z7 then (if G a=Z7 then G' a else Z7) else ex.b a⟩
theorem gE(h:a∈ex):a∈ex.grow G G':=by
 rcases h with h|⟨o,e,n⟩
 ·exact .inl h
 ·refine .inr {o,?_,n};show (if ex.b a=Z7 then _ else ex.b a)=_;rw[if_neg (by rw[e];exact fun z=>by cases z),e]
theorem Dc(h:a∈ex.grow G G'):a∈ex\/(G a=Z7/\∃o,G' a=Z8 o/\∀xs,o≠.tup xs):=by
 rcases h with h|⟨o,e,n⟩
 ·exact .inl (.inl h)
 ·have e:(if ex.b a=Z7 then (if G a=Z7 then G' a else Z7) else ex.b a)=Z8 o:=e
  split at e
  ·split at e
   ·rename_i z
    exact .inr ⟨z,o,e,n⟩
   ·cases e
  ·exact .inl (.inr ⟨o,e,n⟩)
theorem Ak(hb:ex.b a=Z7)(h:G a=Z7)(e:G' a=Z8 o)(n:∀xs,o≠.tup xs):a∈ex.grow G G':=by
 refine .inr {o,?_,n};show (if ex.b a=Z7 then (if G a=Z7 then G' a else Z7) else ex.b a)=_;rw[if_pos hb,if_pos h];exact e
theorem De(hb:∀a,G a=Z7->ex.b a=Z7)(s:aT G G'):∀a,G' a=Z7->(ex.grow G G').b a=Z7:=fun a z=>by
 have g:G a=Z7:=by
  cases y:G a with
  |none=>rfl
  |some o=>
   rw[s _ _ y]at z
   cases z
 show (if ex.b a=Z7 then (if G a=Z7 then G' a else Z7) else ex.b a)=Z7;rw[if_pos (hb a g),if_pos g];exact z
theorem Al(s:aT G G'):aT (Hid ex G) (Hid (ex.grow G G') G'):=fun a o e=>by
 have Z:=cG _ _ e;rw[cW fun z=>?_]
 ·exact s _ _ Z
 ·rcases Dc z with z|⟨z,_⟩
  ·exact dN e z
  ·rw[z]at Z
   cases Z
end
theorem iq.grow{CC CS:aa}{Ms:List MD}{Hb G G':Hp}{co m sl pl:aa}{r:RS}{ex:Ex}(c:iq CC CS Ms Hb ex G co m sl pl r)(s:aT G G'):iq CC CS Ms Hb (ex.grow G G') G' co m sl pl r:=by
 obtain⟨dx,U,M,h1,h2,Z⟩:=c.hc;obtain⟨ss,V,Y⟩:=c.hs;obtain⟨ps,W,O⟩:=c.hp;have g:=Al (ex:=ex) s;refine{c.ok,fun b o e=>?_,gE c.i1,gE c.i2,gE c.i3,c.n1,c.n2,c.n3,{dx,U,M,s _ _ h1,h2.same g,Z.same g},{ss,s _ _ V,Paired.mono (fun _ _ z=>iG.same' g z) Y},{ps,s _ _ W,Paired.mono (fun _ _ z=>z.same g) O},c.wk,fun a ha=>?_}
 ·obtain⟨a1,a2,a3,a4⟩:=c.sm b o e;exact{a1,a2,a3,s _ _ a4}
 ·rcases Dc ha with ha|⟨_,z⟩
  ·obtain⟨o,e,n⟩:=c.nt a ha;exact{o,s _ _ e,n}
  ·exact z
theorem iq.kon{CC CS:aa}{Ms:List MD}{Hb G:Hp}{c m sl pl:aa}{r:RS}{ex kx:Ex}(h:iq CC CS Ms Hb {[c,sl,pl],Hb} G c m sl pl r)(hb:∀a,Hb a=Z7->ex.b a=Z7)(n:∀a∈kx,∃o,Hb a=Z8 o/\∀xs,o≠.tup xs):CoK CC CS m (Hid kx (On (ex.grow Hb G) G)) c r:=by
 obtain⟨dx,D,sv,h1,h2,U⟩:=h.hc;obtain⟨ss,H,O⟩:=h.hs;obtain⟨ps,J,g⟩:=h.hp;have s:aT (Hid {[c,sl,pl],Hb} G) (Hid kx (On (ex.grow Hb G) G)):=fun a o e=>by
  have Y:=cG _ _ e;have M:a∉kx:=fun z=>by
   obtain⟨o',Z,q⟩:=n a z;exact dN e (.inr ⟨o',Z,q⟩)
  rw[cW M];refine mi ?_ Y
  cases z:Hb a with
  |none=>
   by_cases t:∃xs,o=.tup xs
   ·exact .inr t
   ·exact .inl (Ak (hb a z) z Y fun xs y=>t ⟨xs,y⟩)
  |some o'=>
   by_cases t:∃xs,o'=.tup xs
   ·obtain⟨xs,rfl⟩:=t;have:=(h.sm _ _ z).2.2.2;rw[Y]at this;exact .inr {xs,cI this}
   ·exact absurd (.inr {o',z,fun xs y=>t ⟨xs,y⟩}:a∈({[c,sl,pl],Hb}:Ex)) (dN e)
 have v:∀{a:aa} {o:HO},Hb a=Z7->G a=Z8 o->(∀xs,o≠.tup xs)->Hid kx (On (ex.grow Hb G) G) a=Z8 o:=fun W e I=>by
  rw[cW fun z=>?_]
  ·exact mi (.inl (Ak (hb _ W) W e I)) e
  ·obtain⟨o',Z,_⟩:=n _ z;rw[W]at Z
   cases Z
 have V:∀{a:aa},(∀o,Hb a=Z8 o->False)->Hb a=Z7:=fun {a} z=>by
  cases y:Hb a with
  |none=>rfl
  |some o=>exact (z o y).elim
 exact{dx,sl,pl,D,sv,ss,ps,v (V fun o y=>(h.sm _ _ y).1 rfl) h1 (fun xs z=>by cases z),h2.same s,U.same s,v (V fun o y=>(h.sm _ _ y).2.1 rfl) H (fun xs z=>by cases z),Paired.mono (fun _ _ z=>iG.same' s z) O,v (V fun o y=>(h.sm _ _ y).2.2.1 rfl) J (fun xs z=>by cases z),Paired.mono (fun _ _ z=>z.same s) g}
theorem Dh{kx ex:Ex}{G G':Hp}(s:aT G G'):aT (Hid kx (On ex G)) (Hid kx (On ex G')):=fun a o e=>by
 rw[cW (dN e)];obtain⟨z,y⟩:=qQ (cG _ _ e);exact mi z (s _ _ y)
theorem wJ{kx ex:Ex}{G:Hp}{a:aa}{o:HO}(m:a∈kx):aT (Hid kx (On ex G)) (Hid kx (On ex (upd G a o))):=fun b u e=>by
 have Z:=dN e;rw[cW Z];obtain⟨z,y⟩:=qQ (cG _ _ e);exact mi z (aP y fun q=>Z (q ▸ m))
theorem Kt{kx ex ex':Ex}{G:Hp}(h:∀a∈ex,a∈ex'):aT (Hid kx (On ex G)) (Hid kx (On ex' G)):=fun b u e=>by
 rw[cW (dN e)];obtain⟨z,y⟩:=qQ (cG _ _ e);exact mi (z.imp (h _) id) y
def oU(q:Nat)(ev:Int):List Key:=(eT (q+1)).map fun j=>Sum.inl ((j*ev.toNat:Nat):Int)
theorem Ih{q:Nat}{ev:Int}:oU (q+1) ev=oU q ev++[Sum.inl (((q+1)*ev.toNat:Nat):Int)]:=by
 unfold oU;rw[Ku,bT];rfl
theorem Mrk.stops{Ms:List MD}{es:List Ev}{n i:Nat}{r:RS}{k Z:Int}{e Y:End}(m:Mrk Ms es n r)(s:lD Ms r k i e)(l:k<=Z-n)(d:ib (itR Ms r i).1 (Z-(n+(itR Ms r i).2.length:Nat))=Z8 Y)(U:(n:Int)<Z):lD Ms (gy Ms es) Z (n+i) Y/\(itR Ms (gy Ms es) (n+i)).2=(itR Ms (gy Ms es) n).2++(itR Ms r i).2:=by
 have W:=m.e;subst W;have add:=oH Ms (gy Ms es) n;have len:∀d,(itR Ms (gy Ms es) (n+d)).2.length=n+(itR Ms (itR Ms (gy Ms es) n).1 d).2.length:=fun d=>by
  rw[add d];show ((itR Ms (gy Ms es) n).2++_).length=_;rw[ay,m.l n (aB _)]
 refine{{fun j V=>?_,?_,?_},by rw[add i]}
 ·by_cases c:j<n
  ·have q:=m.d j c;refine{q.1,wH q.2 ?_};rw[m.l j (by omega)];omega
  ·obtain⟨d,rfl⟩:∃d,j=n+d:={j-n,by omega};have q:=s.1 d (by omega);rw[len d,add d];exact{q.1,wH q.2 (by omega)}
 ·rw[len i,add i];exact d
 ·rw[add i];exact s.2.2
structure Kfx(H:Hp)(k co s p d rl:aa)(ex:Ex):Prop where
 ik:k∈ex
 id:d∈ex
 ir:rl∈ex
 nd:Wp k H d=Z7
 nr:Wp k H rl=Z7
 k1:co≠k
 k2:s≠k
 k3:p≠k
 d1:co≠d
 d2:s≠d
 d3:p≠d
 r1:co≠rl
 r2:s≠rl
 r3:p≠rl
 kd:k≠d
 kr:k≠rl
 dr:d≠rl
theorem Kfx.grow{H G Z:Hp}{k co s p d rl:aa}{ex:Ex}(h:Kfx H k co s p d rl ex):Kfx H k co s p d rl (ex.grow G Z):={h with ik:=gE h.ik,id:=gE h.id,ir:=gE h.ir}
structure Krn(CK CC CS:aa)(Ms:List MD)(es:List Ev)(H:Hp)(k dx m sg co s p d rl:aa)(ev most:Int)(ex:Ex)(G:Hp)(r:RS)(rvs:List V)(kvs:List (Key×V)):Prop where
 c:iq CC CS Ms (Wp k H) ex G co m s p r
 qk:G k=Z8 (.ins CK dx (jH (.ref m) (.ref sg) (.int ev) (.ref d)))
 qd:G d=Z8 (.dK kvs)
 qr:G rl=Z8 (.lst rvs)
 kp:Kpt CC CS m Ms es (Hid (kx H k co s p d rl) (On ex G)) kvs
 eb:∀a,G a=Z7->ex.b a=Z7
 ol:∀a,(∃o,H a=Z8 o/\∀xs,o≠.tup xs)->a∈ex
 ku:∀q∈kvs,∀x:Int,q.1=Sum.inl x->x<=rvs.length
 kl:kvs.length<=rvs.length+1
 pd:r.pd.length<=64+5000*rvs.length
 le:(rvs.length:Int)<=most
theorem Krn.same{CK CC CS:aa}{Ms:List MD}{es:List Ev}{H:Hp}{k dx m Y co s p d rl:aa}{ev Z:Int}{ex:Ex}{G G':Hp}{r:RS}{rvs:List V}{kvs:List (Key×V)}(s':aT G G')(h:Krn CK CC CS Ms es H k dx m Y co s p d rl ev Z ex G r rvs kvs):Krn CK CC CS Ms es H k dx m Y co s p d rl ev Z ex G' r rvs kvs:=
 {h.c.same s',s' _ _ h.qk,s' _ _ h.qd,s' _ _ h.qr,h.kp.same (Dh s'),(fun a z=>h.eb a (p5 s' a z)),h.ol,h.ku,h.kl,h.pd,h.le}
theorem Krn.kx{CK CC CS:aa}{Ms:List MD}{es:List Ev}{H:Hp}{k dx m W co s p d rl:aa}{ev Z:Int}{ex:Ex}{G:Hp}{r:RS}{rvs:List V}{kvs:List (Key×V)}(h:Krn CK CC CS Ms es H k dx m W co s p d rl ev Z ex G r rvs kvs):∀a∈My.kx H k co s p d rl,∃o,G a=Z8 o/\∀xs,o≠.tup xs:=fun a ha=>by
 obtain⟨_,_,_,h1,_⟩:=h.c.hc;obtain⟨_,h2,_⟩:=h.c.hs;obtain⟨_,Y,_⟩:=h.c.hp
 rcases LL ha with (rfl|rfl|rfl|rfl|rfl|rfl)|⟨o,e,U⟩
 ·exact{_,h.qk,fun xs z=>by cases z}
 ·exact{_,h1,fun xs z=>by cases z}
 ·exact{_,h2,fun xs z=>by cases z}
 ·exact{_,Y,fun xs z=>by cases z}
 ·exact{_,h.qd,fun xs z=>by cases z}
 ·exact{_,h.qr,fun xs z=>by cases z}
 ·by_cases c:a=k
  ·rw[c];exact{_,h.qk,fun xs z=>by cases z}
  ·exact{o,(h.c.sm a o (iE e c)).2.2.2,U}
section
variable{P:aL}{w:bA}{K:af}{mg:Str->Option ae}{base:cu}{f fCa fCp fE fR fBk CK CC CM CS CB:aa}{fd fdCa fdCp fdE fdR fdBk:bS}
seal PS PSs PE PA PT PW PI PG PGs PC
abbrev nKr:List Str:=["self","most","course","records","ending","told"]
abbrev pKr:List Str:=["self","most"]
theorem EH:bK nKr pKr (aN jw):={}
inductive LM(CK CC CM CS CB:aa)(vs:List V)(H:Hp)(Q:VK)(_e:XK):Prop where
 |mk(Ms:List MD)(es:List Ev)(k dx m sg:aa)(v:V)(ev most:Int)(_:vs=[.ref k,.int most])(_:H k=Z8 (.ins CK dx (jH (.ref m) (.ref sg) (.int ev) v)))(_:Rn CM Ms es (Wp k H) m sg)(_:1<=ev)(_:ev<=100)(_:0<=most)(_:most<=40)(_:∀(G FF:Hp) (b dxb rl kd sl:aa) (en:V) (rvs:List V) (ss:List aa) (kvs:List (Key×V)) (i:Nat) (e:End),lD Ms (gy Ms es) most i e->aT (Wp k H) FF->aT FF G->BB CK CC CM CS Ms es FF k m sg kd ev kvs->Hid ⟨[],H⟩ FF kd=Z8 (.dK kvs)->Kpt CC CS m Ms es (Hid ⟨[],H⟩ FF) kvs->kvs.map (·.1)=oU (rvs.length/ev.toNat) ev->G b=Z8 (.ins CB dxb (z8 (.ref rl) en (.ref sl)))->FF b=Z7->Hid ⟨[],FF⟩ G rl=Z8 (.lst rvs)->Hid ⟨[],FF⟩ G sl=Z8 (.lst (ss.map V.ref))->rl≠sl->aH (RcIn (Hid ⟨[rl,sl],FF⟩ G)) rvs (itR Ms (gy Ms es) i).2->nF (Hid ⟨[rl,sl],FF⟩ G) en e->aH (StA CS (Hid ⟨[rl,sl],FF⟩ G)) ss (itR Ms (gy Ms es) i).1.sts->rvs.length<=100->Q (.ref b) G):LM CK CC CM CS CB vs H Q _e
def spKr(CK CC CM CS CB:aa):Sp:=fun vs H Q Z=>LM CK CC CM CS CB vs H Q Z
theorem ok_kr(F:Fun K "run" "Keeper.run" jw f fd)(mD:Df K mg "course_at_first" e9 ["model","signs"] fCa fdCa)(hY:bh P w K mg base CX0 4 fCa fdCa ["model","signs"] (CO CC CM CS))(nB:Mt K CC "copy" "Course.copy" gS pCc fCp fdCp)(mc:bh P w K mg base CX0 4 fCp fdCp pCc (HZ CC CS))(ME:Mt K CC "ending_due" "Course.ending_due" fi ["self","left"] fE fdE)(GE:bh P w K mg base CX0 1 fE fdE ["self","left"] (NB CC CS))
  (DR:Df K mg "run_on" m8 ["course","most"] fR fdR) (GR:bh P w K mg base CX0 39 fR fdR ["course","most"] (CH CC CM CS)) (MB:Mk K CB fBk) (bB:Binds K fdBk ["self","records","ending","states"] []) (GB:bh P w K mg base CX0 1 fBk fdBk ["self","records","ending","states"] (Nt CB)) (T:KeT K mg CK) (TC:CoT K mg CC) (TB:BkT K mg CB) (B:Bl mg) (MM:mg "min"=Z7):bh P w K mg base CX0 40 f fd pKr (spKr CK CC CM CS CB):=by
 refine F.ok EH (fun vs H Q E h=>?_) (fun hy A outer s H vs Q E hr h=>?_)
 ·obtain⟨Ms,es,k,dx,m,sg,v,ev,Y,rfl,_⟩:=h;rfl
 obtain⟨Ms,es,k,dx,m,sg,v,ev,Y,rfl,hk,hR,e1,e2,jl,hT,q⟩:=h;have kz:=lQ hr;have r1:cZ 1 _:=hr.mono (by decide);have r2:cZ 2 _:=hr.mono (by decide);have r4:cZ 4 _:=hr.mono (by decide);have kG:cZ 39 _:=hr;refine⟨_,ai (bM (i:=2) EH.nd rfl (Or.inl rfl) (aM hY r4 (by rfl) mD.m mD.F.kp mD.b .nil aY (ak (cM K (by rfl) (pv 0) (by rfl)) (ak (cM K (by rfl) (pv 0) (by rfl)) aj))))
  (ai (eD (pv 0) (BR (zC aw (gB (pv 2) TC.cl nB.m mc r4 nB.b .nil aY) BQ) rfl rfl (by simp) (by decide)) rfl)
  (ai (bM (i:=3) EH.nd rfl (Or.inl rfl) (eR aj))
  (ai (bM (i:=4) EH.nd rfl (Or.inl rfl) (fZ (pv 2) TC.cl ME.m GE r1 ME.b .nil aY (bN (pv 1) aj)))
  (ai (vv cF (qR (E6 (pv 4))) (ai (bM (i:=5) EH.nd rfl (Or.inl rfl) (aM GR kG (by rfl) DR.m DR.F.kp DR.b .nil aY (bN (pv 2) (iY (cT (DG rfl) (by rfl) MM EG (ak (cM K (by rfl) (pv 0) (by rfl)) (qH (cQ jN (pv 1) (cT (fj K (by rfl)) (by rfl) B.len cy (bN (pv 3) aj))) aj))) aj))))
  (ai (dU (oQ bE PySem.F.slot_list_extend PySem.F.type_list_extend DX (pv 3) (rW (bX cD (pv 5) aw (fun _ _=>rfl)) aj)))
  (ai (cN (bP eW (cT (fj K (by rfl)) (by rfl) B.len cy (rW (bX cD (pv 5) aw (fun _ _=>rfl)) aj)) (cM K (by rfl) (pv 0) (by rfl)) (bV _)) (aA (kK kz (cM K (by rfl) (pv 0) (by rfl)) (cT (fj K (by rfl)) (by rfl) B.len cy (bN (pv 3) aj)) (gB (pv 2) TC.cl nB.m mc r4 nB.b .nil aY) rfl)) bZ)
  (aA (bM (i:=4) EH.nd rfl (Or.inl rfl) (fZ (pv 2) TC.cl ME.m GE r1 ME.b .nil aY (qH (cQ jN (pv 1) (cT (fj K (by rfl)) (by rfl) B.len cy (bN (pv 3) aj))) aj))))))))
  (aA (bJ (jT MB GB r2 (by rfl) TB.m bB .nil aY (bN (pv 3) (bN (pv 4) (ak (cM K (by rfl) (pv 2) (by rfl)) aj)))))))))),?_⟩
 have big:=dZ;have mo:=hR.mo.ok;obtain⟨il,js,ix⟩:=hR.sg;have nw:=vi k H
 -- the course
 refine cb (dy {_,Z9,k,CK,dx,_,_,Z9,hk,T.cl,T.nM,ke_m _ _ _ _,_,Z9,k,CK,dx,_,_,Z9,hk,T.cl,T.nS,ke_s _ _ _ _,Ms,m,sg,il,es,Z9,hR.mo.same nw,hR.lm,nw _ _ js,Paired.mono (fun _ _ z=>z.same nw) ix,hR.le,hR.ev,fun G1 co s' U C1=>bL ?_});dsimp only;have kn:H k≠Z7:=fun z=>by
  rw[hk]at z
  cases z
 have nn:∀b o,H b=Z8 o->b≠co/\b≠s'/\b≠U/\G1 b=Z8 o:=C1.sm;obtain⟨ln,lc,mt,mL⟩:=nn _ _ hk;have mb:k∈({[co,s',U],H}:Ex):=.inr {_,hk,fun xs z=>by cases z};have C1:=C1.weak nw
 -- the first mark
 refine cb fun d hd=>?_;have sd:=aD hd (.dK []);have C2:=C1.more hd (o:=.dK []) (fun xs z=>by cases z);obtain⟨kb,hK,hQ,mn,_⟩:=id C2.hc;refine{_,Z9,co,kb,_,Z9,mn,wg _ _ _ _ _ (by decide +kernel),Ms,co,m,_,Z9,C2.k,C2.rst,hR.lm,?_,fun g c0 hz hA mz=>?_}
 ·show (oE (qm es) []).length<=1000000;rw[(gb _ _).length_eq,cB,lE];have:=hR.le;omega
 have s2:aT (upd G1 d (.dK [])) g:=fun a o e=>(mz.sm a o e).2.2.2;have mu:=s2 _ _ (jC hd (.dK []));refine{mu,[(Sum.inl 0,.ref c0)],Z9,(by show 1<=15;decide),?_};have nu:k≠d:=av mL hd;have ly:=(sd.trans s2) _ _ mL;refine{_,Z9,k,CK,dx,_,Z9,aP ly nu,T.cl,T.nK,Ib _ _ _ _,?_};rw[C9];have Hd:H d=Z7:=by
  cases z:H d with
  |none=>rfl
  |some o=>
   rw[(nn _ _ z).2.2.2]at hd
   cases hd
 have nd:Wp k H d=Z7:=by
  unfold Wp;rw[if_neg nu.symm];exact Hd
 have kI:d∈({[co,s',U],H}:Ex).add d:=Ex.here;have oi:co≠d/\s'≠d/\U≠d:=by
  obtain⟨_,_,_,y1,_⟩:=C1.hc;obtain⟨_,y2,_⟩:=C1.hs;obtain⟨_,y3,_⟩:=C1.hp;exact{av y1 hd,av y2 hd,av y3 hd}
 have wk0:Wp k H k=Z7:=by
  unfold Wp;rw[if_pos rfl]
 have eA:∀a,(upd G1 d (.dK [])) a=Z7->(({[co,s',U],H}:Ex).add d).b a=Z7:=fun a z=>by
  show H a=Z7
  cases y:H a with
  |none=>rfl
  |some o=>
   rw[sd _ _ (nn _ _ y).2.2.2]at z
   cases z
 have C3:=((C2.grow s2).upd (a:=d) (o:=.dK (jO [] [(Sum.inl 0,.ref c0)])) (gE kI) nd oi.1 oi.2.1 oi.2.2 (fun xs z=>by cases z)).upd (a:=k) (o:=.ins CK dx (jH (.ref m) (.ref sg) (.int ev) (.ref d))) (gE (Ex.more mb)) wk0 ln.symm lc.symm mt.symm (fun xs z=>by cases z);have oc:=(ag:upd (upd g d (.dK (jO [] [(Sum.inl 0,.ref c0)]))) k (.ins CK dx (jH (.ref m) (.ref sg) (.int ev) (.ref d))) k=_);have oe:upd (upd g d (.dK (jO [] [(Sum.inl 0,.ref c0)]))) k (.ins CK dx (jH (.ref m) (.ref sg) (.int ev) (.ref d))) d=Z8 (.dK [(Sum.inl 0,.ref c0)]):=aP ag nu.symm;have K1:CoK CC CS m (Hid {[k,co,s',U,d],H} (On ((({[co,s',U],H}:Ex).add d).grow (upd G1 d (.dK [])) g) (upd (upd g d (.dK (jO [] [(Sum.inl 0,.ref c0)]))) k (.ins CK dx (jH (.ref m) (.ref sg) (.int ev) (.ref d)))))) c0 (gy Ms es):=by
  refine ((mz.kon (kx:={[k,co,s',U,d],H}) eA fun a ha=>?_).same (wJ (.inl (by simp)))).same (wJ (.inl (by simp)));obtain⟨_,_,_,y1,_⟩:=C2.hc;obtain⟨_,y2,_⟩:=C2.hs;obtain⟨_,y3,_⟩:=C2.hp
  rcases ha with ha|⟨o,e,nt⟩
  ·have ha:a∈[k,co,s',U,d]:=ha;simp only[ar,aI,or_false]at ha
   rcases ha with rfl|rfl|rfl|rfl|rfl
   ·exact{_,sd _ _ mL,fun xs z=>by cases z}
   ·exact{_,y1,fun xs z=>by cases z}
   ·exact{_,y2,fun xs z=>by cases z}
   ·exact{_,y3,fun xs z=>by cases z}
   ·exact{_,jC hd _,fun xs z=>by cases z}
  ·exact{o,sd _ _ (nn _ _ e).2.2.2,nt}
 have nD:∀a,upd (upd g d (.dK (jO [] [(Sum.inl 0,.ref c0)]))) k (.ins CK dx (jH (.ref m) (.ref sg) (.int ev) (.ref d))) a=Z7->((({[co,s',U],H}:Ex).add d).grow (upd G1 d (.dK [])) g).b a=Z7:=fun a z=>by
  refine De eA s2 a ?_
  by_cases c1:a=k
  ·rw[c1,oc]at z
   cases z
  ·by_cases c2:a=d
   ·rw[c2,oe]at z
    cases z
   ·rw[aJ c1,aJ c2]at z;exact z
 have mf:∀a,(∃o,H a=Z8 o/\∀xs,o≠.tup xs)->a∈(({[co,s',U],H}:Ex).add d).grow (upd G1 d (.dK [])) g:=fun a z=>gE (Ex.more (.inr z));have mq:k∈(({[co,s',U],H}:Ex).add d).grow (upd G1 d (.dK [])) g:=gE (Ex.more mb);have mv:d∈(({[co,s',U],H}:Ex).add d).grow (upd G1 d (.dK [])) g:=gE kI;revert C3 oc oe K1 nD;generalize upd (upd g d (.dK (jO [] [(Sum.inl 0,.ref c0)]))) k (.ins CK dx (jH (.ref m) (.ref sg) (.int ev) (.ref d)))=G3;generalize (({[co,s',U],H}:Ex).add d).grow (upd G1 d (.dK [])) g=exg at mf mq mv;intro C3 oc oe K1 nD
 -- the records
 dsimp only;refine cb (dy {bO _,fun rl D=>bL ?_});dsimp only;have sr:=aD D (.lst []);have C4:=C3.more D (o:=.lst []) (fun xs z=>by cases z);have mS:co≠rl/\s'≠rl/\U≠rl:=by
  obtain⟨_,_,_,y1,_⟩:=C3.hc;obtain⟨_,y2,_⟩:=C3.hs;obtain⟨_,y3,_⟩:=C3.hp;exact{av y1 D,av y2 D,av y3 D}
 have nr:Wp k H rl=Z7:=by
  cases z:Wp k H rl with
  |none=>rfl
  |some o=>
   rw[(C3.sm _ _ z).2.2.2]at D
   cases D
 have W:Kfx H k co s' U d rl (exg.add rl):={Ex.more mq,Ex.more mv,Ex.here,nd,nr,ln.symm,lc.symm,mt.symm,oi.1,oi.2.1,oi.2.2,mS.1,mS.2.1,mS.2.2,nu,av oc D,av oe D};have mr:=LC Ms es;have R4:Krn CK CC CS Ms es H k dx m sg co s' U d rl ev Y (exg.add rl) (upd G3 rl (.lst [])) (gy Ms es) [] [(Sum.inl 0,.ref c0)]:=by
  refine{C4,sr _ _ oc,sr _ _ oe,ag,{fun x hx=>?_,cC.mpr {(fun z=>by cases z),ic},by show 1<=50;decide},fun a z=>?_,(fun a z=>Ex.more (mf a z)),fun x hx y e=>?_,aB _,?_,jl}
  ·rw[aE.mp hx];refine{0,c0,gy Ms es,Z9,K1.same fun a o e=>?_,C4.rst,mr,?_}
   ·obtain⟨i,ha⟩:=qQ (cG _ _ e);have ne:=av ha D;rw[cW fun z=>?_]
    ·exact mi (i.imp Ex.more fun z=>z) (aP ha ne)
    ·rcases LL z with z|z
     case inr=>exact dN e (.inr z)
     refine dN e (.inl ?_);show a∈[k,co,s',U,d];simp only[ar,aI,or_false]
     rcases z with z|z|z|z|z|z
     ·exact .inl z
     ·exact .inr (.inl z)
     ·exact .inr (.inr (.inl z))
     ·exact .inr (.inr (.inr (.inl z)))
     ·exact .inr (.inr (.inr (.inr z)))
     ·exact absurd z ne
   ·show (oE (qm es) []).length<=900000;rw[(gb _ _).length_eq,cB,lE];have:=hR.le;omega
  ·refine nD a ?_
   by_cases c:a=rl
   ·rw[c,ag]at z
    cases z
   ·rw[aJ c]at z;exact z
  ·rw[aE.mp hx]at e
   cases e;exact wO _
  ·show (oE (qm es) []).length<=64+5000*0;rw[(gb _ _).length_eq,cB,lE];have:=hR.le;omega
 revert R4;generalize exg.add rl=ex0 at W;generalize upd G3 rl (.lst [])=G4;intro R4;clear C4 C3 K1 sr D oc oe C2 mz mu s2 mn ly sd nD eA
 -- its ending
 have lq:=R4.c;obtain⟨ml,iv,ih,io,_⟩:=id R4.c.hc;refine cb (dy {_,Z9,co,ml,_,Z9,io,wg _ _ _ _ _ (by decide +kernel),_,Z9,Ms,Wp k H,ex0,co,m,s',U,_,Y,Z9,R4.c,fun en G5 s5 kB=>bL ?_});dsimp only;have R5:=R4.same s5;have rm:∀{ex:Ex} {rr:RS} {ll:Int} {v:V} {G:Hp},((ib rr ll=Z7/\v=.non)\/∃e,ib rr ll=Z8 e/\nF (Hid ex G) v e)->(ib rr ll=Z7/\v=.non)\/(v≠.non/\∃e,ib rr ll=Z8 e/\nF (Hid ex G) v e):=fun h=>by
  rcases h with h|⟨e,d,h⟩
  ·exact .inl h
  ·refine .inr {fun z=>?_,e,d,h};subst z
   cases e with
   |empty=>
    obtain⟨t,e',_⟩:=h
    cases e'
   |cut=>
    obtain⟨t,e',_⟩:=h
    cases e'
   |stp st=>
    cases st with
    |fin x=>
     obtain⟨t,kk,e',_⟩:=h
     cases e'
    |flt y x=>
     obtain⟨t,kk,e',_⟩:=h
     cases e'
 refine xf (fun my G=>∃(ex:Ex) (r:RS) (en:V) (u5:Option V) (rvs:List V) (kvs:List (Key×V)),Kfx H k co s' U d rl ex/\my=[Z8 (.ref k),Z8 (.int Y),Z8 (.ref co),Z8 (.ref rl),Z8 en,u5]/\Krn CK CC CS Ms es H k dx m sg co s' U d rl ev Y ex G r rvs kvs/\kvs.map (·.1)=oU (rvs.length/ev.toNat) ev/\(∃(i:Nat) (e:End),lD Ms (gy Ms es) Y i e/\r=(itR Ms (gy Ms es) i).1/\aH (RcIn (Hid ex G)) rvs (itR Ms (gy Ms es) i).2/\nF (Hid ex G) en e)) ?_ ?_
 rotate_left
 ·intro N hN;refine{fun mm σ G=>∃(ex:Ex) (r:RS) (en:V) (u5:Option V) (rvs:List V) (kvs:List (Key×V)),Kfx H k co s' U d rl ex/\σ=[Z8 (.ref k),Z8 (.int Y),Z8 (.ref co),Z8 (.ref rl),Z8 en,u5]/\Krn CK CC CS Ms es H k dx m sg co s' U d rl ev Y ex G r rvs kvs/\kvs.map (·.1)=oU (rvs.length/ev.toNat) ev/\((en=.non/\ib r (Y-rvs.length)=Z7/\Mrk Ms es rvs.length r/\aH (RcIn (Hid ex G)) rvs (itR Ms (gy Ms es) rvs.length).2/\ev.toNat ∣ rvs.length/\mm=(Y-rvs.length).toNat+1)\/(en≠.non/\(∃(i:Nat) (e:End),lD Ms (gy Ms es) Y i e/\r=(itR Ms (gy Ms es) i).1/\aH (RcIn (Hid ex G)) rvs (itR Ms (gy Ms es) i).2/\nF (Hid ex G) en e)/\mm=0)),?_,?_}
  ·have lx:([(Sum.inl 0,V.ref c0)]:List (Key×V)).map (·.1)=oU (([]:List V).length/ev.toNat) ev:=by
    rw[cH,Nat.zero_div];unfold oU;show [Sum.inl 0]=[Sum.inl ((0*ev.toNat:Nat):Int)];rw[Nat.zero_mul];rfl
   rcases rm kB with⟨h1,h2⟩|⟨h,e0,d0,z0⟩
   ·exact{_,ex0,_,_,_,_,_,W,Z9,R5,lx,.inl {h2,by rw[show Y-(([]:List V).length:Int)=Y from Int.sub_zero _];exact h1,mr,.nil,Nat.dvd_zero _,Z9}}
   ·exact{_,ex0,_,_,_,_,_,W,Z9,R5,lx,.inr {h,{0,e0,{fun j hj=>absurd hj (gX _),by rw[show Y-((itR Ms (gy Ms es) 0).2.length:Int)=Y from Int.sub_zero _];exact d0,R5.c.ok},Z9,.nil,z0},Z9}}
  ·clear W R5 lq R4;rintro mm σ G ⟨ex,r,en,u5,rvs,kvs,W,rfl,I,os,hw⟩;refine{_,Z9,_,Z9,?_}
   rcases hw with⟨rfl,hX,mk,kq,kt,rfl⟩|⟨ne,kv,rfl⟩
   ·refine ja ?_;refine{_,fun _ _ h=>h,?_};have jp:=(jB hX).2.2;obtain⟨kk,kc,k1,k2,k3,k4⟩:∃kk:Int,(if Y-(rvs.length:Int)<ev then Y-(rvs.length:Int) else ev)=kk/\0<kk/\kk<=ev/\kk<=Y-rvs.length/\(kk=ev\/kk=Y-rvs.length):=by
     by_cases c:Y-(rvs.length:Int)<ev
     ·exact{_,if_pos c,by omega,by omega,by omega,.inr rfl}
     ·exact{_,if_neg c,by omega,by omega,by omega,.inl rfl}
    refine cb (dy {_,Z9,_,Z9,k,CK,dx,_,_,Z9,I.qk,T.cl,T.nE,ke_e _ _ _ _,_,Z9,_,Z9,rl,_,Z9,.inl (SqL.of I.qr),_,_,Z9,Z9,ev,Y-rvs.length,Z9,?_});rw[kc];have hH:=I.pd;have hD:=I.le;refine{Ms,Wp k H,ex,co,m,s',U,r,kk,Z9,hR.mo,I.c,by omega,by omega,fun g t i e R=>bL ?_};dsimp only;obtain⟨ov,li,Z,g1,g2,_,g3,_⟩:=R.rs;have l2:=aV g3;have few:=x8 mo R.st (by omega);have hS:=Da mo R.st.1;have nO:=R.ot;have lf:=nO _ W.k1.symm W.k2.symm W.k3.symm _ I.qk;have mx:=nO _ W.d1.symm W.d2.symm W.d3.symm _ I.qd;have nz:=nO _ W.r1.symm W.r2.symm W.r3.symm _ I.qr;have mF:ov≠rl:=fun z=>dN g2 (z ▸ W.ir);have lb:Kpt CC CS m Ms es (Hid (kx H k co s' U d rl) (On ex g)) kvs:=I.kp.same fun a o e=>by
     have na:=dN e;rw[cW na];obtain⟨i,ea⟩:=qQ (cG _ _ e);have ni:∀{b:aa},b∈[k,co,s',U,d,rl]->a≠b:=fun hb z=>na (.inl (by rw[z];exact hb));exact mi i (nO a (ni (by simp)) (ni (by simp)) (ni (by simp)) o ea)
    have la:∀a,g a=Z7->ex.b a=Z7:=fun a z=>by
     refine I.eb a ?_
     cases y:G a with
     |none=>rfl
     |some u=>
      obtain⟨_,_,_,y1,_⟩:=R.cc.hc;obtain⟨_,y2,_⟩:=R.cc.hs;obtain⟨_,y3,_⟩:=R.cc.hp
      by_cases c1:a=co
      ·rw[c1,y1]at z
       cases z
      by_cases c2:a=s'
      ·rw[c2,y2]at z
       cases z
      by_cases c3:a=U
      ·rw[c3,y3]at z
       cases z
      rw[nO a c1 c2 c3 u y]at z
      cases z
    have no:g t=Z8 (.tup [.ref ov,li]):=cG _ _ g1;have lj:g ov=Z8 (.lst Z):=cG _ _ g2;refine cb {_,Z9,.inl {Z9,_,SqL.of nz},_,Z9,t,_,_,_,Z9,Z9,SqT.of no,Z9,rl,ov,rvs,Z,Z9,Z9,nz,lj,by omega,?_};have C3:=R.cc.upd (a:=rl) (o:=.lst (rvs++Z)) W.ir W.nr W.r1 W.r2 W.r3 (fun xs z=>by cases z);have O:(rvs++Z).length=rvs.length+Z.length:=ay;have R3:Krn CK CC CS Ms es H k dx m sg co s' U d rl ev Y ex (upd g rl (.lst (rvs++Z))) (itR Ms r i).1 (rvs++Z) kvs:=by
     refine{C3,aP lf W.kr,aP mx W.dr,ag,lb.same (wJ (.inl (by simp))),fun a z=>?_,I.ol,fun q hq x e=>?_,?_,?_,?_}
     ·refine la a ?_
      by_cases c:a=rl
      ·rw[c,ag]at z
       cases z
      ·rw[aJ c]at z;exact z
     ·have:=I.ku q hq x e;rw[O];omega
     ·have:=I.kl;rw[O];omega
     ·rw[O];omega
     ·rw[O];omega
    have ou:aH (RcIn (Hid ex (upd g rl (.lst (rvs++Z))))) (rvs++Z) ((itR Ms (gy Ms es) rvs.length).2++(itR Ms r i).2):=by
     rw[iD W.ir];exact Ie (Paired.mono (fun _ _ z=>z.same R.sm) kq) g3
    have nP:upd g rl (.lst (rvs++Z)) t=Z8 (.tup [.ref ov,li]):=aP no (fun z=>by
     rw[z,nz]at no
     cases no)
    have mG:upd g rl (.lst (rvs++Z)) ov=Z8 (.lst Z):=aP lj mF;revert R3 ou nP mG;clear C3 lf mx nz lb la;generalize upd g rl (.lst (rvs++Z))=G3;intro R3 ou nP mG;dsimp only;obtain⟨qn,nf⟩:=kt;have md:0<ev.toNat:=by omega
    have qd:rvs.length/ev.toNat=qn:=by rw[nf];exact Nat.mul_div_cancel_left _ md
    rw[qd]at os;refine xf (fun my G'=>my=[Z8 (.ref k),Z8 (.int Y),Z8 (.ref co),Z8 (.ref rl),Z8 .non,Z8 (.ref t)]/\∃ex' ob,Kfx H k co s' U d rl ex'/\Krn CK CC CS Ms es H k dx m sg co s' U d rl ev Y ex' G' (itR Ms r i).1 (rvs++Z) ob/\aH (RcIn (Hid ex' G')) (rvs++Z) ((itR Ms (gy Ms es) rvs.length).2++(itR Ms r i).2)/\ob.map (·.1)=oU ((rvs++Z).length/ev.toNat) ev/\((Mrk Ms es (rvs++Z).length (itR Ms r i).1/\(itR Ms (gy Ms es) (rvs++Z).length).2=(itR Ms (gy Ms es) rvs.length).2++(itR Ms r i).2/\0<Z.length/\ev.toNat ∣ (rvs++Z).length)\/∃e',ib (itR Ms r i).1 (Y-(rvs++Z).length)=Z8 e')) ?_ ?_
    rotate_left
    ·intro N' lr;refine iA {_,Z9,t,_,_,_,Z9,Z9,SqT.of nP,Z9,ov,Z,Z9,.inl (SqL.of mG),_,Z9,k,CK,dx,_,_,Z9,R3.qk,T.cl,T.nE,ke_e _ _ _ _,Z9,_,Z9,gp (fun c=>?_) (fun c=>?_)}
     ·have c:(Z.length:Int)=ev:=V.int.inj (of_decide_eq_true c);have full:((itR Ms r i).2.length:Int)=kk:=by omega
      obtain⟨mk',ik⟩:=mk.full mo R.st full;have ei:rvs.length+i=(rvs++Z).length:=by rw[O];omega
      rw[ei]at mk';have nQ:(itR Ms (gy Ms es) (rvs++Z).length).2=(itR Ms (gy Ms es) rvs.length).2++(itR Ms r i).2:=by
       rw[<- ei,oH,<- mk.e]
      have nl:(rvs++Z).length=(qn+1)*ev.toNat:=by
       rw[O,nf,uD,Bz];omega
      obtain⟨nH,lh,lk,nR,_⟩:=id R3.c.hc;have hL:=R3.pd;have hB:=R3.le;refine{_,Z9,co,nH,_,Z9,nR,wg _ _ _ _ _ (by decide +kernel),Ms,co,m,_,Z9,R3.c.k,R3.c.rst,hR.lm,by omega,fun mM c1 hO hM ma=>?_};have s4:aT G3 mM:=fun a o e=>(ma.sm a o e).2.2.2;have J:=R3.same s4;have lz:(Sum.inl ((rvs++Z).length:Int):Key)∉kvs.map (·.1):=fun z=>by
       obtain⟨x,hx,e⟩:=cq.mp z;have:=I.ku x hx _ e;rw[O]at this;omega
      have fk:kvs.length<aC:=by
       have:=I.kp.few;omega
      have dp:=rH.k (k:=Sum.inl ((rvs++Z).length:Int)) (v:=.ref c1) J.qd fk;rw[Aj lz]at dp;refine{_,Z9,k,CK,dx,_,_,Z9,J.qk,T.cl,T.nK,Ia _ _ _ _,_,Z9,rl,_,Z9,.inl (SqL.of J.qr),d,_,Z9,dp,lr _ _ {Z9,ex.grow G3 mM,kvs++[(Sum.inl ((rvs++Z).length:Int),.ref c1)],W.grow,?_,?_,?_,.inl {mk',nQ,by omega,{qn+1,by rw[nl,uD]}}}}
      rotate_left
      ·rw[iD (gE W.id)];exact Paired.mono (fun _ _ z=>z.same (Al s4)) ou
      ·rw[bT,os,nl,Nat.mul_div_cancel _ md,Ih];rfl
      refine{(R3.c.grow s4).upd (a:=d) (gE W.id) W.nd W.d1 W.d2 W.d3 (fun xs z=>by cases z),aP J.qk W.kd,ag,aP J.qr W.dr.symm,{fun q hq=>?_,?_,?_},fun a z=>?_,(fun a z=>gE (R3.ol a z)),fun q hq x e=>?_,?_,J.pd,J.le}
      ·rcases cv.mp hq with z|z
       ·exact (R3.kp.same ((Dh s4).trans ((Kt fun _ y=>gE y).trans (wJ (.inl (by simp)))))).at_ q z
       ·rw[aE.mp z];exact{(rvs++Z).length,c1,_,Z9,(ma.kon R3.eb R3.kx).same (wJ (.inl (by simp))),R3.c.rst,mk',by omega}
      ·rw[bT];exact yp I.kp.nd lz
      ·rw[ay];show kvs.length+1<=50;have:=I.kl;omega
      ·refine De R3.eb s4 a ?_
       by_cases c:a=d
       ·rw[c,ag]at z
        cases z
       ·rw[aJ c]at z;exact z
      ·rcases cv.mp hq with z|z
       ·have:=I.ku q z x e;rw[O];omega
       ·rw[aE.mp z]at e
        cases e;exact wO _
      ·rw[ay];show kvs.length+1<=_;have:=I.kl;rw[O];omega
     ·have c:(Z.length:Int)≠ev:=fun z=>c (by rw[z];exact decide_eq_true rfl);refine lr _ _ {Z9,ex,kvs,W,R3,ou,?_,.inr ?_}
      ·have:(rvs++Z).length/ev.toNat=qn:=Nat.div_eq_of_lt_le (by rw[O,nf,uD];omega) (by rw[O,nf,uD,Bz];omega);rw[this];exact os
      refine Ig R.st.2.1 ?_
      by_cases ce:e=.cut
      ·right
       have z:=R.st.2.1;rw[ce]at z;have:=Ks z;rw[O];omega
      ·exact .inl ce
    rintro _ mM ⟨rfl,nq,ob,ls,J,lv,mW,ki⟩;obtain⟨nH,lh,lk,nR,_⟩:=id J.c.hc;refine dy {_,Z9,co,nH,_,Z9,nR,wg _ _ _ _ _ (by decide +kernel),_,Z9,_,Z9,rl,_,Z9,.inl (SqL.of J.qr),_,_,Z9,Z9,Ms,Wp k H,nq,co,m,s',U,_,Y-(rvs++Z).length,Z9,J.c,fun hG G6 s6 lg=>bL ?_};dsimp only;have R6:=J.same s6;have nc:=Paired.mono (fun _ _ z=>RcIn.same (gD (ex:=nq) s6) z) lv
    rcases rm lg with⟨h1,rfl⟩|⟨h,e6,d6,z6⟩
    ·rcases ki with⟨mk',nQ,pos,dv⟩|⟨e',y⟩
     ·have hF:=R6.le;exact{(Y-((rvs++Z).length:Int)).toNat+1,by rw[O];omega,nq,_,_,_,_,_,ls,Z9,R6,mW,.inl {Z9,h1,mk',by rw[nQ];exact nc,dv,Z9}}
     ·rw[h1]at y
      cases y
    ·rw[O,l2]at d6;obtain⟨kh,ii⟩:=mk.stops R.st k3 d6 (by omega);exact{0,by omega,nq,_,_,_,_,_,ls,Z9,R6,mW,.inr {h,{_,e6,kh,by rw[oH,<- mk.e],by rw[ii];exact nc,z6},Z9}}
   ·rw[decide_eq_false ne];exact gf (hN _ _ {ex,_,_,_,_,_,W,Z9,I,os,kv})
 clear W R5 lq R4;rintro _ G ⟨ex,r,en,u5,rvs,kvs,W,rfl,I,os,⟨iF,eF,ky,rF,kw,im⟩⟩;obtain⟨nH,lh,lk,nR,_⟩:=id I.c.hc;refine fH (tM ?_);refine{_,Z9,_,Z9,_,Z9,co,CC,nH,_,_,Z9,nR,TC.cl,TC.nS,HD _ _ _ _ _,fun b dxb hb ka nb=>{b,dxb,_,_,_,Z9,ag,fun G' ld but=>{Z9,?_}}};have lw:aT G G':=fun a o e=>but _ _ (aP (aP e (av e ka)) (av e hb)) (av e hb);have M:=I.same lw;have hI:=M.le;have mF:∀{a:aa} {o:HO},H a=Z8 o->a≠k->a≠co/\a≠s'/\a≠U/\a≠rl/\G' a=Z8 o:=fun {a o} e n=>by
  obtain⟨c1,c2,c3,c4⟩:=M.c.sm a o (iE e n);refine{c1,c2,c3,fun z=>?_,c4};have:=W.nr;rw[<- z,iE e n]at this
  cases this
 obtain⟨ss,qs,ps⟩:=M.c.hs;obtain⟨ml,iv,ih,hP,_⟩:=M.c.hc;obtain⟨hE,hC,_⟩:=M.c.hp;have ff:∀{a:aa} {o:HO},a≠co->a≠s'->a≠U->a≠rl->(a∈ex\/∃xs,o=.tup xs)->G' a=Z8 o->Hid {[co,s',U,rl],fun _=>Z7} (On ex G') a=Z8 o:=fun {a o} n1 n2 n3 n4 i e=>by
  rw[cW fun z=>?_]
  ·exact mi i e
  ·rcases z with z|⟨_,z,_⟩
   ·have z:a∈[co,s',U,rl]:=z;simp only[ar,aI,or_false]at z
    rcases z with z|z|z|z
    ·exact n1 z
    ·exact n2 z
    ·exact n3 z
    ·exact n4 z
   ·cases z
 have lM:∀{a:aa},a∈[co,s',U,rl]->Hid {[co,s',U,rl],fun _=>Z7} (On ex G') a=Z7:=fun {a} h=>by
  cases z:Hid {[co,s',U,rl],fun _=>Z7} (On ex G') a with
  |none=>rfl
  |some o=>exact absurd (.inl h) (dN z)
 have fT:aT (Hid ex G') (Hid {[rl,s'],Hid {[co,s',U,rl],fun _=>Z7} (On ex G')} G'):=fun a o e=>by
  have ea:=cG _ _ e;rw[cW fun z=>?_]
  ·exact ea
  ·rcases z with z|⟨o',z,n⟩
   ·have z:a∈[rl,s']:=z
    rcases ar.mp z with z|z
    ·exact dN e (z ▸ W.ir)
    ·exact dN e (aE.mp z ▸ M.c.i2)
   ·obtain⟨i,e'⟩:=qQ (cG _ _ z)
    rcases i with i|⟨xs,i⟩
    ·exact dN e i
    ·exact n xs i
 have nT:∀{a:aa} {o:HO},Hid {[co,s',U,rl],fun _=>Z7} (On ex G') a=Z7->G' a=Z8 o->Hid {[],Hid {[co,s',U,rl],fun _=>Z7} (On ex G')} G' a=Z8 o:=fun {a o} n e=>by
  rw[cW fun z=>?_]
  ·exact e
  ·rcases z with z|⟨o',z,_⟩
   ·exact aI z
   ·have z:Hid {[co,s',U,rl],fun _=>Z7} (On ex G') a=Z8 o':=z;rw[n]at z
    cases z
 have lp:=gD (ex:=ex) lw;have ke:H d=Z7:=by
  have:=W.nd;unfold Wp at this;rw[if_neg W.kd.symm]at this;exact this
 have sW:aT (Wp k H) (Hid {[co,s',U,rl],fun _=>Z7} (On ex G')):=fun a o e=>by
  obtain⟨n,e⟩:=uo e;obtain⟨c1,c2,c3,c4,c5⟩:=mF e n;refine ff c1 c2 c3 c4 ?_ c5
  by_cases t:∃xs,o=.tup xs
  ·exact .inr t
  ·exact .inl (M.ol a {o,e,fun xs y=>t ⟨xs,y⟩})
 refine q G' (Hid {[co,s',U,rl],fun _=>Z7} (On ex G')) b dxb rl d s' en rvs ss kvs iF eF ky sW (cG.trans on_le) {{dx,ff W.k1.symm W.k2.symm W.k3.symm W.kr (.inl W.ik) M.qk},hR.same sW,ff W.d1.symm W.d2.symm W.d3.symm W.dr (.inl W.id) M.qd,M.kp.same fun a o e=>?_} ?_ (M.kp.same fun a o e=>?_) os ld ?_ (nT (lM (by simp)) M.qr) (nT (lM (by simp)) qs) W.r2.symm (Paired.mono (fun _ _ z=>(z.same lp).same fT) kw) ((im.same lp).same fT) (by rw[<- rF];exact Paired.mono (fun _ _ z=>iG.same' fT z) ps) (by omega)
 ·have na:=dN e;have ni:∀{b:aa},b∈[k,co,s',U,d,rl]->a≠b:=fun hb z=>na (.inl (by rw[z];exact hb));obtain⟨i,ea⟩:=qQ (cG _ _ e);exact ff (ni (by simp)) (ni (by simp)) (ni (by simp)) (ni (by simp)) i ea
 ·rw[cW (iT ke)];exact ff W.d1.symm W.d2.symm W.d3.symm W.dr (.inl W.id) M.qd
 ·have na:=dN e;have ni:∀{b:aa},b∈[k,co,s',U,d,rl]->a≠b:=fun hb z=>na (.inl (by rw[z];exact hb));obtain⟨i,ea⟩:=qQ (cG _ _ e);have nh:a∉({[],H}:Ex):=fun z=>na (z.elim (fun y=>absurd y aI) .inr);rw[cW nh];exact ff (ni (by simp)) (ni (by simp)) (ni (by simp)) (ni (by simp)) i ea
 ·cases z:Hid {[co,s',U,rl],fun _=>Z7} (On ex G') b with
  |none=>rfl
  |some o=>
   obtain⟨i,e⟩:=qQ (cG _ _ z)
   rcases i with i|⟨xs,i⟩
   ·obtain⟨u,y,_⟩:=I.c.nt b i;rw[hb]at y
    cases y
   ·rw[i,ld]at e
    cases e
end
end My
namespace PySem
open SeqAt MeetsSeq MeetsSeq2 MeetsSeq3 SeqRoads2
open AutoSeq1 (wpAny_loadPart')
section
variable{prog:aL}{w:bA}{A:bY}{s:ao}
theorem NZ(l b:aa)(xs ys:Array ae)(n m:Nat)(dd V:Option aa)(sl sm:Array (Option ae))(hsz:xs.size=ys.size) :
  Av prog w (gW.«tuple.__eq__» {[.ref l,.ref b],[]}) (fun A R s=>
   s.heap.get? l=Z8 {cls:=.type "tuple",dict:=dd,data:=.seq xs n,slots:=sl}/\s.heap.get? b=Z8 {cls:=.type "tuple",dict:=V,data:=.seq ys m,slots:=sm} /\
   (∀j (h1:j<xs.size) (h2:j<ys.size),ju prog w A.in1 s xs[j] ys[j])/\R (.ok (.ret (.bool true))) s):=
 .of_wp fun A R s h=>by
  obtain⟨hp,g,d,tk,W⟩:=s;obtain⟨H,hb,M,h⟩:=h;have t:=iZ
  wp_walk using b8 H,b8 hb,kW _ (fun rest b s'=>b.1=Z7/\s'=⟨hp,g,d,tk,W⟩/\∀q∈rest,ju prog w A.in1 ⟨hp,g,d,tk,W⟩ q.1 q.2) _
  case turn=>
   rintro⟨y,x⟩ rest b s' ⟨Z,rfl,Y⟩;refine au (Y (y,x) ax _ _ ?_)
   wp_walk
   exact{Z9,Z9,fun q hq=>Y q (ah _ hq)}
  case fin=>
   rintro⟨D,z⟩ s' ⟨Z,rfl,_⟩;simp only at Z;subst Z
   wp_walk
   exact{_,Z9,by simpa[jh,hsz] using h}
  case h=>
   refine{Z9,Z9,fun q hq=>?_};obtain⟨j,J⟩:=dB hq;obtain⟨h1,h2⟩:=mI.mp J;obtain⟨I,e1⟩:=aF.mp h1;obtain⟨O,U⟩:=aF.mp h2;have:=M j (by simpa using I) (by simpa using O);rw[<- e1,<- U];simpa using this
theorem RcIn.tups{l b:aa}{xs ys:Array ae}(O:s.heap.IsTuple l xs)(hb:s.heap.IsTuple b ys)(hsz:xs.size=ys.size)(U:A.units<d8)
  (V:∀j (h1:j<xs.size) (h2:j<ys.size),ju prog w A.in1 s xs[j] ys[j]):RcIn prog w A s (.ref l) (.ref b):=fun E Q q=>by
 obtain⟨⟨I,dd,t1,sl⟩,Z,rfl,n,rfl⟩:=id O;obtain⟨⟨J,W,M,sm⟩,Y,rfl,m,rfl⟩:=id hb;refine i0 (op:=.Eq) {_,Z,Z9} {_,Y,Z9} F.slot_tuple_eq (mQ F.slot_tuple_eq {_,Z,Z9} F.entry_tuple_eq (F.args_tuple_eq_2 _ _) (NZ l b xs ys n m dd W sl sm hsz) {Z,Y,V,?_}) U;exact{fun z=>(nomatch z),q}
theorem Kv(l b:aa)(xs ys:Array ae)(n m:Nat)(dd M:Option aa)(sl sm:Array (Option ae))(hsz:xs.size=ys.size):∀k i:Nat,xs.size-i=k ->
  Av prog w (gW.«list.__eq__.loop» {[.ref l,.ref b,pj i,pj 3],[]}) (fun A R s=>
   s.heap.get? l=Z8 {cls:=.type "list",dict:=dd,data:=.seq xs n,slots:=sl}/\s.heap.get? b=Z8 {cls:=.type "list",dict:=M,data:=.seq ys m,slots:=sm} /\
   (∀j (h1:j<xs.size) (h2:j<ys.size),ju prog w A.in1 s xs[j] ys[j])/\R (.ok (.ret (.bool false))) s):=by
 intro k
 induction k with
 |zero=>
  intro i hk A R s q;obtain⟨hp,g,d,tk,J⟩:=s;obtain⟨Z,Y,V,W⟩:=q;have a1:xs[((i:Nat):Int).toNat]?=Z7:=by simp;omega
  have a2:ys[((i:Nat):Int).toNat]?=Z7:=by simp;omega
  wp_walk using b8 Z,b8 Y
  rw[a1,a2]
  wp_walk using b8 Z,b8 Y
  show R (.ok (.ret (.bool (xs.size != ys.size)))) _;rw[hsz,bne_self_eq_false];exact W
 |succ k I=>
  intro i hk A R s q;obtain⟨hp,g,d,tk,J⟩:=s;obtain⟨Z,Y,V,W⟩:=q;have O:i<xs.size:=by omega
  have U:i<ys.size:=by omega
  have a1:xs[((i:Nat):Int).toNat]?=Z8 xs[i]:=by simp[O]
  have a2:ys[((i:Nat):Int).toNat]?=Z8 ys[i]:=by simp[U]
  have e1:((i:Int)+1)=((i+1:Nat):Int):=by push_cast;rfl
  wp_walk using b8 Z,b8 Y
  rw[a1,a2];refine au (V i O U _ _ ?_)
  wp_walk
  rw[e1];refine{uS plain_eq_loop _,jJ entry_eq_loop ?_};rw[kA plain_eq_loop _];exact I (i+1) (by omega) A R _ ⟨Z,Y,V,W⟩
theorem Kw(l b:aa)(xs ys:Array ae)(n m:Nat)(dd Z:Option aa)(sl sm:Array (Option ae))(hsz:xs.size=ys.size) :
  Av prog w (gW.«list.__ne__» {[.ref l,.ref b],[]}) (fun A R s=>
   s.heap.get? l=Z8 {cls:=.type "list",dict:=dd,data:=.seq xs n,slots:=sl}/\s.heap.get? b=Z8 {cls:=.type "list",dict:=Z,data:=.seq ys m,slots:=sm} /\
   (∀j (h1:j<xs.size) (h2:j<ys.size),ju prog w A.in1 s xs[j] ys[j])/\R (.ok (.ret (.bool false))) s):=by
 intro A R s q;obtain⟨hp,g,d,tk,M⟩:=s;obtain⟨Y,W,U,V⟩:=q;have f1:=xB;have O:¬(xs.size != ys.size)=true:=by simp[hsz]
 wp_walk using b8 Y,b8 W
 refine{uS plain_eq_loop _,jJ entry_eq_loop ?_};rw[kA plain_eq_loop _];exact Kv l b xs ys n m dd Z sl sm hsz _ 0 rfl A R _ ⟨Y,W,U,V⟩
theorem BC{l b:aa}{xs ys:Array ae}(O:s.heap.IsList l xs)(hb:s.heap.IsList b ys)(hsz:xs.size=ys.size)(U:A.units<d8)
  (V:∀j (h1:j<xs.size) (h2:j<ys.size),ju prog w A.in1 s xs[j] ys[j]) (E:ae->ao->Prop) (Q:ae->ao->Prop) (q:Q (.bool false) s):aW (aX prog w) A (o6 .NotEq (.ref l) (.ref b)) Q E s:=by
 obtain⟨⟨I,dd,t1,sl⟩,Z,rfl,n,rfl⟩:=id O;obtain⟨⟨J,W,M,sm⟩,Y,rfl,m,rfl⟩:=id hb;refine i0 (op:=.NotEq) {_,Z,Z9} {_,Y,Z9} F.slot_list_ne (mQ F.slot_list_ne {_,Z,Z9} F.entry_list_ne (F.args_list_ne_2 _ _) (Kw l b xs ys n m dd W sl sm hsz) {Z,Y,V,?_}) U;exact{fun z=>(nomatch z),q}
end
end PySem
namespace L2
open PySem PySem.Spec PyProof.Rows PySem.SeqAt
section
variable{X:Cx}
def SEq(H:Hp)(x y:V):Prop:=∃p q xs ys,x=.ref p/\y=.ref q/\H p=Z8 (.lst xs)/\H q=Z8 (.lst ys)/\aH (fun a b=>∃s t us vs,a=.ref s/\b=.ref t/\H s=Z8 (.tup us)/\H t=Z8 (.tup vs)/\aH (DEq H 2) us vs) xs ys
theorem N0(hu:X.A.units+50<d8):OpR X (dI .NotEq) (fun x y H Q=>SEq H x y/\Q (.bl false) H):=by
 intro pins s σ H x y v u Q I Y Z h;obtain⟨⟨p,q,xs,ys,rfl,rfl,h1,h2,r⟩,k⟩:=h
 cases Y
 cases Z;have fin:EP X pins σ Q (.bool false) s:={.bl false,H,I,Z9,k};have V:X.A.units<d8:=by omega
 have U:X.A.in1.units<d8:=by
  show X.A.units+1<d8;omega
 have O:X.A.in1.in1.units+2+20<d8:=by
  show X.A.units+1+1+2+20<d8;omega
 obtain⟨us,r1,i1⟩:=gK I.hok h1;obtain⟨vs,r2,i2⟩:=gK I.hok h2;obtain⟨e,z⟩:=jP r r1 r2;refine BC i1 i2 (by simpa using e) V (fun j a b=>?_) _ _ fin;obtain⟨x,y,⟨s',t',bB,t,rfl,rfl,D,g2,g3⟩,Y,Z⟩:=z j (by simpa using a) (by simpa using b);obtain⟨bG,q1,j1⟩:=iu I.hok D;obtain⟨bF,q2,g⟩:=iu I.hok g2;obtain⟨e2,M⟩:=jP g3 q1 q2;have W:ju X.prog X.w X.A.in1 s (.ref s') (.ref t'):=ju.refs (RcIn.tups j1 g (by simpa using e2) U fun j a b=>by
  obtain⟨x,y,rr,Y,Z⟩:=M j (by simpa using a) (by simpa using b);simpa using vO I.hok O rr Y Z)
 have ex:us[j]'(by simpa using a)=Value.ref s':=Y;have J:vs[j]'(by simpa using b)=Value.ref t':=Z;simpa[ex,J] using W
end
end L2
namespace L2
open PySem PySem.Spec PyProof.Rows
section
variable{X:Cx}{tg:cL}
end
theorem EI{a b c:Int}(h1:1<=c)(h2:c<=1000)(W:0<=a)(M:a<=1000000)(U:0<=b)(O:b<=1000000):oI a b c=true/\0<=cR a b c:=by
 have e:cR a b c=if a<b then (b-a-1)/c+1 else 0:=by
  unfold cR;rw[if_pos (by omega)]
 have Z:0<=cR a b c/\cR a b c<=1000001:=by
  rw[e]
  split
  ·have V:0<=(b-a-1)/c:=Int.ediv_nonneg (by omega) (by omega);have Y:(b-a-1)/c<=b-a-1:=Int.ediv_le_self c (by omega);omega
  ·omega
 refine{?_,Z.1};unfold oI;generalize cR a b c=z at Z;simp only[Builtin.Range.rangeFitsLong,uN,Bool.or_eq_true,decide_eq_true_eq,beq_iff_eq];rw[if_pos (by omega)];refine{by omega,.inr ?_};rw[uN,decide_eq_true_eq,decide_eq_true_eq];omega
def tLR(ta:TA):TE:=fun σ H Q=>ta σ H fun vs H1=>∃i j c:Int,∃n:Nat,vs=[.int i,.int j,.int c]/\1<=c/\c<=1000/\oI i j c=true/\cR i j c=n/\n<=1000/\∀l,H1 l=Z7->Q (.ref l) (upd H1 l (.lst ((eT n).map fun k:Nat=>V.int (i+k*c))))
theorem Ii{i c:Int}:∀{n:Nat} {us:List ae},us.length=n->(∀(j:Nat) (v:ae),us[j]?=Z8 v->∃t,v=Value.int (i+j*c) t)->cS ((eT n).map fun k:Nat=>V.int (i+k*c)) us:=by
 intro n
 induction n with
 |zero=>
  intro us h _;rw[wC h];exact .nil
 |succ n O=>
  intro us h W;obtain⟨Z,Y,rfl⟩:∃a b,us=a++[b]:={us.dropLast,us.getLast (by intro z;rw[z]at h;cases h),(List.dropLast_concat_getLast _).symm};have U:Z.length=n:=by
   rw[ay]at h;have:Z.length+1=n+1:=h;omega
  rw[Ku,bT];refine cS.append (O U fun j v e=>W j v ?_) (.cons ?_ .nil)
  ·rw[eI (aF.mp e).1];exact e
  ·exact W n Y (by rw[dP (by omega),U,qg];rfl)
section
variable{X:Cx}
theorem rZ{a b c:cL}{ta:TA}{p q pos pos':Pos}(hc:X.calm=true)(hg:Gl X "range")(hm:X.mg "range"=Z7)(V:Gl X "list")(U:X.mg "list"=Z7)(hb:eK "list"=Z8 (.type "list"))(ha:PA X [a,b,c] ta)(hs:cw [a,b,c] X.env=(false,fy a X.env)::cw [b,c] X.env:=by rfl)(O:cw [b,c] X.env=[(false,fy b X.env),(false,fy c X.env)]:=by rfl)(W:cw [.Call (.Name "range" p) [a,b,c] [] pos] X.env=[(false,fy (.Call (.Name "range" p) [a,b,c] [] pos) X.env)]:=by rfl) :
  PE X (.Call (.Name "list" q) [.Call (.Name "range" p) [a,b,c] [] pos] [] pos') (tLR ta):=by
 intro pins s σ H Q I h;refine gR (o9 I V U hb (fY ?_ W rfl));rw[W];refine DQ ?_;refine Call_ (o9 I hg hm boot_range (fY (thn (ha pos pins s σ H _ I h) fun us M ⟨vs,H1,I1,r1,J⟩=>?_) hs (by rw[O];rfl)));obtain⟨i,j,k,n,e,J,q2,g,z,q5,q⟩:=J;subst e
 cases r1 with
 |cons r Y=>
  cases Y with
  |cons r' Y=>
   cases Y with
   |cons r2 Y=>
    cases Y;obtain⟨t,rfl⟩:=r;obtain⟨t',rfl⟩:=r';obtain⟨t2,rfl⟩:=r2;refine call_range_3 (by omega) ?_ (.inl (yi (by omega)));refine EN ?_;have D:Inv X pins σ H1 {M with heap:=M.heap.push {cls:=.type "range",data:=.fields #[.int i t,.int j t',.int k t2]}}:=I1.kept (t':=M.toks) fun b o e=>aK _ e;refine call_list_range (I.ok.hd hc) (KD ..) g z (by omega) fun h' tk Z c' kp e it=>?_;have hz:1000<=aC:=by decide
    have v:=Ii (i:=i) (c:=k) (n:=n) (us:=Z.toList) (by rw[fu];exact it.1) fun j v e=>it.2 j v (by rw[<- jV];exact e);refine{.ref _,_,D.laid (t':=tk) kp (aB _) (show eB X.prog X.w _ h' _ (.lst _) from{by rw[aq,List.length_range];omega,Z.toList,c',v,e}),Z9,q _ (D.hok.fresh (aB _))}
end
end L2
namespace My
open PySem L2
theorem vj{H:Hp}{n:Nat}{p q:aa}{xs:List V}(hp:H p=Z8 (.tup xs))(hq:H q=Z8 (.tup xs))(sc:∀x∈xs,sc0 x):TEq H (n+1) (.ref p) (.ref q):=
 .inr (.inr ⟨p,q,xs,xs,Z9,Z9,hp,hq,by
  clear hp hq
  induction xs with
  |nil=>exact .nil
  |cons x xs Z=>
   refine .cons ?_ (Z fun y hy=>sc y (ah _ hy))
   cases n with
   |zero=>exact{sc x ax,Z9}
   |succ n=>exact .inl {sc x ax,Z9}⟩)
theorem wK{H:Hp}{n:Nat}{Y:Type}{R S:V->Y->Prop}(f:∀x y a,R x a->S y a->TEq H n x y):∀{xs ys:List V} {Z:List Y},aH R xs Z->aH S ys Z->aH (TEq H n) xs ys:=by
 intro xs ys Z p
 induction p generalizing ys with
 |nil=>
  intro q
  cases q;exact .nil
 |cons a b W=>
  intro q
  cases q with
  |cons c d=>exact .cons (f _ _ _ a c) (W d)
theorem Kx{H:Hp}{n:Nat}{xs ys Y Z:List V}(a:aH (TEq H n) xs ys)(b:aH (TEq H n) Y Z):aH (TEq H n) (xs++Y) (ys++Z):=by
 induction a with
 |nil=>exact b
 |cons h _ W=>exact .cons h W
theorem jS{H:Hp}{n:Nat}{x:V}(h:sc0 x):TEq H n x x:=by
 cases n with
 |zero=>exact⟨h,Z9⟩
 |succ n=>exact .inl ⟨h,Z9⟩
theorem vk{H:Hp}{n:Nat}{a b:aa}{h:Ev}(ha:H a=Z8 (Bs h))(hb:H b=Z8 (Bs h)):TEq H (n+1) (.ref a) (.ref b):=
 vj ha hb fun x hx=>by
  simp only[ar,aI,or_false]at hx
  rcases hx with rfl|rfl|rfl|rfl<;>trivial
theorem N1{H:Hp}{n:Nat}{v W:V}{e:Ev}(h:ip H v e)(h':ip H W e):TEq H (n+2) v W:=by
 obtain⟨t,k,rfl,h1,h2⟩:=h;obtain⟨t',U,rfl,Z,Y⟩:=h';exact .inr (.inr {t,t',_,_,Z9,Z9,h1,Z,.cons (vk h2 Y) (.cons (jS trivial) (.cons (jS trivial) (.cons (jS trivial) (.cons (jS trivial) .nil))))})
theorem nG{H:Hp}{n:Nat}{a b:aa}{ns:List Int}(ha:H a=Z8 (.lst (ns.map V.int)))(hb:H b=Z8 (.lst (ns.map V.int))):TEq H (n+1) (.ref a) (.ref b):=
 .inr (.inl ⟨a,b,_,_,Z9,Z9,ha,hb,by
  clear ha hb
  induction ns with
  |nil=>exact .nil
  |cons x xs Z=>exact .cons (jS trivial) Z⟩)
theorem Ij{H:Hp}{n:Nat}:∀{qs:List (Str×List Int)} {O Z:List (Str×aa)} {U Y:List V},gj H O qs->gj H Z qs->aH (z7 H) U O->aH (z7 H) Y Z->aH (TEq H (n+2)) U Y
 | [],O,Z,U,Y,e,g,a,c=>by
  cases e
  cases g
  cases a
  cases c;exact .nil
 |q::qs,O,Z,U,Y,e,g,a,c=>by
  cases e with
  |cons e f=>
  cases g with
  |cons g h=>
  cases a with
  |cons a b=>
  cases c with
  |cons c d=>
  obtain⟨t,rfl,h1⟩:=a;obtain⟨t',rfl,W⟩:=c;obtain⟨e1,M⟩:=e;obtain⟨J,I⟩:=g;rw[e1]at h1;rw[J]at W;exact .cons (.inr (.inr {t,t',_,_,Z9,Z9,h1,W,.cons (jS trivial) (.cons (nG M I) .nil)})) (Ij f h b d)
theorem Ky{H:Hp}{n:Nat}{v v':V}{q:Rec}(h:RcIn H v q)(h':RcIn H v' q):TEq H (n+4) v v':=by
 obtain⟨rc,k,wl,od,U,bH,vs,qa,rfl,h1,h2,h3,h4,h5,h6,h7,h8⟩:=h;obtain⟨I,k',ca,D,Z,Y,bG,bF,rfl,M,O,W,cc,bI,J,bW,g⟩:=h';have w1:aH (TEq H (n+2)) U Z:=wK (R:=yL H) (S:=yL H) (fun x y a hx hy=>by
  obtain⟨t,rfl,z⟩:=hx;obtain⟨t',rfl,z'⟩:=hy;exact vj z z' fun x hx=>by
   simp only[ar,aI,or_false]at hx
   rcases hx with rfl|rfl<;>trivial) h4 cc
 have w2:aH (TEq H (n+2)) bH Y:=Ij h6 J h5 bI;refine .inr (.inr {rc,I,_,_,Z9,Z9,h1,M,.cons (vk h2 O) (.cons (jS trivial) (.cons (jS trivial) (.cons (jS trivial) (.cons (jS trivial) (.cons ?_ (.cons ?_ .nil))))))})
 ·exact .inr (.inl {wl,ca,_,_,Z9,Z9,h3,W,Kx w1 w2})
 ·exact .inr (.inl {od,D,_,_,Z9,Z9,h7,bW,wK (R:=ip H) (S:=ip H) (fun x y a hx hy=>N1 hx hy) h8 g})
theorem Am{H:Hp}{a b:aa}{xs ys:List V}{Z:List Rec}(ha:H a=Z8 (.lst xs))(hb:H b=Z8 (.lst ys))(Y:aH (RcIn H) xs Z)(W:aH (RcIn H) ys Z):TEq H 5 (.ref a) (.ref b):=
 .inr (.inl {a,b,xs,ys,Z9,Z9,ha,hb,wK (R:=RcIn H) (S:=RcIn H) (fun x y q hx hy=>Ky hx hy) Y W})
theorem wL{K:af}{n:Nat}{O:TE}{g:TG}{tc:L2.TT}{te:TE}{σ:St}{H:Hp}{Q:VK}(W:aa->List V->Hp->Prop)(hi:∀R:VK,(∀a xs H1,W a xs H1->R (.ref a) H1)->O σ H R)(hx:∀a xs H1,W a xs H1->SqL K H1 a xs)(Z:aa->List V->Hp->Nat->List V->Hp->Prop)(h0:∀a xs H1,W a xs H1->Z a xs H1 0 [] H1)
  (J:∀a xs H1,W a xs H1->∀i ys G,i<=xs.length->Z a xs H1 i ys G->SqL K G a xs/\ys.length<aC)
  (hs:∀a xs H1,W a xs H1->∀i x ys G,xs[i]?=Z8 x->Z a xs H1 i ys G->g x (cz n Z7++σ) G fun Y H2=>Y.drop n=σ/\tc Y H2 fun b U=>if b=true then te Y U fun y I=>Z a xs H1 (i+1) (ys++[y]) I else Z a xs H1 (i+1) ys U)
  (M:∀a xs H1,W a xs H1->∀ys G,Z a xs H1 xs.length ys G->∀p,G p=Z7->Q (.ref p) (upd G p (.lst ys))):t9 n (Fc K O) g tc te σ H Q:=
 hi _ fun a xs H1 p=>{a,Z9,{xs,hx a xs H1 p},tj (Z a xs H1) (h0 a xs H1 p) (J a xs H1 p) (hs a xs H1 p) (M a xs H1 p)}
theorem Di{b q d e:V}:kL b q d e=[(("boxes":Str),b),(("queues":Str),q),(("drawn":Str),d),(("sent":Str),e)]:=rfl
def StT(CS:aa)(G:Hp)(v:V)(st:aa):Prop:=∃(t dx:aa) (b q d e:V),v=.ref t/\G t=Z8 (.tup [b,q,d,e])/\G st=Z8 (.ins CS dx (kL b q d e))
theorem StT.same{CS:aa}{G G':Hp}(s:aT G G'){v:V}{st:aa}(h:StT CS G v st):StT CS G' v st:=by
 obtain⟨t,dx,b,q,d,e,h1,h2,Z⟩:=h;exact{t,dx,b,q,d,e,h1,s _ _ h2,s _ _ Z}
theorem Ik{H:Hp}:∀bx:List (Str×Int),aH (fun (a b:Key×V)=>a.1=b.1/\DEq H 1 a.2 b.2) (boK bx) (boK bx)
 | []=>.nil
 |p::bx=>.cons {Z9,.inl {0,bO _,trivial,Z9}} (Ik bx)
theorem Il{H:Hp}:∀{Z Y:List (Str×aa)} {qu:List (Str×List Int)},gj H Z qu->gj H Y qu->aH (fun (a b:Key×V)=>a.1=b.1/\DEq H 1 a.2 b.2) (quK Z) (quK Y)
 |_,_,_,.nil,.nil=>.nil
 |_,_,_,.cons ⟨a1,a2⟩ a,.cons ⟨U,W⟩ b=>.cons {congrArg Sum.inr (a1.trans U.symm),.inl {1,by decide,nG (n:=0) a2 W}} (Il a b)
theorem N2{CS:aa}{H:Hp}{s s':aa}{v O:V}{x:Sta}(a:StT CS H v s)(a':StA CS H s x)(b:StT CS H O s')(M:StA CS H s' x):∃p q us vs,v=.ref p/\O=.ref q/\H p=Z8 (.tup us)/\H q=Z8 (.tup vs)/\aH (DEq H 2) us vs:=by
 obtain⟨t,dx,b1,q1,d1,e1,rfl,D,g2⟩:=a;obtain⟨bH,bd,z,qa,k1,k2,k3,k4⟩:=a';obtain⟨t',bI,b2,q2,d2,e2,rfl,l1,l2⟩:=b;obtain⟨U,W,Y,bW,Z,J,I,g⟩:=M;rw[g2,Di,Di]at k1;rw[l2,Di,Di]at Z;injection k1 with k1;injection Z with Z;injection k1 with _ _ k1;injection Z with _ _ Z;simp only[Ct,Prod.mk.injEq,true_and,and_true]at k1 Z;obtain⟨rfl,rfl,rfl,rfl⟩:=k1;obtain⟨rfl,rfl,rfl,rfl⟩:=Z;exact{t,t',_,_,Z9,Z9,D,l1,.cons (.inr (.inr {bd,W,_,_,Z9,Z9,k2,J,Ik _})) (.cons (.inr (.inr {z,Y,_,_,Z9,Z9,k3,I,Il k4 g})) (.cons (.inl {0,bO _,trivial,Z9}) (.cons (.inl {0,bO _,trivial,Z9}) .nil)))}
theorem Dj{CS:aa}{H:Hp}:∀{Z:List Sta} {J us:List V} {ss M:List aa},aH (StT CS H) J ss->aH (StA CS H) ss Z->aH (StT CS H) us M->aH (StA CS H) M Z->aH (fun a b=>∃s t us vs,a=.ref s/\b=.ref t/\H s=Z8 (.tup us)/\H t=Z8 (.tup vs)/\aH (DEq H 2) us vs) J us
 | [],_,_,_,_,a,W,b,Y=>by
  cases W
  cases Y
  cases a
  cases b;exact .nil
 |x::Z,_,_,_,_,a,W,b,Y=>by
  cases W with
  |cons U W=>
  cases Y with
  |cons O Y=>
  cases a with
  |cons a1 a=>
  cases b with
  |cons I b=>
  exact .cons (N2 a1 U I O) (Dj a W b Y)
section
variable{P:aL}{w:bA}{K:af}{mg:Str->Option ae}{base:cu}{f CM CS:aa}{fd:bS}
seal PS PSs PE PA PT PW PI PG PGs PC
abbrev nSx:List Str:=["_law_states_here"]
abbrev pSx:List Str:=["_law_states_here"]
theorem scSx:bK nSx pSx (aN jy):={}
theorem ndSx:((["_law_one"]:List Str)++nSx).Nodup:=by decide +kernel
inductive LN(CS:aa)(vs:List V)(H:Hp)(Q:VK)(_e:XK):Prop where
 |mk(l:aa)(ss:List aa)(_:vs=[.ref l])(_:H l=Z8 (.lst (ss.map V.ref)))(_:ss.length<1000)(_:(∀st∈ss,∃dx b q d e,H st=Z8 (.ins CS dx (kL b q d e))))(_:∀(G:Hp) (l2:aa) (ts:List V),aT H G->G l2=Z8 (.lst ts)->aH (StT CS G) ts ss->Q (.ref l2) G):LN CS vs H Q _e
def spSx(CS:aa):Sp:=fun vs H Q Z=>LN CS vs H Q Z
theorem ok_sx(D:Df K mg "_law_states" jy pSx f fd)(Z:MdT K mg CM CS):bh P w K mg base CX0 1 f fd pSx (spSx CS):=by
 refine D.F.ok scSx (fun vs H Q E h=>?_) (fun bg A outer s H vs Q E hr h=>?_)
 ·obtain⟨l,ss,rfl,_⟩:=h;rfl
 obtain⟨l,ss,rfl,I,ls,hs,q⟩:=h;refine{_,aA (bJ (lS ["_law_one"] (iC.open (NN:=nSx) (N:=nSx) (sc:=aN jy) rfl rfl (by decide +kernel) rfl (by decide +kernel) (by decide +kernel) rfl (by decide +kernel)) rfl (g9 (pv 0)) (fun _ _ _ _=>df (i:=0) ndSx rfl (Or.inl rfl)) (fun _ _ _ _=>jW) (fun _ _ _ _=>eg (ak (cM K (by rfl) (pv 0) (by rfl)) (ak (cM K (by rfl) (pv 0) (by rfl)) (ak (cM K (by rfl) (pv 0) (by rfl)) (ak (cM K (by rfl) (pv 0) (by rfl)) aj))))))),?_};have big:=dZ;refine fH (wL (fun a xs H1=>a=l/\xs=ss.map V.ref/\H1=H) (fun R g=>{_,Z9,g _ _ _ ⟨Z9,Z9,Z9⟩}) ?_ (fun a xs H1 i ys G=>aT H G/\aH (StT CS G) ys (ss.take i)) ?_ ?_ ?_ ?_)
 ·rintro _ _ _ ⟨rfl,rfl,rfl⟩;exact SqL.of I
 ·rintro _ _ _ ⟨rfl,rfl,rfl⟩;exact{aT.refl _,.nil}
 ·rintro _ _ _ ⟨rfl,rfl,rfl⟩ i ys G hi ⟨W,U⟩;refine{SqL.of (W _ _ I),?_};have:=aV U;rw[cK]at this;omega
 ·rintro _ _ H ⟨rfl,rfl,rfl⟩ i x ys G hx ⟨W,U⟩;rw[cm]at hx;obtain⟨st,O,rfl⟩:=fh.mp hx;obtain⟨dx,b,J,d,e,h1⟩:=hs st (bD O);have h1:=W _ _ h1;refine bL {Z9,_,Z9,st,CS,dx,_,_,Z9,h1,Z.clS,Z.nB,Z9,_,Z9,st,CS,dx,_,_,Z9,h1,Z.clS,Z.nQ,Z9,_,Z9,st,CS,dx,_,_,Z9,h1,Z.clS,Z.nD,Z9,_,Z9,st,CS,dx,_,_,Z9,h1,Z.clS,Z.nS,Z9,by show 4<=aC;omega,fun t ht=>?_};have Y:=aD ht (.tup [b,J,d,e]);refine{W.trans Y,?_};rw[d9,O];exact Ie (Paired.mono (fun _ _ z=>z.same Y) U) (.cons {t,dx,b,J,d,e,Z9,ag,Y _ _ h1} .nil)
 ·rintro _ _ H ⟨rfl,rfl,rfl⟩ ys G ⟨W,U⟩ l2 M;rw[aq,dS]at U;have s2:=aD M (.lst ys);exact q _ l2 ys (W.trans s2) ag (Paired.mono (fun _ _ z=>z.same s2) U)
end
end My
namespace L2
open PySem PySem.Spec PyProof.Rows
theorem passO{X:Cx}:kS (CXo X.prog X.w) X E0:=fun pins σ H s e s' I h=>by
 obtain⟨Z,C,H',B,_,z,_⟩:=h;exact z.elim
end L2
namespace My
open PySem L2
theorem sorted_ints{Y Z:List Int}(h1:Y.Pairwise (·<=·))(h2:Z.Pairwise (·<=·))(h:Y.Perm Z):Y=Z:=List.Perm.eq_of_pairwise (fun _ _ _ _ a b=>Int.le_antisymm a b) h1 h2 h
theorem lD.same{Ms:List MD}{r:RS}{Z:Int}{i Y:Nat}{e W:End}(a:lD Ms r Z i e)(b:lD Ms r Z Y W):i=Y/\e=W:=by
 have V:i=Y:=by
  rcases Nat.lt_trichotomy i Y with z|z|z
  ·have:=(b.1 i z).2;rw[a.2.1]at this
   cases this
  ·exact z
  ·have:=(a.1 Y z).2;rw[b.2.1]at this
   cases this
 subst V;have:=a.2.1.symm.trans b.2.1
 cases this;exact⟨Z9,Z9⟩
theorem EJ{xs:List V}{k:Nat}(h:k<=xs.length):lI xs (Z8 (k:Int)) Z7=xs.drop k:=by
 unfold lI;rw[HT.sIx_nat,HT.sIx_none,Nat.min_eq_left h,Aw (by rw[oP];exact aB _)]
theorem pr_tk{Z Y:Type}{F:Z->Y->Prop}:∀{xs:List Z} {ys:List Y} (k:Nat),aH F xs ys->aH F (xs.take k) (ys.take k)
 |_,_,0,_=>.nil
 |_,_,_+1,.nil=>.nil
 |_,_,k+1,.cons a b=>.cons a (pr_tk k b)
theorem LO{Z Y:Type}{F:Z->Y->Prop}:∀{xs:List Z} {ys:List Y} (k:Nat),aH F xs ys->aH F (xs.drop k) (ys.drop k)
 |_,_,0,h=>h
 |_,_,_+1,.nil=>.nil
 |_,_,k+1,.cons a b=>LO k b
theorem An{H:Hp}{n:Nat}{v U:V}:∀{e:End},nF H v e->nF H U e->TEq H (n+3) v U
 |.empty,⟨t,e1,h1⟩,⟨t',Z,h2⟩=>by
  subst e1 Z;exact vj h1 h2 fun x hx=>by
   rw[aE.mp hx];exact trivial
 |.cut,⟨t,e1,h1⟩,⟨t',Z,h2⟩=>by
  subst e1 Z;exact vj h1 h2 fun x hx=>by
   rw[aE.mp hx];exact trivial
 |.stp (.fin _),⟨t,k,e1,h1,Y⟩,⟨t',O,Z,h2,W⟩=>by
  subst e1 Z;exact .inr (.inr {t,t',_,_,Z9,Z9,h1,h2,.cons (jS trivial) (.cons (vk Y W) .nil)})
 |.stp (.flt _ _),⟨t,k,e1,h1,Y⟩,⟨t',O,Z,h2,W⟩=>by
  subst e1 Z;exact .inr (.inr {t,t',_,_,Z9,Z9,h1,h2,.cons (jS trivial) (.cons (jS trivial) (.cons (vk Y W) .nil))})
theorem EK{H:Hp}{t t' rl Z:aa}{en Y:V}{xs ys:List V}{W:List Rec}{e:End}(h1:H t=Z8 (.tup [.ref rl,en]))(h2:H t'=Z8 (.tup [.ref Z,Y]))(M:H rl=Z8 (.lst xs))(J:H Z=Z8 (.lst ys))(U:aH (RcIn H) xs W)(p2:aH (RcIn H) ys W)(e1:nF H en e)(O:nF H Y e):TEq H 6 (.ref t) (.ref t'):=
 .inr (.inr {t,t',_,_,Z9,Z9,h1,h2,.cons (Am M J U p2) (.cons (An (n:=2) e1 O) .nil)})
theorem N3{kvs:List (Key×V)}{ev:Int}{q:Nat}(h:kvs.map (·.1)=oU q ev):jD kvs=(eT (q+1)).map fun j:Nat=>((j*ev.toNat:Nat):Int):=by
 have e:jD kvs=(kvs.map (·.1)).map fun k=>match k with
   |.inl n=>n
   |.inr _=>0:=by
  rw[dC];rfl
 rw[e,h];unfold oU;rw[dC];rfl
theorem Im{num:Int}:∀{kvs:List (Key×V)},(∀q∈kvs,∃(n:Nat) (c:aa),q=(Sum.inl (n:Int),V.ref c))->jD (kvs.filter (atL num))=(jD kvs).filter fun n=>decide (num<=n)
 | [],_=>rfl
 |a::kvs,h=>by
  obtain⟨n,c,rfl⟩:=h a ax;have Y:=Im (num:=num) fun q hq=>h q (ah _ hq);show jD (List.filter (atL num) ((Sum.inl (n:Int),V.ref c)::kvs))=List.filter _ ((n:Int)::jD kvs)
  by_cases Z:num<=(n:Int)
  ·rw[ie (show atL num (Sum.inl (n:Int),V.ref c)=true from decide_eq_true Z),ie (by exact decide_eq_true Z),<- Y];rfl
  ·rw[ig (show ¬atL num (Sum.inl (n:Int),V.ref c)=true from fun z=>Z (of_decide_eq_true z)),ig (by exact fun z=>Z (of_decide_eq_true z))];exact Y
theorem N4{q:Nat}{ev:Int}(h:1<=ev):cR 0 ((q:Int)+1) ev=((q/ev.toNat+1:Nat):Int):=by
 unfold cR;rw[if_pos (by omega),if_pos (by omega),show (q:Int)+1-0-1=(q:Int) by omega]
 conv=>lhs;rw[show ev=((ev.toNat:Nat):Int) by omega]
 rw[<- Int.natCast_ediv];omega
theorem N5{kvs:List (Key×V)}{ev:Int}{L:Nat}(e1:1<=ev)(W:L<=40)(h:kvs.map (·.1)=oU (L/ev.toNat) ev):((eT (L/ev.toNat+1)).map fun j:Nat=>0+(j:Int)*ev).Perm (jD kvs)/\((eT (L/ev.toNat+1)).map fun j:Nat=>0+(j:Int)*ev).Pairwise (·<=·)/\∀n∈(eT (L/ev.toNat+1)).map fun j:Nat=>0+(j:Int)*ev,n<=40:=by
 have e:∀j:Nat,0+(j:Int)*ev=((j*ev.toNat:Nat):Int):=fun j=>by
  rw[Int.natCast_mul,show ((ev.toNat:Nat):Int)=ev by omega];omega
 refine{?_,?_,fun n Y=>?_}
 ·rw[N3 h,gv fun j _=>e j]
 ·rw[iL];refine List.pairwise_lt_range.imp fun {a b} z=>?_;rw[e,e];exact Int.ofNat_le.mpr (kM _ (jM z))
 ·obtain⟨j,Z,rfl⟩:=cq.mp Y;have Z:=xh.mp Z;rw[e];have a1:j*ev.toNat<=L/ev.toNat*ev.toNat:=kM _ (by omega);have a2:=Nat.div_mul_le_self L ev.toNat;omega
structure Tol(CB CS:aa)(FF:Hp)(b dxb rl sl:aa)(en:V)(rvs:List V)(ss:List aa)(G:Hp):Prop where
 sF:aT FF G
 qb:G b=Z8 (.ins CB dxb (z8 (.ref rl) en (.ref sl)))
 fr:FF rl=Z7
 rs:rl≠sl
 qr:G rl=Z8 (.lst rvs)
 qs:G sl=Z8 (.lst (ss.map V.ref))
 rc:∀v∈rvs,∃(t wl od:aa) (x1 x2 x3 x4 x5:V),v=.ref t/\G t=Z8 (.tup [x1,x2,x3,x4,x5,.ref wl,.ref od])/\(FF wl=Z7/\wl≠rl/\wl≠sl/\∃xs,G wl=Z8 (.lst xs))/\(FF od=Z7/\od≠rl/\od≠sl/\∃xs,G od=Z8 (.lst xs))
 st:∀a∈ss,∃(dx bd qd:aa) (d e:V),G a=Z8 (.ins CS dx (kL (.ref bd) (.ref qd) d e))/\(FF bd=Z7/\∃xs,G bd=Z8 (.dK xs))/\(FF qd=Z7/\∃xs,G qd=Z8 (.dK xs))
section
variable{CB CS:aa}{FF:Hp}{b dxb rl sl:aa}{en:V}{rvs:List V}{ss:List aa}{G G':Hp}{c:aa}
theorem Tol.same(h:Tol CB CS FF b dxb rl sl en rvs ss G)(s:aT G G'):Tol CB CS FF b dxb rl sl en rvs ss G':=by
 refine{h.sF.trans s,s _ _ h.qb,h.fr,h.rs,s _ _ h.qr,s _ _ h.qs,fun v W=>?_,fun a ha=>?_}
 ·obtain⟨t,O,od,x1,H,z,I,M,e,g,⟨a1,a2,a3,xs,a4⟩,Z,Y,U,ys,J⟩:=h.rc v W;exact{t,O,od,x1,H,z,I,M,e,s _ _ g,{a1,a2,a3,xs,s _ _ a4},Z,Y,U,ys,s _ _ J}
 ·obtain⟨dx,D,V,d,e,g,⟨a1,xs,a2⟩,Z,ys,Y⟩:=h.st a ha;exact{dx,D,V,d,e,s _ _ g,{a1,xs,s _ _ a2},Z,ys,s _ _ Y}
theorem Tol.lcl(h:Tol CB CS FF b dxb rl sl en rvs ss G)(f:FF c=Z7)(J:c≠rl)(n2:c≠sl){xs:List V}(e:G c=Z8 (.lst xs)):Tol CB CS FF b dxb rl sl en rvs ss (upd G c (.lst [])):=by
 have ne:∀{a:aa} {o:HO},G a=Z8 o->(∀ys,o≠.lst ys)->upd G c (.lst []) a=Z8 o:=fun {a o} g n=>aP g fun z=>n xs (by rw[z,e]at g;exact (cI g).symm);have W:∀{a:aa} {ys:List V},G a=Z8 (.lst ys)->∃zs,upd G c (.lst []) a=Z8 (.lst zs):=fun {a ys} g=>by
  by_cases z:a=c
  ·rw[z];exact{_,ag}
  ·exact{ys,aP g z}
 refine{fun a o g=>aP (h.sF _ _ g) fun z=>?_,ne h.qb (fun ys z=>by cases z),h.fr,h.rs,aP h.qr J.symm,aP h.qs n2.symm,fun v U=>?_,fun a ha=>?_}
 ·rw[z,f]at g
  cases g
 ·obtain⟨t,I,od,x1,x2,x3,x4,H,e,g,⟨a1,a2,a3,xs,a4⟩,Z,Y,M,ys,D⟩:=h.rc v U;exact{t,I,od,x1,x2,x3,x4,H,e,ne g (fun ys z=>by cases z),{a1,a2,a3,W a4},Z,Y,M,W D}
 ·obtain⟨dx,bd,O,d,e,g,⟨a1,xs,a2⟩,Z,ys,Y⟩:=h.st a ha;exact{dx,bd,O,d,e,ne g (fun ys z=>by cases z),{a1,xs,ne a2 (fun ys z=>by cases z)},Z,ys,ne Y (fun ys z=>by cases z)}
theorem Tol.rcl(h:Tol CB CS FF b dxb rl sl en rvs ss G):Tol CB CS FF b dxb rl sl en [] ss (upd G rl (.lst [])):=by
 have ne:∀{a:aa} {o:HO},G a=Z8 o->(∀ys,o≠.lst ys)->upd G rl (.lst []) a=Z8 o:=fun {a o} g n=>aP g fun z=>n rvs (by rw[z,h.qr]at g;exact (cI g).symm);refine{fun a o g=>aP (h.sF _ _ g) fun z=>?_,ne h.qb (fun ys z=>by cases z),h.fr,h.rs,ag,aP h.qs h.rs.symm,fun v Z=>absurd Z aI,fun a ha=>?_}
 ·rw[z,h.fr]at g
  cases g
 ·obtain⟨dx,U,Y,d,e,g,⟨a1,xs,a2⟩,W,ys,V⟩:=h.st a ha;exact{dx,U,Y,d,e,ne g (fun ys z=>by cases z),{a1,xs,ne a2 (fun ys z=>by cases z)},W,ys,ne V (fun ys z=>by cases z)}
theorem Tol.dcl(h:Tol CB CS FF b dxb rl sl en [] ss G)(f:FF c=Z7){ks:List (Key×V)}(e:G c=Z8 (.dK ks)):Tol CB CS FF b dxb rl sl en [] ss (upd G c (.dK [])):=by
 have ne:∀{a:aa} {o:HO},G a=Z8 o->(∀ys,o≠.dK ys)->upd G c (.dK []) a=Z8 o:=fun {a o} g n=>aP g fun z=>n ks (by rw[z,e]at g;exact (cI g).symm);have Z:∀{a:aa} {ys:List (Key×V)},G a=Z8 (.dK ys)->∃zs,upd G c (.dK []) a=Z8 (.dK zs):=fun {a ys} g=>by
  by_cases z:a=c
  ·rw[z];exact{_,ag}
  ·exact{ys,aP g z}
 refine{fun a o g=>aP (h.sF _ _ g) fun z=>?_,ne h.qb (fun ys z=>by cases z),h.fr,h.rs,ne h.qr (fun ys z=>by cases z),ne h.qs (fun ys z=>by cases z),fun v Y=>absurd Y aI,fun a ha=>?_}
 ·rw[z,f]at g
  cases g
 ·obtain⟨dx,M,W,d,e,g,⟨a1,xs,a2⟩,U,ys,O⟩:=h.st a ha;exact{dx,M,W,d,e,ne g (fun ys z=>by cases z),{a1,Z a2},U,Z O}
end
theorem Io{xs:List V}{lo hi:Option Int}{x:V}(h:x∈lI xs lo hi):x∈xs:=by
 unfold lI at h;exact CW (qP h)
theorem Dk(n:Nat)(ev:Int):((eT n).map fun k:Nat=>V.int (0+k*ev))=((eT n).map fun j:Nat=>0+(j:Int)*ev).map V.int:=by
 rw[dC];rfl
theorem wM{Z Y:Type}{F:Z->Y->Prop}{xs:List Z}{ys:List Y}(p:aH F xs ys):∀{x:Z},x∈xs->∃y,F x y:=by
 induction p with
 |nil=>exact fun h=>absurd h aI
 |cons a _ W=>exact fun h=>(ar.mp h).elim (fun z=>z ▸ {_,a}) W
theorem tk_of{CB CS:aa}{FF G:Hp}{b dxb rl sl:aa}{en:V}{rvs:List V}{ss:List aa}{I:List Rec}{O:List Sta}(J:aT FF G)(qb:G b=Z8 (.ins CB dxb (z8 (.ref rl) en (.ref sl))))(M:Hid {[],FF} G rl=Z8 (.lst rvs))(qs:Hid {[],FF} G sl=Z8 (.lst (ss.map V.ref)))(n:rl≠sl)(pR:aH (RcIn (Hid {[rl,sl],FF} G)) rvs I)(pS:aH (StA CS (Hid {[rl,sl],FF} G)) ss O):Tol CB CS FF b dxb rl sl en rvs ss G:=by
 have Y:∀{l:List aa} {a:aa} {o:HO},Hid ⟨l,FF⟩ G a=Z8 o->(∀xs,o≠.tup xs)->FF a=Z7:=fun {l a o} e nt=>by
  cases z:FF a with
  |none=>rfl
  |some u=>
   have:=J _ _ z;rw[cG _ _ e]at this
   cases this;exact absurd (.inr {_,z,nt}:a∈(⟨l,FF⟩:Ex)) (dN e)
 have U:∀{a:aa} {o:HO},Hid {[rl,sl],FF} G a=Z8 o->a≠rl/\a≠sl:=fun {a o} e=>{fun z=>dN e (.inl (by rw[z];simp)),fun z=>dN e (.inl (by rw[z];simp))};refine{J,qb,Y M (fun xs z=>by cases z),n,cG _ _ M,cG _ _ qs,fun v hv=>?_,fun a ha=>?_}
 ·obtain⟨_,t,k,H,od,D,bF,vs,qa,e,h1,h2,Z,h4,h5,h6,W,h8⟩:=wM pR hv;exact{t,H,od,_,_,_,_,_,e,cG _ _ h1,{Y Z (fun xs z=>by cases z),(U Z).1,(U Z).2,_,cG _ _ Z},Y W (fun xs z=>by cases z),(U W).1,(U W).2,_,cG _ _ W}
 ·obtain⟨_,dx,bd,g,qa,h1,h2,Z,h4⟩:=wM pS ha;exact{dx,bd,g,_,_,cG _ _ h1,{Y h2 (fun xs z=>by cases z),_,cG _ _ h2},Y Z (fun xs z=>by cases z),_,cG _ _ Z}
section
variable{P:aL}{w:bA}{K:af}{mg:Str->Option ae}{base:cu}{f fPl fSx fKm fKg fKr CK CC CM CS CB CN:aa}{fd fdPl fdSx fdKm fdKg fdKr:bS}
seal PS PSs PE PA PT PW PI PG PGs PC
abbrev nGd:List Str:=["_law_keeper","_law_model","_law_signs_here","_law_every","_law_most","_law_due","_law_found","_law_record","_law_state","_law_number","_law_more"]
abbrev pGd:List Str:=["_law_keeper","_law_model","_law_signs_here","_law_every","_law_most"]
theorem BD:bK nGd pGd (aN oA):={}
inductive LP(CK CC CM CS:aa)(vs:List V)(H:Hp)(Q:VK)(_e:XK):Prop where
 |mk(Ms:List MD)(es:List Ev)(k dx m sl m0 sg:aa)(v:V)(ev most:Int)(_:vs=[.ref k,.ref m0,.ref sg,.int ev,.int most])(_:H k=Z8 (.ins CK dx (jH (.ref m) (.ref sl) (.int ev) v)))(_:Rn CM Ms es (Wp k H) m sl)(_:Rn CM Ms es (Wp k H) m0 sg)(_:1<=ev)(_:ev<=100)(_:0<=most)(_:most<=40)(_:∀(G FF:Hp) (kd:aa) (kvs:List (Key×V)),aT (Wp k H) FF->aT FF G->BB CK CC CM CS Ms es FF k m sl kd ev kvs->Hid ⟨[],H⟩ FF kd=Z8 (.dK kvs)->Kpt CC CS m Ms es (Hid ⟨[],H⟩ FF) kvs->Q (.bl true) G):LP CK CC CM CS vs H Q _e
def spGd(CK CC CM CS:aa):Sp:=fun vs H Q Z=>LP CK CC CM CS vs H Q Z
theorem ok_gd(D:Df K mg "_law_good" oA pGd f fd)(nH:Df K mg "plain" vc ["model","signs","most"] fPl fdPl)(lj:bh P w K mg base CX0 40 fPl fdPl ["model","signs","most"] (Lr CM CS CB))(nO:Df K mg "_law_states" jy pSx fSx fdSx)(oe:Mt K CK "marks" "Keeper.marks" hV pKm fKm fdKm)(MS:mg "sorted"=Z7)(MR:Mt K CK "run" "Keeper.run" jw pKr fKr fdKr)(io:bh P w K mg base CX0 40 fKr fdKr pKr (spKr CK CC CM CS CB))(MG:Mt K CK "go_on" "Keeper.go_on" iK pKg fKg fdKg)(GG:bh P w K mg base (CXo P w) 40 fKg fdKg pKg (spKg CK CC CM CS CN))(TK:KeT K mg CK)(Z:BkT K mg CB)(TM:MdT K mg CM CS)(B:Bl mg):bh P w K mg base CX0 41 f fd pGd (spGd CK CC CM CS):=by
 have mv:bh P w K mg base CX0 1 fKm fdKm pKm (NW CK):=LF oe.F TK MS;have ly:bh P w K mg base CX0 1 fSx fdSx pSx (spSx CS):=ok_sx nO TM;refine D.F.ok BD (fun vs H Q E h=>?_) (fun hB A outer s H vs Q E hr h=>?_)
 ·obtain⟨Ms,es,k,dx,m,sl,m0,sg,v,ev,M,rfl,_⟩:=h;rfl
 obtain⟨Ms,es,k,dx,m,sl,m0,sg,v,ev,M,rfl,hk,R,R0,e1,e2,li,lw,q⟩:=h;have nz:=FP hr;have r1:cZ 1 _:=hr.mono (by decide);have na:cZ 40 _:=hr;refine⟨_,ai (bM (i:=5) BD.nd rfl (Or.inl rfl) (aM lj na (by rfl) nH.m nH.F.kp nH.b .nil aY (bN (pv 1) (iY (fg (qf K (by rfl)) (by rfl) B.list boot_list (bN (pv 2) aj)) (bN (pv 4) aj)))))
  (ai (bM (i:=6) BD.nd rfl (Or.inl rfl) (fZ (pv 0) TK.cl MR.m io na MR.b .nil aY (bN (pv 4) aj)))
  (ai (cN ((E7 (bP (tw nz) (cM K (by rfl) (pv 6) (by rfl)) (cM K (by rfl) (pv 5) (by rfl)) (bV _)) (AA (bP (tw nz) (cM K (by rfl) (pv 6) (by rfl)) (cM K (by rfl) (pv 5) (by rfl)) (bV _)))).pt) (aA (bJ lO)) bZ)
  (ai (cN (bP (N0 nz) (aM ly r1 (by rfl) nO.m nO.F.kp nO.b .nil aY (ak (cM K (by rfl) (pv 6) (by rfl)) aj)) (aM ly r1 (by rfl) nO.m nO.F.kp nO.b .nil aY (ak (cM K (by rfl) (pv 5) (by rfl)) aj)) (bV _)) (aA (bJ lO)) bZ)
  (ai (cN (bP (tw nz) (gB (pv 0) TK.cl oe.m mv r1 oe.b .nil aY) (rZ rfl (by rfl) B.range (by rfl) B.list boot_list (dA aw (qH (cQ gQ (cT (fj K (by rfl)) (by rfl) B.len cy (ak (cM K (by rfl) (pv 5) (by rfl)) aj)) aw) (bN (pv 3) aj)))) (bV _)) (aA (bJ lO)) bZ)
  (ai (iH cF rfl (g9 (cM K (by rfl) (pv 6) (by rfl))) (df (i:=7) BD.nd rfl (Or.inl rfl)) (ai (dU (pF bE hZ ia mU (bX cD (pv 7) aw (fun _ _=>rfl))))
  (aA (dU (pF bE hZ ia mU (bX cD (pv 7) aw (fun _ _=>rfl)))))))
  (ai (dU (pF bE hZ ia mU (cM K (by rfl) (pv 6) (by rfl))))
  (ai (dU (pF bE hZ ia mU (gB (pv 0) TK.cl oe.m mv r1 oe.b .nil aY)))
  (ai (iH cF rfl (g9 (cM K (by rfl) (pv 6) (by rfl))) (df (i:=8) BD.nd rfl (Or.inl rfl)) (ai (dU (pF mT mR ya xM (cM K (by rfl) (pv 8) (by rfl))))
  (aA (dU (pF mT mR ya xM (cM K (by rfl) (pv 8) (by rfl)))))))
  (ai (iH cF rfl (g9 (rE uK (gB (pv 0) TK.cl oe.m mv r1 oe.b .nil aY) (uJ (Ff AE aw)) uI)) (df (i:=9) BD.nd rfl (Or.inl rfl)) (ai (bM (i:=10) BD.nd rfl (Or.inl rfl) (aM lj na (by rfl) nH.m nH.F.kp nH.b .nil aY (bN (pv 1) (iY (fg (qf K (by rfl)) (by rfl) B.list boot_list (bN (pv 2) aj)) (qH (cQ gQ (pv 9) aw) aj)))))
  (aA (cN (bP (tw nz) (fZ (pv 0) TK.cl MG.m GG na MG.b .nil passO (bN (pv 9) (dA aw aj))) (eg (rW (rE uK (cM K (by rfl) (pv 10) (by rfl)) (uJ (pv 9)) uI) (ak (cM K (by rfl) (pv 10) (by rfl)) aj))) (bV _)) (aA (bJ lO)) bZ))))
  (aA (bJ (nV (Mw nz) (gB (pv 0) TK.cl oe.m mv r1 oe.b .nil aY) (rZ rfl (by rfl) B.range (by rfl) B.list boot_list (dA aw (qH (cQ gQ (cT (fj K (by rfl)) (by rfl) B.len cy (ak (cM K (by rfl) (pv 5) (by rfl)) aj)) aw) (bN (pv 3) aj)))) (bV _))))))))))))),?_⟩
 have big:=dZ;have nq:=R0.same (vi _ _);obtain⟨no,kr,iv⟩:=nq.sg;refine cb (dy {_,Z9,_,Z9,sg,no,Z9,.inl (SqL.of kr),fun l1 kw=>?_});have u1:=aD kw (.lst no);refine{_,Z9,?_};refine wB ?_;refine{Ms,m0,l1,no,es,M,Z9,nq.mo.same u1,nq.lm,ag,Paired.mono (fun _ _ z=>z.same u1) iv,nq.le,nq.ev,by omega,fun G1 b1 i1 hF s1 lb kc=>bL ?_};dsimp only;obtain⟨nT,lM,kG,hE,W,ku,g1,g2,g3,g4,g5,g6⟩:=kc.ex;have sH:=u1.trans s1;refine cb (dy {_,Z9,k,dx,_,Z9,sH _ _ hk,qq _ _ _ _ (by decide +kernel),_,Z9,?_});refine wB ?_;refine{Ms,es,k,dx,m,sl,v,ev,M,Z9,sH _ _ hk,R.same (y7 sH),e1,e2,li,lw,fun G2 FF b2 Y nw kd nr ld mD my kvs i2 hy mc sW sF Ke im kt kh nc hq nt mq ix mM lz mz hT=>bL ?_};dsimp only
 -- alike
 obtain⟨rfl,rfl⟩:=lb.same mc;have sD:aT (Hid {[],upd H l1 (.lst no)} G1) FF:=fun a o e=>sW _ _ (iE (cG _ _ e) fun z=>dN e (z ▸ (.inr {_,u1 _ _ hk,fun xs w=>by cases w}:k∈({[],upd H l1 (.lst no)}:Ex))));have I:=sD.trans sF;have tk:=tk_of sF nc nt mq ix mM mz;have hY:=mc.2.2.len;have ih:=aV mz;have ka:=aV mM;have hP:=aV g6;have lm:=R.lm;refine cb (iA {_,Z9,b2,CB,Y,_,_,Z9,nc,Z.cl,Z.nR,Bp _ _ _,_,Z9,b1,CB,nT,_,_,Z9,I _ _ g1,Z.cl,Z.nR,Bp _ _ _,5,by decide,Am (cG _ _ nt) (I _ _ g2) (Paired.mono (fun _ _ z=>RcIn.same cG z) mM) (Paired.mono (fun _ _ z=>RcIn.same I z) g3),_,Z9,gf {_,Z9,b2,CB,Y,_,_,Z9,nc,Z.cl,Z.nE,Nu _ _ _,_,Z9,b1,CB,nT,_,_,Z9,I _ _ g1,Z.cl,Z.nE,Nu _ _ _,5,by decide,An (n:=2) (lz.same cG) (g4.same I),_,Z9,gf ?_}});dsimp only[lP];have nf:=Paired.mono (fun _ _ z=>iG.same' (CS:=CS) (cG (ex:={[nw,nr],FF}) (G:=G2)) z) mz;have mn:=Paired.mono (fun _ _ z=>iG.same' (CS:=CS) I z) g6;have ml:∀{F:Hp} {ss:List aa} {il:List Sta},aH (StA CS F) ss il->∀st∈ss,∃dx b q d e,F st=Z8 (.ins CS dx (kL b q d e)):=fun p st h=>by
  obtain⟨_,dx,bd,qd,qa,h1,_⟩:=wM p h;exact{dx,_,_,_,_,h1}
 refine cb (iA {_,Z9,b2,CB,Y,_,_,Z9,nc,Z.cl,Z.nS,Nv _ _ _,nr,my,Z9,tk.qs,by omega,ml nf,fun G3 l3 kb s3 q3 p3=>{_,Z9,b1,CB,nT,_,_,Z9,s3 _ _ (I _ _ g1),Z.cl,Z.nS,Nv _ _ _,kG,ku,Z9,s3 _ _ (I _ _ g5),by omega,ml (Paired.mono (fun _ _ z=>iG.same' s3 z) mn),fun G4 l4 kl s4 q4 p4=>?_}});have mu:=s3.trans s4;refine{{l3,l4,kb,kl,Z9,Z9,s4 _ _ q3,q4,Dj (Paired.mono (fun _ _ z=>z.same s4) p3) (Paired.mono (fun _ _ z=>iG.same' mu z) nf) p4 (Paired.mono (fun _ _ z=>iG.same' mu z) mn)},_,Z9,gf ?_};dsimp only[lP];have nM:=tk.same mu;clear mu q3 p3 q4 p4 s3 s4 nf mn ml tk lz mz mM nt mq nc I;have lr:W.length=mD.length:=by rw[aV g3,ka]
 have few:=x8 R.mo.ok mc li;have keys:=Ke.kk.keys;have mW:(jD kvs).length<64:=by
  unfold jD;rw[aq];have:=Ke.kk.few;omega
 obtain⟨J,oc⟩:=Ke.ob;obtain⟨n1,n2,n3⟩:=N5 e1 (L:=mD.length) (by omega) kh;have sz:=N4 (q:=W.length) e1;have hK:W.length/ev.toNat<=W.length:=Nat.div_le_self _ _;have lk:=(EI (a:=0) (b:=(W.length:Int)+1) (c:=ev) e1 (by omega) (by omega) (by omega) (by omega) (by omega)).1;refine cb (iA {_,Z9,k,J,_,Z9,nM.sF _ _ oc,qq _ _ _ _ (by decide +kernel),k,kd,J,_,_,_,kvs,jD kvs,Z9,nM.sF _ _ oc,nM.sF _ _ Ke.dk,keys,mW,fun l5 mF mS ma nb=>?_});have s5:=aD mS (.lst (mF.map V.int));have e5:=sorted_ints nb n2 (ma.trans n1.symm);refine{_,Z9,b1,CB,nT,_,_,Z9,s5 _ _ (nM.sF _ _ (sD _ _ g1)),Z.cl,Z.nR,Bp _ _ _,lM,W,Z9,.inl (SqL.of (s5 _ _ (nM.sF _ _ (sD _ _ g2)))),_,_,Z9,Z9,_,Z9,0,(W.length:Int)+1,ev,_,Z9,e1,by omega,lk,sz,by omega,fun l6 nD=>{1,by decide,nG (n:=0) (aD nD _ _ _ ag) (by rw[ag,Dk,e5,lr]),_,Z9,gf ?_}};dsimp only[lP];have nu:=nM.same (s5.trans (aD nD (.lst ((eT (W.length/ev.toNat+1)).map fun k:Nat=>V.int (0+k*ev)))));revert nu;generalize upd (upd G4 l5 (.lst (mF.map V.int))) l6 (.lst ((eT (W.length/ev.toNat+1)).map fun k:Nat=>V.int (0+k*ev)))=G6;intro nu;clear nM s5 mS nD
 -- what was told is cleared
 refine cb {_,Z9,b2,CB,Y,_,_,Z9,nu.qb,Z.cl,Z.nR,Bp _ _ _,nw,Z9,{_,SqL.of nu.qr},iI (xs:=mD) (fun _ σ G=>(∃u7 u8 u9 O:Option V,σ=[Z8 (.ref k),Z8 (.ref m0),Z8 (.ref sg),Z8 (.int ev),Z8 (.int M),Z8 (.ref b1),Z8 (.ref b2),u7,u8,u9,O])/\Tol CB CS FF b2 Y nw nr ld mD my G) {{_,_,_,_,Z9},nu} ?_ ?_ ?_}
 ·rintro _ _ G _ ⟨_,t⟩;exact SqL.of t.qr
 ·rintro i x _ G hx ⟨⟨u7,u8,u9,O,rfl⟩,t⟩;have hm:=bD hx;obtain⟨tt,wl,od,x1,x2,x3,x4,x5,rfl,g,⟨f1,c1,c2,xs,h1⟩,_⟩:=t.rc x hm;refine bL ?_;dsimp only;refine cb {_,Z9,tt,_,5,.ref wl,Z9,Z9,SqT.of g,Z9,.inl {Z9,_,SqL.of h1},wl,xs,Z9,Z9,h1,?_};have t1:=t.lcl f1 c1 c2 h1;obtain⟨hu,hL,lp,y1,y2,y3,y4,y5,e',g',_,f2,c3,c4,ys,h2⟩:=t1.rc _ hm
  cases e';exact{_,Z9,tt,_,6,.ref lp,Z9,Z9,SqT.of g',Z9,.inl {Z9,_,SqL.of h2},lp,ys,Z9,Z9,h2,{_,_,_,_,Z9},t1.lcl f2 c3 c4 h2}
 clear nu;rintro _ G ⟨⟨u7,u8,u9,O,rfl⟩,t⟩;dsimp only;refine cb {_,Z9,b2,CB,Y,_,_,Z9,t.qb,Z.cl,Z.nR,Bp _ _ _,.inl {Z9,_,SqL.of t.qr},nw,_,Z9,Z9,t.qr,?_};have t5:=t.rcl;refine cb {_,Z9,k,J,_,Z9,t5.sF _ _ oc,qq _ _ _ _ (by decide +kernel),k,kd,J,_,_,_,kvs,jD kvs,Z9,t5.sF _ _ oc,t5.sF _ _ Ke.dk,keys,mW,fun l7 lq md _ _=>{.inl {Z9,_,SqL.of ag},l7,_,Z9,Z9,ag,?_}};have t6:=t5.same (qe (aD md (.lst (lq.map V.int))) md (.lst []));revert t6;generalize upd (upd (upd G nw (.lst [])) l7 (.lst (lq.map V.int))) l7 (.lst [])=G7;intro t6;clear t5 t md;refine cb {_,Z9,b2,CB,Y,_,_,Z9,t6.qb,Z.cl,Z.nS,Nv _ _ _,nr,Z9,{_,SqL.of t6.qs},iI (xs:=my.map V.ref) (fun _ σ G=>(∃u7 u8 u9 O:Option V,σ=[Z8 (.ref k),Z8 (.ref m0),Z8 (.ref sg),Z8 (.int ev),Z8 (.int M),Z8 (.ref b1),Z8 (.ref b2),u7,u8,u9,O])/\Tol CB CS FF b2 Y nw nr ld [] my G) {{_,_,_,_,Z9},t6} ?_ ?_ ?_}
 ·rintro _ _ G _ ⟨_,t⟩;exact SqL.of t.qs
 ·rintro i x _ G hx ⟨⟨u7,u8,u9,O,rfl⟩,t⟩;rw[cm]at hx;obtain⟨a,ha,rfl⟩:=fh.mp hx;have hm:=bD ha;obtain⟨kn,bd,qd,d,e,g,⟨f1,ks,h1⟩,_⟩:=t.st a hm;refine bL ?_;dsimp only;refine cb {_,Z9,a,CS,kn,_,_,Z9,g,TM.clS,TM.nB,Z9,.inr (.inr (.inl {Z9,.inl {_,h1}})),bd,ks,Z9,Z9,h1,?_};have t1:=t.dcl f1 h1;obtain⟨ky,hM,lc,d2,hX,g',_,f2,jl,h2⟩:=t1.st a hm;exact{_,Z9,a,CS,ky,_,_,Z9,g',TM.clS,TM.nQ,Z9,.inr (.inr (.inl {Z9,.inl {_,h2}})),lc,jl,Z9,Z9,h2,{_,_,_,_,Z9},t1.dcl f2 h2}
 clear t6;rintro _ G ⟨⟨ht,hO,hC,hQ,rfl⟩,t⟩;dsimp only
 -- gone on from
 have ln:aT (Wp k H) FF:=(y7 sH).trans sW;have RF:=R0.same ln;refine cb {_,Z9,k,J,_,Z9,t.sF _ _ oc,qq _ _ _ _ (by decide +kernel),k,kd,J,_,_,_,kvs,jD kvs,Z9,t.sF _ _ oc,t.sF _ _ Ke.dk,keys,mW,fun l8 nP mf jp hS=>{3,Z9,_,Z9,l8,_,Z9,SqL.of ag,fun l9 mt=>?_}};have hz:∀x∈lI (nP.map V.int) (Z8 (-3)) Z7,∃n,x=.int n/\n∈jD kvs:=fun x hx=>by
  obtain⟨n,hn,rfl⟩:=cq.mp (Io hx);exact{n,Z9,jp.mem_iff.mp hn}
 have mL:=t.sF.trans ((aD mf (.lst (nP.map V.int))).trans (aD mt (.lst (lI (nP.map V.int) (Z8 (-3)) Z7))));have q9:=jC mt (.lst (lI (nP.map V.int) (Z8 (-3)) Z7));revert mL q9 hz;generalize upd (upd G l8 (.lst (nP.map V.int))) l9 (.lst (lI (nP.map V.int) (Z8 (-3)) Z7))=G9;generalize lI (nP.map V.int) (Z8 (-3)) Z7=zs;intro hz mL q9;refine{l9,Z9,{_,SqL.of q9},iI (xs:=zs) (fun _ σ G=>(∃u7 u8 u9 O:Option V,σ=[Z8 (.ref k),Z8 (.ref m0),Z8 (.ref sg),Z8 (.int ev),Z8 (.int M),Z8 (.ref b1),Z8 (.ref b2),u7,u8,u9,O])/\aT G9 G) {{_,_,_,_,Z9},aT.refl _} ?_ ?_ ?_}
 ·rintro _ _ G _ ⟨_,s⟩;exact SqL.of (s _ _ q9)
 ·clear t mf mt;rintro i x _ G hx ⟨⟨u7,u8,u9,O,rfl⟩,sG⟩;obtain⟨n,rfl,nK⟩:=hz x (bD hx);have hR:=n3 n (n1.mem_iff.mpr nK);obtain⟨nn,en,hn⟩:∃nn:Nat,n=nn/\nn<=900:=by
   have nK:=nK;unfold jD at nK;obtain⟨x,hx,e⟩:=cq.mp nK;obtain⟨nn,c,r',rfl,_⟩:=Ke.kk.at_ x hx;have e:(nn:Int)=n:=e;exact{nn,e.symm,by omega}
  subst en;refine bL ?_;dsimp only;have U:=mL.trans sG;have Rg:=RF.same U;obtain⟨mx,kq,js⟩:=Rg.sg;refine cb (dy {_,Z9,_,Z9,sg,mx,Z9,.inl (SqL.of kq),fun la kz=>?_});have ua:=aD kz (.lst mx);refine{_,Z9,_,_,Z9,Z9,?_};refine wB ?_;refine{Ms,m0,la,mx,es,(nn:Int)+4,Z9,Rg.mo.same ua,Rg.lm,ag,Paired.mono (fun _ _ z=>z.same ua) js,Rg.le,Rg.ev,by omega,fun Gp b3 i3 e3 sp kB bk=>bL ?_};dsimp only;obtain⟨mr,ke,hD,mm,nl,hA,j1,j2,j3,j4,_⟩:=bk.ex;have mb:=ua.trans sp;have K5:=Ke.same (U.trans mb);refine iA {_,Z9,k,J,_,Z9,(U.trans mb) _ _ oc,qq _ _ _ _ (by decide +kernel),_,Z9,Ms,es,k,m,sl,kd,ev,nn,4,kvs,Z9,K5,by omega,(fun z=>absurd nK z),fun Gy t5 hN hH hG n5 j5 r5 e5 _ hI lv kI lf kv ki hv iF ii=>?_};obtain rfl:n5=nn:=by omega
  obtain⟨St,dr⟩:=lv.on kI (by decide);obtain⟨rfl,rfl⟩:=kB.same St;have l3:=aV j3;have ll:n5<=nl.length:=by
   rw[l3,oH];show n5<=((itR Ms (gy Ms es) n5).2++_).length;rw[ay,lv.l n5 (aB _)];omega
  have p3:=LO n5 j3;rw[dr]at p3;have mG:=(cG (ex:={[],upd G la (.lst mx)}) (G:=Gp)).trans lf;refine{_,Z9,b3,CB,mr,_,_,Z9,mG _ _ j1,Z.cl,Z.nR,Bp _ _ _,_,Z9,_,Z9,ke,nl,Z9,SqL.of (mG _ _ j2),fun l4 ls=>?_};rw[EJ ll];have s4:=aD ls (.lst (nl.drop n5));refine{_,Z9,b3,CB,mr,_,_,Z9,s4 _ _ (mG _ _ j1),Z.cl,Z.nE,Nu _ _ _,lt2,fun t4 lx=>?_};have s5:=aD lx (.tup [.ref l4,mm]);have q4:=s5 _ _ (jC ls (.lst (nl.drop n5)));have q5:=jC lx (.tup [.ref l4,mm]);have sq:=s4.trans s5;revert q4 q5 sq;generalize upd (upd Gy l4 (.lst (nl.drop n5))) t4 (.tup [.ref l4,mm])=Gq;intro q4 q5 sq;have lh:=mG.trans sq;refine{6,by decide,EK (sq _ _ kv) q5 (sq _ _ ki) q4 (Paired.mono (fun _ _ z=>z.same sq) iF) (Paired.mono (fun _ _ z=>z.same lh) p3) (ii.same sq) (j4.same lh),_,Z9,gf ?_};exact{{_,_,_,_,Z9},sG.trans (mb.trans (lf.trans sq))}
 clear t mf mt;rintro _ G ⟨⟨u7,u8,u9,O,rfl⟩,sG⟩;dsimp only;have U:=mL.trans sG;refine fH {_,Z9,k,J,_,Z9,U _ _ oc,qq _ _ _ _ (by decide +kernel),k,kd,J,_,_,_,kvs,jD kvs,Z9,U _ _ oc,U _ _ Ke.dk,keys,mW,fun l5 mF mS ma nb=>?_};have s5:=aD mS (.lst (mF.map V.int));have e5:=sorted_ints nb n2 (ma.trans n1.symm);refine{_,Z9,b1,CB,nT,_,_,Z9,s5 _ _ (U _ _ (sD _ _ g1)),Z.cl,Z.nR,Bp _ _ _,lM,W,Z9,.inl (SqL.of (s5 _ _ (U _ _ (sD _ _ g2)))),_,_,Z9,Z9,_,Z9,0,(W.length:Int)+1,ev,_,Z9,e1,by omega,lk,sz,by omega,fun l6 nD=>{1,by decide,nG (n:=0) (aD nD _ _ _ ag) (by rw[ag,Dk,e5,lr]),?_}};have lg:aT (Hid {[],G1} FF) (Hid {[],H} FF):=fun a o e=>by
  have nh:a∉({[],H}:Ex):=fun z=>dN e (z.elim (fun y=>absurd y aI) fun⟨o',y,n⟩=>.inr {o',sH _ _ y,n});rw[cW nh];exact cG _ _ e
 exact q _ FF kd kvs ln ((U.trans s5).trans (aD nD _)) Ke (lg _ _ im) (kt.same lg)
end
noncomputable def Vw(l:List aa)(G:Hp):Hp:=Hid {l,fun _=>Z7} G
section
variable{l:List aa}{G H:Hp}{a k:aa}{o:HO}
theorem N6(h:a∈({l,fun _=>Z7}:Ex)):a∈l:=h.elim id fun⟨_,e,_⟩=>by cases e
theorem r9(n:a∉l)(h:G a=Z8 o):Vw l G a=Z8 o:=by
 unfold Vw;rw[cW fun z=>n (N6 z)];exact h
theorem sj(h:Vw l G a=Z8 o):a∉l/\G a=Z8 o:={fun z=>dN h (.inl z),cG _ _ h}
theorem vw_le:aT (Vw l G) G:=fun _ _ e=>(sj e).2
theorem y8(s:aT H G):aT (Vw l H) (Vw l G):=fun _ _ e=>r9 (sj e).1 (s _ _ (sj e).2)
theorem BE(b:But k H G)(m:k∈l):aT (Vw l H) (Vw l G):=fun _ _ e=>r9 (sj e).1 (b _ _ (sj e).2 fun z=>(sj e).1 (by rw[z];exact m))
theorem LQ(m:k∈l):aT (Vw l G) (Wp k G):=fun _ _ e=>iE (sj e).2 fun z=>(sj e).1 (by rw[z];exact m)
end
theorem N7{G G':Hp}{p:aa}(Z:dO G p):aT (Hid {[],G} G') (Wp p G'):=fun a o e=>by
 refine iE (cG _ _ e) fun z=>?_;subst z;obtain⟨x,y,h⟩:=Z;exact dN e (.inr {_,h,fun xs z=>by cases z})
theorem Kz{CK CC CM CS:aa}{Ms:List MD}{es:List Ev}{m U k dx:aa}{ev:Int}{H:Hp}{R:VK}{E:XK}(M:MoT CM Ms H m)(Rr:Rn CM Ms es H m U)(e1:1<=ev)(D:ev<=100)(hk:H k=Z7)(J:H dx=Z7)
  (q:∀(G:Hp) (W Z V co:aa),aT H G->G k=Z8 (.ins CK dx (jH (.ref W) (.ref Z) (.int ev) (.ref V)))->Rn CM Ms es (Hid {[k],H} G) W Z->Hid {[k],H} G V=Z8 (.dK [(Sum.inl 0,.ref co)])->Kpt CC CS W Ms es (Hid {[k],H} G) [(Sum.inl 0,.ref co)]->R .non G):NY CK CC CM CS [.ref k,.ref m,.ref U,.int ev] (upd (upd H dx (.own k)) k (.ins CK dx [])) R E:=by
 have Y:aT H (upd (upd H dx (.own k)) k (.ins CK dx [])):=fun b o e=>by
  rw[aJ (av e hk),aJ (av e J)];exact e
 have nk:(upd (upd H dx (.own k)) k (.ins CK dx [])) k=Z8 (.ins CK dx []):=ag;revert Y nk;generalize upd (upd H dx (.own k)) k (.ins CK dx [])=H6;intro Y nk;refine{Ms,es,k,dx,m,U,ev,Z9,nk,M.same Y,Rr.same Y,e1,D,fun G W Z V co b O R7 t g=>?_};have I:aT (Hid {[],H6} G) (Hid {[k],H} G):=fun a o e=>by
  rw[cW fun z=>?_]
  ·exact cG _ _ e
  ·rcases z with z|⟨o',z,y⟩
   ·exact dN e (.inr {_,by rw[aE.mp z];exact nk,fun xs w=>by cases w})
   ·exact dN e (.inr {o',Y _ _ z,y})
 exact q G W Z V co (fun a o e=>b _ _ (Y _ _ e) (av e hk)) O (R7.same I) (I _ _ t) (g.same I)
def fV(Z:Int)(v:V):Bool:=match v with
 |.int n=>decide (Z<=n)
 |_=>false
section
variable{P:aL}{w:bA}{K:af}{mg:Str->Option ae}{base:cu}{f fP fD fMs fSs fMI fKi fGd fKm fKt CK CC CM CS CB:aa}{fd fdP fdD fdMs fdSs fdMI fdKi fdGd fdKm fdKt:bS}
seal PS PSs PE PA PT PW PI PG PGs PC
abbrev nL:List Str:=["_law_script","_law_purse_here","_law_machines_here","_law_signs_here","_law_model","_law_every","_law_handed","_law_keeper","_law_k","_law_number","_law_due"]
abbrev pL:List Str:=["_law_script"]
theorem scL:bK nL pL (aN B5):={}
theorem ndL:((["_law_mark"]:List Str)++nL).Nodup:=by decide +kernel
inductive Iq(K:af)(vs:List V)(H:Hp)(Q:VK)(_e:XK):Prop where
 |mk(a:aa)(ns:List Int)(_:vs=[.ref a])(_:SqL K H a (ns.map V.int))(_:ns.length<=63)(_:(∀x∈ns,eX x<=1048576))(_:∀H',Q (.bl true) H'):Iq K vs H Q _e
def Dl(K:af):Sp:=fun vs H Q Z=>Iq K vs H Q Z
theorem N8(D:Df K mg "law" B5 pL f fd)(DP:Df K mg "_law_purse" lW ["_law_script"] fP fdP)(GP:bh P w K mg base CX0 2 fP fdP ["_law_script"] (CV K))(DD:Df K mg "_law_draw" eE pD fD fdD)(li:Df K mg "_law_machines" hW pMs fMs fdMs)(hM:bh P w K mg base CX0 14 fMs fdMs pMs spMs)(lz:Df K mg "_law_signs" kf pSs fSs fdSs)(hN:bh P w K mg base CX0 4 fSs fdSs pSs spSs)
  (hH:Mk K CM fMI) (hD:bh P w K mg base CX0 31 fMI fdMI ["self","machines"] (MY CM 29)) (hE:Binds K fdMI ["self","machines"] [])
  (ih:Mk K CK fKi) (hT:bh P w K mg base CX0 33 fKi fdKi pKi (NY CK CC CM CS)) (hI:Binds K fdKi pKi []) (J:Mt K CK "marks" "Keeper.marks" hV pKm fKm fdKm) (MS:mg "sorted"=Z7) (lv:Mt K CK "cut" "Keeper.cut" jx pKt fKt fdKt) (mS:Df K mg "_law_good" oA pGd fGd fdGd) (ki:bh P w K mg base CX0 41 fGd fdGd pGd (spGd CK CC CM CS)) (TM:MdT K mg CM CS) (TK:KeT K mg CK) (B:Bl mg):bh P w K mg base CX0 42 f fd pL (Dl K):=by
 have GD:bh P w K mg base CX0 1 fD fdD pD jR:=jZ DD;have kz:bh P w K mg base CX0 1 fKm fdKm pKm (NW CK):=LF J.F TK MS;have hF:bh P w K mg base CX0 1 fKt fdKt pKt (spKt CK CC CS):=ok_kt lv.F TK;refine D.F.ok scL (fun vs H Q E h=>?_) (fun gq A outer s H vs Q E hr h=>?_)
 ·obtain⟨a,ns,rfl,_⟩:=h;rfl
 obtain⟨sa,ns,rfl,hy,hK,hO,fin⟩:=h;have jp:=FP hr;have r1:cZ 1 _:=hr.mono (by decide);have r2:cZ 2 _:=hr.mono (by decide);have r4:cZ 4 _:=hr.mono (by decide);have hB:cZ 14 _:=hr.mono (by decide);have ht:cZ 32 _:=hr.mono (by decide);have hA:cZ 34 _:=hr.mono (by decide);have js:cZ 41 _:=hr;refine⟨_,ai (bM (i:=1) scL.nd rfl (Or.inl rfl) (aM GP r2 (by rfl) DP.m DP.F.kp DP.b .nil aY (bN (pv 0) aj)))
  (ai (bM (i:=2) scL.nd rfl (Or.inl rfl) (aM hM hB (by rfl) li.m li.F.kp li.b .nil aY (bN (pv 1) aj)))
  (ai (bM (i:=3) scL.nd rfl (Or.inl rfl) (aM hN r4 (by rfl) lz.m lz.F.kp lz.b .nil aY (bN (pv 1) (iY (cT (fj K (by rfl)) (by rfl) B.len cy (bN (pv 2) aj)) aj))))
  (ai (bM (i:=4) scL.nd rfl (Or.inl rfl) (jT hH hD ht (by rfl) TM.mM hE .nil aY (bN (pv 2) aj)))
  (ai (bM (i:=5) scL.nd rfl (Or.inl rfl) (bX dQ (eR (qH (cQ gQ aw (aM GD r1 (by rfl) DD.m DD.F.kp DD.b .nil aY (bN (pv 1) (dA aw aj)))) (dA aw aj))) (fg kN (by rfl) B.int boot_int (ak (nV eW (aM GD r1 (by rfl) DD.m DD.F.kp DD.b .nil aY (bN (pv 1) (dA aw aj))) aw (bV _)) aj)) (fun _ _=>rfl)))
  (ai (bM (i:=6) scL.nd rfl (Or.inl rfl) (fg (qf K (by rfl)) (by rfl) B.list boot_list (bN (pv 3) aj)))
  (ai (bM (i:=7) scL.nd rfl (Or.inl rfl) (jT ih hT hA (by rfl) TK.m hI .nil aY (bN (pv 4) (bN (pv 6) (bN (pv 5) aj)))))
  (ai (dU (pF bE hZ ia mU (pv 6)))
  (ai (cN (bP (tw jp) (gB (pv 7) TK.cl J.m kz r1 J.b .nil aY) (eR (dA aw aj)) (bV _)) (aA (bJ lO)) bZ)
  (ai (iH cF rfl (ji (by rfl) B.range (dA aw aj)) (df (i:=8) scL.nd rfl (Or.inl rfl)) (ai (cN (AB (sL (aM ki js (by rfl) mS.m mS.F.kp mS.b .nil aY (bN (pv 7) (bN (pv 4) (bN (pv 3) (bN (pv 5) (iY (aM GD r1 (by rfl) DD.m DD.F.kp DD.b .nil aY (bN (pv 1) (dA aw aj))) aj)))))))) (aA (bJ lO)) bZ)
  (ai (bM (i:=9) scL.nd rfl (Or.inr rfl) (aM GD r1 (by rfl) DD.m DD.F.kp DD.b .nil aY (bN (pv 1) (dA aw aj))))
  (ai (yw (i:=10) ["_law_mark"] (iC.open (NN:=nL) (N:=nL) (sc:=aN B5) rfl rfl (by decide +kernel) rfl (by decide +kernel) (by decide +kernel) rfl (by decide +kernel)) rfl scL.nd rfl (Or.inl rfl) (g9 (gB (pv 7) TK.cl J.m kz r1 J.b .nil aY)) (fun _ _ _ _=>df (i:=0) ndL rfl (Or.inl rfl)) (fun _ _ _ _=>Jh (bP Fi (pv 0) (pv 10) (bV _))) (fun _ _ _ _=>pv 0))
  (ai (dU (fZ (pv 7) TK.cl lv.m hF r1 lv.b .nil aY (bN (pv 9) aj)))
  (aA (cN (bP (tw jp) (gB (pv 7) TK.cl J.m kz r1 J.b .nil aY) (pv 10) (bV _)) (aA (bJ lO)) bZ)))))))
  (aA (bJ (aM ki js (by rfl) mS.m mS.F.kp mS.b .nil aY (bN (pv 7) (bN (pv 4) (bN (pv 3) (bN (pv 5) (dA aw aj))))))))))))))))),?_⟩
 have big:=dZ
 -- the purse, the machines, the signs
 refine cb (dy {_,Z9,sa,ns,Z9,hy,hK,hO,fun p H1 np ix s1=>bL ?_});dsimp only;refine cb (dy {_,Z9,p,Z9,ix,fun ml xs Ms H2 lk lc m0 m6 kh kG b2=>bL ?_});dsimp only;have lx:=aV lc;refine cb (dy {_,Z9,_,Z9,ml,_,Z9,.inl (SqL.of lk),p,Ms.length,(by show [V.ref p,V.int (xs.length:Int)]=_;rw[lx]),kG,m0,by omega,fun ol hp es H3 iv ke hc hC hh mv b3=>bL ?_});dsimp only;have W:=b3 _ _ lk kh;have ma:=Paired.mono (fun v M z=>MIn.but ix kG b3 z) lc;clear lc lk b2 kG b3 s1
 -- the aX
 refine cb (dy (tM {_,Z9,fun m Z hm my im=>?_}));have sA:aT H3 (upd (upd H3 Z (.own m)) m (.ins CM Z [])):=fun b o e=>by
  rw[aJ (av e hm),aJ (av e my)];exact e
 have I:aH (MIn Ms.length H1 (upd (upd H3 Z (.own m)) m (.ins CM Z []))) xs Ms:=Paired.mono (fun v M z=>by
  obtain⟨t,e,y⟩:=z;exact{t,e,y.same sA}) ma
 refine{m,Z,.ref ml,Z9,ag,C7 (sA _ _ W) I (by omega),fun v' G5 s5 al=>{Z9,bL ?_}};obtain⟨mm,rfl,jl⟩:=Kc (sA _ _ W) I al;have kn:=Alike.tree (C7 (sA _ _ W) I (by omega)) al;have mx:aT H3 (upd G5 m (.ins CM Z (cE "machines" (.ref mm) []))):=qe (sA.trans s5) hm _;dsimp only;have pn:H3 p≠Z7:=fun z=>by
  obtain⟨x,y,e⟩:=mv;rw[z]at e
  cases e
 have M5:=(mo_h hm im pn jl kn (But.refl p _)).same (N7 mv);have mn:=mv.same mx;have R5:Rn CM Ms es (Wp p (upd G5 m (.ins CM Z (cE "machines" (.ref mm) [])))) m ol:=⟨M5.at,by omega,⟨hp,iE (mx _ _ iv) hh,Paired.mono (fun v e z=>by
  obtain⟨t',e',h⟩:=z.same mx;refine{t',e',iE h fun z=>?_};obtain⟨x,y,h2⟩:=mn;rw[z,h2]at h
  cases h) ke⟩,by omega,hC⟩
 have mc:Wp p (upd G5 m (.ins CM Z (cE "machines" (.ref mm) []))) ml=Z8 (.lst xs):=iE (mx _ _ W) kh;clear jl kn al s5 I sA hm my im ma W mx iv ke pn mv;revert M5 mn R5 mc;generalize upd G5 m (.ins CM Z (cE "machines" (.ref mm) []))=G5';intro M5 mn R5 mc;have hz:=R5;obtain⟨hf,he,ii⟩:=hz.sg;have go:=aV ii
 -- every
 refine cb (dy {_,Z9,p,9,Z9,mn,by decide,by decide,fun x G6 x0 x9 ll b6=>{_,_,Z9,Z9,lt2,fun l0 md=>{_,Z9,p,6,Z9,ll.same (aD md _),by decide,by decide,fun r G7 r0 r6 lf b7=>{Z9,.inr {_,Z9,l0,_,_,_,Z9,Z9,SqL.of (b7 _ _ ag (rg ll md)),tT,bL ?_}}}}});obtain⟨ev,em,ly,lg⟩:∃m:Int,(if decide (V.int r=V.int 5)=true then V.int 50 else V.int (1+x))=.int m/\1<=m/\m<=100:=by
  by_cases c:V.int r=V.int 5
  ·rw[decide_eq_true c];exact{50,Z9,by decide,by decide}
  ·rw[decide_eq_false c];exact{1+x,Z9,by omega,by omega}
 rw[em];dsimp only;have lr:aT (Wp p G5') (Wp p G7):=(b6.wp.trans (y7 (aD md _))).trans b7.wp;have M7:=M5.same lr;have R7:=R5.same lr;clear lr b6 b7 md ll
 -- what is handed in
 obtain⟨Y,lM,mb⟩:=id R7.sg;refine cb (dy {_,Z9,ol,Y,Z9,.inl (SqL.of (uo lM).2),fun lh mD=>bL ?_});dsimp only;have sh:=aD mD (.lst Y);have U:=jC mD (.lst Y);have mW:=lf.same sh;revert sh U mW;generalize upd G7 lh (.lst Y)=G8;intro sh U mW;have M8:MoT CM Ms G8 m:=(M7.same (vi _ _)).same sh;have R8:Rn CM Ms es G8 m lh:={M8.at,R7.lm,{Y,U,Paired.mono (fun _ _ z=>(z.same (vi _ _)).same sh) mb},R7.le,R7.ev}
 -- the keeper
 refine cb (dy {_,Z9,_,Z9,_,Z9,fun k ky hk my _=>?_});refine Kz M8 R8 ly lg hk my fun G9 m' kB kd co s9 qk Rk dk kk=>{Z9,bL ?_};dsimp only;refine cb {_,Z9,.inl {Z9,_,SqL.of (s9 _ _ U)},lh,_,Z9,Z9,s9 _ _ U,?_};have pk:p≠k:=fun z=>by
  obtain⟨x,y,e⟩:=mW;rw[z,hk]at e
  cases e
 have il:lh≠k:=av U hk;have ka:lh≠p:=rg lf mD;have sV:aT (Hid {[k],G8} G9) (Vw [p,k] (upd G9 lh (.lst []))):=fun a o e=>by
  have ea:=cG _ _ e;have n1:a≠lh:=fun z=>dN e (z ▸ (.inr {_,U,fun xs w=>by cases w}:lh∈({[k],G8}:Ex)));refine r9 (fun z=>?_) (aP ea n1);obtain⟨x,y,ep⟩:=mW
  rcases ar.mp z with z|z
  ·exact dN e (z ▸ (.inr {_,ep,fun xs w=>by cases w}:p∈({[k],G8}:Ex)))
  ·exact dN e (.inl z)
 have sO:aT (Wp p G7) (Vw [p,k] (upd G9 lh (.lst []))):=fun a o e=>by
  obtain⟨n,e⟩:=uo e;refine r9 (fun z=>?_) (aP (s9 _ _ (sh _ _ e)) (av e mD))
  rcases ar.mp z with z|z
  ·exact n z
  ·exact av (sh _ _ e) hk (aE.mp z)
 have mq:=Rk.same sV;have mf:=R7.same sO;have mu:=vw_le _ _ (sV _ _ dk);have na:upd G9 lh (.lst []) k=_:=aP qk il.symm;have mr:dO (upd G9 lh (.lst [])) p:=by
  obtain⟨x,y,e⟩:=mW;exact{x,y,aP (s9 _ _ e) ka.symm}
 revert mq mf mu na mr;generalize upd G9 lh (.lst [])=G10;intro mq mf mu na mr;clear sV sO Rk dk qk s9 U M8 R8 mW sh mD lf M7 R7 lM mb kk hk my il ka;dsimp only;refine cb (iA {_,Z9,k,ky,_,Z9,na,qq _ _ _ _ (by decide +kernel),k,kd,ky,_,_,_,[(Sum.inl 0,.ref co)],[0],Z9,na,mu,Z9,by decide,fun l1 lj ku hG hd=>{by show 1<=aC;omega,fun l2 kI=>?_}});have e1:=List.perm_singleton.mp hG;refine{1,by decide,nG (n:=0) (ns:=lj) (aD kI _ _ _ ag) (by rw[ag,e1];rfl),_,Z9,gf ?_};dsimp only[lP];have mG:=(aD ku (.lst (lj.map V.int))).trans (aD kI (.lst [.int 0]));revert mG;generalize upd (upd G10 l1 (.lst (lj.map V.int))) l2 (.lst [.int 0])=G11;intro mG;refine cb {2,Z9,by decide,by decide,?_};refine qv (n:=2) (fun _ σ G=>(∃u8 u9 lb:Option V,σ=[Z8 (.ref sa),Z8 (.ref p),Z8 (.ref ml),Z8 (.ref ol),Z8 (.ref m),Z8 (.int ev),Z8 (.ref lh),Z8 (.ref k),u8,u9,lb])/\dO G p/\(∃dx v,G k=Z8 (.ins CK dx (jH (.ref m') (.ref kB) (.int ev) v)))/\aT (Vw [p,k] G10) (Vw [p,k] G)) {{_,_,_,Z9},mr.same mG,{_,_,mG _ _ na},y8 mG} ?_ ?_
 ·clear na mu mr mG ku kI;rintro _ _ G _ ⟨⟨u8,u9,lb,rfl⟩,pu,⟨dx,v,qk⟩,sv⟩;refine bL ?_;dsimp only;refine cb (iA {_,Z9,_,Z9,_,Z9,_,Z9,_,Z9,p,30,Z9,pu,by decide,by decide,fun mt Ga hS gt lw ba=>?_});have ls:=sv.trans (BE ba (by simp:p∈[p,k]));have mL:=ls.trans (LQ (by simp:k∈[p,k]));refine wB ?_;refine{Ms,es,k,dx,m',kB,m,ol,v,ev,mt,Z9,ba _ _ qk pk.symm,mq.same mL,mf.same mL,ly,lg,hS,by omega,fun Gg FF mo kvs sW sF Ke io kq=>{_,Z9,gf ?_}};dsimp only[lP];obtain⟨O,kb⟩:=Ke.ob;have kr:dO Gg p:=by
   obtain⟨x,y,e⟩:=lw;exact{x,y,sF _ _ (sW _ _ (iE e pk))}
  have iF:aT (Vw [p,k] G10) (Vw [p,k] Gg):=fun a o e=>by
   obtain⟨n,e'⟩:=sj (ls _ _ e);exact r9 n (sF _ _ (sW _ _ (iE e' fun z=>n (by rw[z];simp))))
  have hj:mo≠p:=fun z=>by
   obtain⟨x,y,e⟩:=lw;exact dN io (z ▸ (.inr {_,e,fun xs w=>by cases w}:p∈({[],Ga}:Ex)))
  have hQ:mo≠k:=fun z=>dN io (z ▸ (.inr {_,ba _ _ qk pk.symm,fun xs w=>by cases w}:k∈({[],Ga}:Ex)));have kw:=sF _ _ kb;have kl:=sF _ _ Ke.dk;have keys:=Ke.kk.keys;have hP:(jD kvs).length<64:=by
   unfold jD;rw[aq];have:=Ke.kk.few;omega
  have gr:=Ke.kk.few;clear Ke kb sF sW mL ls ba lw qk;refine cb (dy {_,Z9,p,30,Z9,kr,by decide,by decide,fun nu Gn hb gM hv bn=>bL ?_});dsimp only;have hu:=iF.trans (BE bn (by simp:p∈[p,k]));have mz:=bn _ _ kw pk.symm;have kv:=bn _ _ kl hj;clear iF bn kw kl kr;refine cb (dy (wL (fun a xs H1=>∃ns:List Int,xs=ns.map V.int/\ns.Perm (jD kvs)/\ns.Pairwise (·<=·)/\H1 a=Z8 (.lst xs)/\aT Gn H1) (fun R hR=>{_,Z9,k,O,_,Z9,mz,qq _ _ _ _ (by decide +kernel),k,mo,O,_,_,_,kvs,jD kvs,Z9,mz,kv,keys,hP,fun l ns hl pm g=>hR _ _ _ {ns,Z9,pm,g,ag,aD hl _}}) ?_ (fun a xs H1 i ys G=>G=H1/\ys=(xs.take i).filter (fV nu)) ?_ ?_ ?_ ?_))
  ·rintro a xs H1 ⟨ns,rfl,pm,g,ha,s1⟩;exact SqL.of ha
  ·rintro a xs H1 _;exact⟨Z9,Z9⟩
  ·rintro a xs H1 ⟨ns,rfl,pm,g,ha,s1⟩ i ys G hi ⟨rfl,rfl⟩;refine{SqL.of ha,?_};have h1:=km (fV nu) ((ns.map V.int).take i);have h2:=pm.length_eq;rw[cK,aq]at h1;omega
  ·rintro a xs H1 ⟨ns,rfl,pm,g,ha,s1⟩ i x ys G hx ⟨rfl,rfl⟩;have tk:(ns.map V.int).take (i+1)=(ns.map V.int).take i++[x]:=by
    rw[d9,hx];rfl
   rw[cm]at hx;obtain⟨n,hn,rfl⟩:=fh.mp hx;refine bL {Z9,_,Z9,_,Z9,_,_,Z9,Z9,_,Z9,?_};rw[tk,me]
   by_cases c:nu<=n
   ·rw[decide_eq_true c,ie (show fV nu (.int n)=true from decide_eq_true c)];exact ja {_,Z9,Z9,Z9}
   ·rw[decide_eq_false c,ig (show ¬fV nu (.int n)=true from fun z=>c (of_decide_eq_true z))];exact gf {Z9,by rw[Kr,cB]}
  rintro a xs H1 ⟨ns,rfl,pm,g,ha,s1⟩ ys G ⟨rfl,rfl⟩ ld la;rw[dS,show (ns.map V.int).filter (fV nu)=(ns.filter fun n=>decide (nu<=n)).map V.int by rw[List.filter_map];rfl];refine bL ?_;dsimp only;have s2:=s1.trans (aD la (.lst ((ns.filter fun n=>decide (nu<=n)).map V.int)));have lq:=jC la (.lst ((ns.filter fun n=>decide (nu<=n)).map V.int));have hY:ld≠k:=(av (s1 _ _ mz) la).symm;revert s2 lq;generalize upd G ld (.lst ((ns.filter fun n=>decide (nu<=n)).map V.int))=G12;intro s2 lq;refine cb {_,Z9,k,O,_,Z9,s2 _ _ mz,qq _ _ _ _ (by decide +kernel),_,Z9,?_};refine wB ?_;refine{_,Ms,es,m',k,mo,O,_,_,_,nu,kvs,Z9,s2 _ _ mz,iE (s2 _ _ kv) hQ,kq,fun Gc ho mF bc ln hg gw ek kp=>?_};dsimp only;have kt:(jD mF).length<64:=by
   unfold jD;rw[aq];have:=kp.few;omega
  refine iA {_,Z9,k,O,_,Z9,ln,qq _ _ _ _ (by decide +kernel),k,ho,O,_,_,_,mF,jD mF,Z9,ln,hg,kp.keys,kt,fun l3 lp hL hX kc=>?_};have s3:=aD hL (.lst (lp.map V.int));have e3:lp=ns.filter fun n=>decide (nu<=n):=sorted_ints kc (g.filter _) (hX.trans (by
   rw[ek,Im fun q hq=>by
    obtain⟨n,c,r',e,_⟩:=kq.at_ q hq;exact⟨n,c,e⟩]
   exact (pm.filter _).symm))
  refine{_,Z9,1,by decide,nG (n:=0) (ns:=lp) ag (by rw[s3 _ _ (bc _ _ lq hY),e3]),_,Z9,gf ?_};refine{{_,_,_,Z9},?_,{O,_,s3 _ _ ln},((hu.trans (y8 s2)).trans (BE bc (by simp:k∈[p,k]))).trans (y8 s3)};obtain⟨x,y,e⟩:=hv;exact{x,y,s3 _ _ (bc _ _ (s2 _ _ e) pk)}
 ·rintro _ G ⟨⟨u8,u9,lb,rfl⟩,pu,⟨dx,v,qk⟩,sv⟩;dsimp only;have mL:=sv.trans (LQ (by simp:k∈[p,k]));exact fH {_,Z9,_,Z9,_,Z9,_,Z9,Ms,es,k,dx,m',kB,m,ol,v,ev,7,Z9,qk,mq.same mL,mf.same mL,ly,lg,by decide,by decide,fun _ _ _ _ _ _ _ _ _=>fin _}
end
def oJ(CN CG Z W Y V:aa):Flt->aa
 |.nought=>CN
 |.great=>CG
 |.full=>Z
 |.dry=>W
 |.span=>Y
 |.late=>V
end My
namespace My
theorem vm{P:Flt->Prop}(a:P .nought)(b:P .great)(c:P .full)(d:P .dry)(e:P .span)(f:P .late):∀x,P x
 |.nought=>a
 |.great=>b
 |.full=>c
 |.dry=>d
 |.span=>e
 |.late=>f
end My
namespace My
open PySem L2
theorem sy{Z:Type}{n:Nat}{us:List Z}(h:us.length=n+1):∃a l,us=a::l/\l.length=n:=by
 cases us with
 |nil=>cases h
 |cons a l=>exact{a,l,Z9,IC h}
theorem y9{Z:Type}{us:List Z}(h:us.length=1):∃a,us=[a]:=by
 obtain⟨a,l,rfl,h⟩:=sy h
 cases l with
 |nil=>exact⟨a,Z9⟩
 |cons b l=>cases h
theorem za{Z:Type}{us:List Z}(h:us.length=2):∃a b,us=[a,b]:=by
 obtain⟨x,l,rfl,h'⟩:=sy h;obtain⟨a1,rfl⟩:=y9 h';exact⟨x,a1,Z9⟩
theorem zb{Z:Type}{us:List Z}(h:us.length=3):∃a b c,us=[a,b,c]:=by
 obtain⟨x,l,rfl,h'⟩:=sy h;obtain⟨a1,Y,rfl⟩:=za h';exact⟨x,a1,Y,Z9⟩
theorem zc{Z:Type}{us:List Z}(h:us.length=4):∃a b c d,us=[a,b,c,d]:=by
 obtain⟨x,l,rfl,h'⟩:=sy h;obtain⟨a1,W,Y,rfl⟩:=zb h';exact⟨x,a1,W,Y,Z9⟩
theorem Do{V:Type}{us:List V}(h:us.length=5):∃a b c d e,us=[a,b,c,d,e]:=by
 obtain⟨x,l,rfl,h'⟩:=sy h;obtain⟨a1,W,Y,Z,rfl⟩:=zc h';exact⟨x,a1,W,Y,Z,Z9⟩
def Dn(K:af)(x:Str)(st:cU)(f:aa):Prop:=b9 K bj x=Z8 (Z8 (.ref f))/\∃fd,Fun K x x st f fd
def Mn(K:af)(C:aa)(x q:Str)(st:cU)(f:aa):Prop:=(aS K (.ref C) x=Z8 (Z8 (.ref f))/\nX K (.ref f)=true)/\∃fd,Fun K x q st f fd
structure Cn(K:af)(C:aa):Prop where
 c:Cls K C
 m:uu K C=true
 k:gz K (.ref C)=true
theorem dn_i{K:af}{x:Str}{st:cU}{f:aa}{V:ae}{od U:Option aa}{sl:Array (Option ae)}{kV W Y Z ct:ae}(a:b9 K bj x=Z8 (Z8 (.ref f)))(l:K.lookup f=Z8 {V,od,.func (e7 x x (kJ st) (jb st) (aN st) .none kV W Y U Z ct),sl})(c:jr K Z x=true)(k:gz K (.ref f)=true):Dn K x st f:={a,_,FB l c k}
theorem mn_i{K:af}{x q:Str}{st:cU}{f C:aa}{V:ae}{od U:Option aa}{sl:Array (Option ae)}{kV W Y Z ct:ae}(a:aS K (.ref C) x=Z8 (Z8 (.ref f)))(i:nX K (.ref f)=true)(l:K.lookup f=Z8 {V,od,.func (e7 x q (kJ st) (jb st) (aN st) .none kV W Y U Z ct),sl})(c:jr K Z q=true)(k:gz K (.ref f)=true):Mn K C x q st f:={⟨a,i⟩,_,FB l c k}
theorem dfx{K:af}{h:cu}{mg:Str->Option ae}{x:Str}{st:cU}{f:aa}(ps:List Str)(X:K.In h)(G:h.Ns bj mg)(a:Dn K x st f)(hb:∀(kV W V:ae) (U:Option aa) (Y ct:ae) (us:List ae),us.length=ps.length->AM (e7 x x (kJ st) (jb st) (aN st) .none kV W V U Y ct) {us,[]}=pure (ps.zip us):=by intro _ _ _ _ _ _ us Z;first|(obtain⟨a,rfl⟩:=y9 Z;rfl)|(obtain⟨a,b,rfl⟩:=za Z;rfl)|(obtain⟨a,b,c,rfl⟩:=zb Z;rfl)|(obtain⟨a,b,c,d,rfl⟩:=zc Z;rfl)|(obtain⟨a,b,c,d,e,rfl⟩:=Do Z;rfl)):∃fd,Df K mg x st ps f fd:=by
 obtain⟨a,fd,F⟩:=a;exact{fd,F,F.binds hb,dY X G a}
theorem mfx{K:af}{x q:Str}{st:cU}{f C:aa}(ps:List Str)(a:Mn K C x q st f)(hb:∀(kV W V:ae) (U:Option aa) (Y ct:ae) (us:List ae),us.length=ps.length->AM (e7 x q (kJ st) (jb st) (aN st) .none kV W V U Y ct) {us,[]}=pure (ps.zip us):=by intro _ _ _ _ _ _ us Z;first|(obtain⟨a,rfl⟩:=y9 Z;rfl)|(obtain⟨a,b,rfl⟩:=za Z;rfl)|(obtain⟨a,b,c,rfl⟩:=zb Z;rfl)|(obtain⟨a,b,c,d,rfl⟩:=zc Z;rfl)|(obtain⟨a,b,c,d,e,rfl⟩:=Do Z;rfl)):∃fd,Fun K x q st f fd/\Binds K fd ps []/\yj K C x f:=by
 obtain⟨⟨a,i⟩,fd,F⟩:=a;exact{fd,F,F.binds hb,a,i,F.kp}
theorem law_b{K:af}{x q:Str}{st:cU}{f:aa}{fd:bS}{y:Str}(F:Fun K x q st f fd)(hb:∀(kV Y W:ae) (V:Option aa) (Z ct v:ae),AM (e7 x q (kJ st) (jb st) (aN st) .none kV Y W V Z ct) {[v],[]}=pure [(y,v)])(s:ao)(v:ae):tY s fd {[v],[]} [(y,v)]:=by
 obtain⟨O,od,kV,Y,W,V,Z,ct,U,rfl,_⟩:=F.ex;exact .of_eq (hb kV Y W V Z ct v)
theorem all_mk{l:uy}{w:bA}{K:af}{h:cu}{mg:Str->Option ae}{fa f1 f2 f3 f4 f5 f6 f7 f8 f9 eL ey gr ei hc hH hE hv ed dg eA dj gt gg ef hz hD dp gh hu ho dk hh fz di ft hx hC em CM fe CS ec gd CD eh hy dt ea hb CB da CC dV eH eF hF CK ee ej ha du ht gw CN CG M U O V CF kc:aa}{mp g mo mt z mq:aa}(X:K.In h)(G:h.Ns bj mg)(hG:mg "law"=Z8 (.ref fa))
  (a1:Dn K "worth_of" kZ f1) (a2:Dn K "number_of_leaf" gx f2) (a3:Dn K "number_of_two" gL f3) (a4:Dn K "number_of_division" eu f4) (a5:Dn K "done" yB f5) (a6:Dn K "doing_of" oo f6) (a7:Dn K "deeds_by_sign" iw f7) (a8:Dn K "writes_of" lU f8) (a9:Dn K "do_deeds" iJ f9) (a10:Dn K "do_deed" mX eL) (a11:Dn K "do_push" mY ey) (a12:Dn K "do_pull" mZ gr) (a13:Dn K "do_draw" m5 ei) (a14:Dn K "do_send" m7 hc) (a15:Dn K "copied" mV hH) (a16:Dn K "first_state" jX hE) (a17:Dn K "place_in" oq hv) (a18:Dn K "put_in" rM ed) (a19:Dn K "pending_at_first" gC dg) (a20:Dn K "course_at_first" e9 eA) (a21:Dn K "run_on" m8 dj) (a22:Dn K "plain" vc gt) (a23:Dn K "_law_mixed" lV gg) (a24:Dn K "_law_purse" lW ef) (a25:Dn K "_law_draw" eE hz) (a26:Dn K "_law_worth" fK hD) (a27:Dn K "_law_formula" gT dp) (a28:Dn K "_law_deeds" jk gh) (a29:Dn K "_law_send" lu hu) (a30:Dn K "_law_deed" lA ho) (a31:Dn K "_law_name" oy dk) (a32:Dn K "_law_names" j9 hh) (a33:Dn K "_law_machines" hW fz) (a34:Dn K "_law_sign" oz di) (a35:Dn K "_law_signs" kf ft) (a36:Dn K "_law_states" jy hx) (a37:Dn K "_law_good" oA hC) (a38:Dn K "law" B5 em) (aCM:b9 K bj "Model"=Z8 (Z8 (.ref CM))) (a39:Mn K CM "__init__" "Model.__init__" oj fe) (pCM:Cn K CM) (nCMmachines:aS K (.ref CM) "machines"=Z8 Z7) (aCS:b9 K bj "State"=Z8 (Z8 (.ref CS))) (a40:Mn K CS "__init__" "State.__init__" jv ec) (a41:Mn K CS "copy" "State.copy" iR gd) (pCS:Cn K CS) (nCSboxes:aS K (.ref CS) "boxes"=Z8 Z7) (nCSqueues:aS K (.ref CS) "queues"=Z8 Z7) (nCSdrawn:aS K (.ref CS) "drawn"=Z8 Z7) (nCSsent:aS K (.ref CS) "sent"=Z8 Z7) (aCD:b9 K bj "Doing"=Z8 (Z8 (.ref CD))) (a42:Mn K CD "__init__" "Doing.__init__" om eh) (a43:Mn K CD "now" "Doing.now" jj hy) (a44:Mn K CD "reckon" "Doing.reckon" e8 dt) (a45:Mn K CD "queue_of" "Doing.queue_of" eS ea) (a46:Mn K CD "fill" "Doing.fill" gN hb) (pCD:Cn K CD) (nCDmachine:aS K (.ref CD) "machine"=Z8 Z7) (nCDhappening:aS K (.ref CD) "happening"=Z8 Z7) (nCDstate:aS K (.ref CD) "state"=Z8 Z7) (nCDwritten:aS K (.ref CD) "written"=Z8 Z7) (nCDoutgoing:aS K (.ref CD) "outgoing"=Z8 Z7) (nCDends:aS K (.ref CD) "ends"=Z8 Z7) (nCDreckoned:aS K (.ref CD) "reckoned"=Z8 Z7) (nCDqueued:aS K (.ref CD) "queued"=Z8 Z7) (aCB:b9 K bj "Book"=Z8 (Z8 (.ref CB))) (a47:Mn K CB "__init__" "Book.__init__" p0 da) (pCB:Cn K CB) (nCBrecords:aS K (.ref CB) "records"=Z8 Z7) (nCBending:aS K (.ref CB) "ending"=Z8 Z7) (nCBstates:aS K (.ref CB) "states"=Z8 Z7) (aCC:b9 K bj "Course"=Z8 (Z8 (.ref CC))) (a48:Mn K CC "__init__" "Course.__init__" mB dV) (a49:Mn K CC "copy" "Course.copy" gS eH) (a50:Mn K CC "ending_due" "Course.ending_due" fi eF) (a51:Mn K CC "do_one" "Course.do_one" iy hF) (pCC:Cn K CC) (nCCmodel:aS K (.ref CC) "model"=Z8 Z7) (nCCstates:aS K (.ref CC) "states"=Z8 Z7) (nCCpending:aS K (.ref CC) "pending"=Z8 Z7) (nCCreached:aS K (.ref CC) "reached"=Z8 Z7) (nCCstopped:aS K (.ref CC) "stopped"=Z8 Z7) (aCK:b9 K bj "Keeper"=Z8 (Z8 (.ref CK))) (a52:Mn K CK "__init__" "Keeper.__init__" mC ee) (a53:Mn K CK "run" "Keeper.run" jw ej) (a54:Mn K CK "marks" "Keeper.marks" hV ha) (a55:Mn K CK "cut" "Keeper.cut" jx du) (a56:Mn K CK "go_on" "Keeper.go_on" iK ht) (a57:Mn K CK "course_from" "Keeper.course_from" fJ gw) (pCK:Cn K CK) (nCKmodel:aS K (.ref CK) "model"=Z8 Z7) (nCKsigns:aS K (.ref CK) "signs"=Z8 Z7) (nCKevery:aS K (.ref CK) "every"=Z8 Z7) (nCKkept:aS K (.ref CK) "kept"=Z8 Z7) (aCN:b9 K bj "Nought"=Z8 (Z8 (.ref CN))) (xCN:cX K CN pO "ValueError.__new__"=true) (aCG:b9 K bj "Great"=Z8 (Z8 (.ref CG))) (xCG:cX K CG pO "ValueError.__new__"=true) (aCU:b9 K bj "Full"=Z8 (Z8 (.ref M))) (xCU:cX K M pO "ValueError.__new__"=true) (aCY:b9 K bj "Dry"=Z8 (Z8 (.ref U))) (xCY:cX K U pO "ValueError.__new__"=true) (aCP:b9 K bj "Span"=Z8 (Z8 (.ref O))) (xCP:cX K O pO "ValueError.__new__"=true) (aCL:b9 K bj "Late"=Z8 (Z8 (.ref V))) (xCL:cX K V pO "ValueError.__new__"=true) (aCF:b9 K bj "Fault"=Z8 (Z8 (.ref CF))) (xCF:cX K CF pO "ValueError.__new__"=true) (aCNm:b9 K bj "NoMark"=Z8 (Z8 (.ref kc))) (xCNm:cX K kc pO "ValueError.__new__"=true) (enn:dh K (.ref CN) (.ref CN)=Z8 true) (egn:dh K (.ref CG) (.ref CN)=Z8 false) (egg:dh K (.ref CG) (.ref CG)=Z8 true) (xfCN:dh K (.ref CN) (.ref CF)=Z8 true) (XN100:w9 K CN) (a100:Mn K CN "word" "Nought.word" mw mp) (xfCG:dh K (.ref CG) (.ref CF)=Z8 true) (XN101:w9 K CG) (a101:Mn K CG "word" "Great.word" oh g) (xfCU:dh K (.ref M) (.ref CF)=Z8 true) (XN102:w9 K M) (a102:Mn K M "word" "Full.word" pX mo) (xfCY:dh K (.ref U) (.ref CF)=Z8 true) (XN103:w9 K U) (a103:Mn K U "word" "Dry.word" qY mt) (xfCP:dh K (.ref O) (.ref CF)=Z8 true) (XN104:w9 K O) (a104:Mn K O "word" "Span.word" pY z) (xfCL:dh K (.ref V) (.ref CF)=Z8 true) (XN105:w9 K V) (a105:Mn K V "word" "Late.word" pZ mq) (zlen:b9 K bj "len"=Z8 Z7) (zabs:b9 K bj "abs"=Z8 Z7) (zisinstance:b9 K bj "isinstance"=Z8 Z7) (zlist:b9 K bj "list"=Z8 Z7) (ztuple:b9 K bj "tuple"=Z8 Z7) (zstr:b9 K bj "str"=Z8 Z7) (zint:b9 K bj "int"=Z8 Z7) (zbool:b9 K bj "bool"=Z8 Z7) (zrange:b9 K bj "range"=Z8 Z7) (zmax:b9 K bj "max"=Z8 Z7) (zdict:b9 K bj "dict"=Z8 Z7) (zsorted:b9 K bj "sorted"=Z8 Z7) (zenumerate:b9 K bj "enumerate"=Z8 Z7) (zmin:b9 K bj "min"=Z8 Z7) :
  ∃fd:bS,(∀(s:ao) (v:ae),tY s fd {[v],[]} [("_law_script",v)])/\∀base:cu,K.In base->base.Ns bj mg->bh l.prog w K mg base CX0 42 fa fd ["_law_script"] (Dl K):=by
 obtain⟨_,D1⟩:=dfx ["formula","state","now","got"] X G a1;obtain⟨_,D2⟩:=dfx ["formula","state","now","got"] X G a2;obtain⟨_,D3⟩:=dfx ["kind","first","second"] X G a3;obtain⟨_,D4⟩:=dfx ["kind","first","second"] X G a4;obtain⟨_,D5⟩:=dfx ["model","state","happening"] X G a5;obtain⟨_,D6⟩:=dfx ["model","state","happening"] X G a6;obtain⟨_,D7⟩:=dfx ["machine","sign"] X G a7;obtain⟨_,D8⟩:=dfx ["doing"] X G a8;obtain⟨_,D9⟩:=dfx ["doing","deeds"] X G a9;obtain⟨_,kw⟩:=dfx ["doing","deed"] X G a10;obtain⟨_,lM⟩:=dfx ["doing","name","formula"] X G a11;obtain⟨_,kn⟩:=dfx ["doing","name","box","otherwise"] X G a12;obtain⟨_,lq⟩:=dfx ["doing","box","formula"] X G a13;obtain⟨_,ma⟩:=dfx ["doing","deed"] X G a14;obtain⟨_,hS⟩:=dfx ["thing"] X G a15;obtain⟨_,mb⟩:=dfx ["model","at"] X G a16;obtain⟨_,kr⟩:=dfx ["falling","thing"] X G a17;obtain⟨_,ly⟩:=dfx ["falling","thing"] X G a18;obtain⟨_,lp⟩:=dfx ["signs"] X G a19;obtain⟨_,lv⟩:=dfx ["model","signs"] X G a20;obtain⟨_,ls⟩:=dfx ["course","most"] X G a21;obtain⟨_,il⟩:=dfx ["model","signs","most"] X G a22;obtain⟨_,ew⟩:=dfx ["_law_cell","_law_k"] X G a23;obtain⟨_,iF⟩:=dfx ["_law_script"] X G a24;obtain⟨_,ll⟩:=dfx ["_law_purse_here","_law_out_of"] X G a25;obtain⟨_,kq⟩:=dfx ["_law_purse_here"] X G a26;obtain⟨_,fw⟩:=dfx ["_law_purse_here","_law_low","_law_boxes","_law_queues"] X G a27;obtain⟨_,ki⟩:=dfx ["_law_purse_here","_law_low","_law_left","_law_there","_law_many"] X G a28;obtain⟨_,de⟩:=dfx ["_law_purse_here","_law_there","_law_many"] X G a29;obtain⟨_,cx⟩:=dfx ["_law_purse_here","_law_low","_law_left","_law_there","_law_many"] X G a30;obtain⟨_,dv⟩:=dfx ["_law_purse_here","_law_long"] X G a31;obtain⟨_,kh⟩:=dfx ["_law_purse_here","_law_many","_law_first"] X G a32;obtain⟨_,hP⟩:=dfx ["_law_purse_here"] X G a33;obtain⟨_,he⟩:=dfx ["_law_purse_here","_law_many"] X G a34;obtain⟨_,iv⟩:=dfx ["_law_purse_here","_law_many"] X G a35;obtain⟨_,cs⟩:=dfx ["_law_states_here"] X G a36;obtain⟨_,hR⟩:=dfx ["_law_keeper","_law_model","_law_signs_here","_law_every","_law_most"] X G a37;obtain⟨_,kv⟩:=dfx ["_law_script"] X G a38;obtain⟨_,jl,hT,hO⟩:=mfx ["self","machines"] a39;have im:Mk K CM _:=⟨pCM.m,hO.at_,hO.fn,pCM.k⟩;obtain⟨_,t,H,js⟩:=mfx ["self","boxes","queues","drawn","sent"] a40;obtain⟨_,lw,ez,dG⟩:=mfx ["self"] a41;have mr:Mk K CS _:=⟨pCS.m,js.at_,js.fn,pCS.k⟩;obtain⟨_,ld,kz,kd⟩:=mfx ["self","machine","state","happening"] a42;obtain⟨_,fx,hk,go⟩:=mfx ["self"] a43;obtain⟨_,gl,hm,gM⟩:=mfx ["self","formula"] a44;obtain⟨_,el,hj,ga⟩:=mfx ["self","name"] a45;obtain⟨_,et,gn,fk⟩:=mfx ["self","box","worth"] a46;have kt:Mk K CD _:=⟨pCD.m,kd.at_,kd.fn,pCD.k⟩;obtain⟨_,hN,ke,hX⟩:=mfx ["self","records","ending","states"] a47;have hM:Mk K CB _:=⟨pCB.m,hX.at_,hX.fn,pCB.k⟩;obtain⟨_,lj,lk,io⟩:=mfx ["self","model","states","pending"] a48;obtain⟨_,li,hQ,ii⟩:=mfx ["self"] a49;obtain⟨_,hr,hI,hf⟩:=mfx ["self","left"] a50;obtain⟨_,dL,dw,dq⟩:=mfx ["self"] a51;have lm:Mk K CC _:=⟨pCC.m,io.at_,io.fn,pCC.k⟩;obtain⟨_,hg,er,ih⟩:=mfx ["self","model","signs","every"] a52;obtain⟨_,ix,hn,db⟩:=mfx ["self","most"] a53;obtain⟨_,dn,hq,dc⟩:=mfx ["self"] a54;obtain⟨_,hA,ff,fo⟩:=mfx ["self","number"] a55;obtain⟨_,hL,eo,dz⟩:=mfx ["self","number","most"] a56;obtain⟨_,hY,hl,hd⟩:=mfx ["self","number"] a57;have ge:Mk K CK _:=⟨pCK.m,ih.at_,ih.fn,pCK.k⟩;have e:=hG.symm.trans kv.m
 cases e;have B:Bl mg:={cJ X G zlen,cJ X G zabs,cJ X G zisinstance,cJ X G zlist,cJ X G ztuple,cJ X G zstr,cJ X G zint,cJ X G zbool,cJ X G zrange,cJ X G zmax,cJ X G zdict};have Z:MdT K mg CM CS:={pCM.c,pCS.c,nCMmachines,nCSboxes,nCSqueues,nCSdrawn,nCSsent,dY X G aCM,dY X G aCS};have W:DT K mg CD:={pCD.c,nCDmachine,nCDhappening,nCDstate,nCDwritten,nCDoutgoing,nCDends,nCDreckoned,nCDqueued,dY X G aCD};have I:Hh K mg (oJ CN CG M U O V):={{dY X G aCN,dY X G aCG,xCN,xCG,enn,egn,egg},dY X G aCU,dY X G aCY,dY X G aCP,dY X G aCL,xCU,xCY,xCP,xCL};have Y:Mt K CD "now" "Doing.now" jj ["self"] _ _:=⟨fx,hk,go⟩;have MtR:Mt K CD "reckon" "Doing.reckon" e8 ["self","formula"] _ _:=⟨gl,hm,gM⟩;have lr:Mt K CD "queue_of" "Doing.queue_of" eS ["self","name"] _ _:=⟨el,hj,ga⟩;have lz:Mt K CD "fill" "Doing.fill" gN ["self","box","worth"] _ _:=⟨et,gn,fk⟩;have ln:Mt K CS "copy" "State.copy" iR ["self"] _ _:=⟨lw,ez,dG⟩;obtain⟨_,mf,kB,fG⟩:=mfx ["self"] a100;obtain⟨_,mc,la,gq⟩:=mfx ["self"] a101;obtain⟨_,mm,lb,ek⟩:=mfx ["self"] a102;obtain⟨_,md,lc,dl⟩:=mfx ["self"] a103;obtain⟨_,ml,kG,hp⟩:=mfx ["self"] a104;obtain⟨_,mn,kI,hB⟩:=mfx ["self"] a105;have kb:Mt K CK "cut" "Keeper.cut" jx ["self","number"] _ _:=⟨hA,ff,fo⟩;have lf:Mt K CK "marks" "Keeper.marks" hV ["self"] _ _:=⟨dn,hq,dc⟩;have TK:KeT K mg CK:={pCK.c,nCKmodel,nCKsigns,nCKevery,nCKkept,dY X G aCK};have lg:Mt K CC "copy" "Course.copy" gS ["self"] _ _:=⟨li,hQ,ii⟩;have hK:Mt K CK "run" "Keeper.run" jw ["self","most"] _ _:=⟨ix,hn,db⟩;have ka:Mt K CK "go_on" "Keeper.go_on" iK ["self","number","most"] _ _:=⟨hL,eo,dz⟩;have jp:Mt K CK "course_from" "Keeper.course_from" fJ ["self","number"] _ _:=⟨hY,hl,hd⟩;have eb:mg "min"=Z7:=cJ X G zmin;have TB:BkT K mg CB:={pCB.c,nCBrecords,nCBending,nCBstates,dY X G aCB};have J:CoT K mg CC:={pCC.c,nCCmodel,nCCstates,nCCpending,nCCreached,nCCstopped,dY X G aCC};have D:Mt K CC "ending_due" "Course.ending_due" fi ["self","left"] _ _:=⟨hr,hI,hf⟩;have lx:Mt K CC "do_one" "Course.do_one" iy ["self"] _ _:=⟨dL,dw,dq⟩;have lh:mg "sorted"=Z7:=cJ X G zsorted;have ME:mg "enumerate"=Z7:=cJ X G zenumerate;have kl:mg "Fault"=Z8 (.ref CF):=dY X G aCF;have MW:∀e,yj K ((oJ CN CG M U O V) e) "word" ((um mp g mo mt z mq) e):=fun e=>by cases e<;>assumption
 have ku:∀e,w9 K ((oJ CN CG M U O V) e):=fun e=>by cases e<;>assumption
 have ky:∀e,dh K (.ref ((oJ CN CG M U O V) e)) (.ref CF)=Z8 true:=fun e=>by cases e<;>assumption
 have BW:∀e,Binds K (um _ _ _ _ _ _ e) ["self"] []:=vm kB la lb lc kG kI;exact{_,law_b kv.F fun _ _ _ _ _ _ _=>rfl,fun base _ _=>N8 kv iF (HN iF ew B) ll hP (ok_ms hP kh (HQ kh dv ll B) ki (fun bs qs=>Ly ki cx de fw ll kq B 4) ll kq B) iv (ok_ss iv he ll kq B) im (KY (n:=29) jl hS B Z) hT ge (ok_ki hg im (KY (n:=29) jl hS B Z) hT lv (By lv mb (tI mb mr t H B Z) lp (Bo lp ME) lm lk (Ac lj J) J Z B lh) TK Z B) er lf lh kb hR (ok_gd hR il (NJ il lv (By lv mb (tI mb mr t H B Z) lp (Bo lp ME) lm lk (Ac lj J) J Z B lh) ls (Bx ls D (Cy D J) lx (Bw (cf:=(oJ CN CG M U O V)) (fW:=(um mp g mo mt z mq)) (fdW:=(um _ _ _ _ _ _)) lx ly (Br ly kr B) D5 (fun bq=>(yM (n:=5) D5 D6 kt kz (Ht ld ln (rR lw mr t H B Z) W Z) D9 (rQ D9 kw lz MtR (jd (cf:=(oJ CN CG M U O V)) MtR Y D1 D3 D4 D2 W I Z B) kn lM (yH lM MtR (jd (cf:=(oJ CN CG M U O V)) MtR Y D1 D3 D4 D2 W I Z B) lr W I Z B) lq (vS lq MtR (jd (cf:=(oJ CN CG M U O V)) MtR Y D1 D3 D4 D2 W I Z B) lz W I Z B) ma (yJ ma MtR (jd (cf:=(oJ CN CG M U O V)) MtR Y D1 D3 D4 D2 W I Z B) Y W I Z B) lr W Z 5) D7 D8 W Z B)) MW BW (vm (qZ mf) (tP mc) (wy mm) (yR md) (wz ml) (wA mn)) ku kl ky J Z) J B) hM ke (Ll hN TB) TB J) cs lf lh hK (ok_kr ix lv (By lv mb (tI mb mr t H B Z) lp (Bo lp ME) lm lk (Ac lj J) J Z B lh) lg (H9 li ln (rR lw mr t H B Z) lm (Ac lj J) lk J Z B) D (Cy D J) ls (Bx ls D (Cy D J) lx (Bw (cf:=(oJ CN CG M U O V)) (fW:=(um mp g mo mt z mq)) (fdW:=(um _ _ _ _ _ _)) lx ly (Br ly kr B) D5 (fun bq=>(yM (n:=5) D5 D6 kt kz (Ht ld ln (rR lw mr t H B Z) W Z) D9 (rQ D9 kw lz MtR (jd (cf:=(oJ CN CG M U O V)) MtR Y D1 D3 D4 D2 W I Z B) kn lM (yH lM MtR (jd (cf:=(oJ CN CG M U O V)) MtR Y D1 D3 D4 D2 W I Z B) lr W I Z B) lq (vS lq MtR (jd (cf:=(oJ CN CG M U O V)) MtR Y D1 D3 D4 D2 W I Z B) lz W I Z B) ma (yJ ma MtR (jd (cf:=(oJ CN CG M U O V)) MtR Y D1 D3 D4 D2 W I Z B) Y W I Z B) lr W Z 5) D7 D8 W Z B)) MW BW (vm (qZ mf) (tP mc) (wy mm) (yR md) (wz ml) (wA mn)) ku kl ky J Z) J B) hM ke (Ll hN TB) TK J TB B eb) ka (ok_kg hL jp (ok_kc hY lg (H9 li ln (rR lw mr t H B Z) lm (Ac lj J) lk J Z B) TK J (dY X G aCNm) xCNm) ls (Bx ls D (Cy D J) lx (Bw (cf:=(oJ CN CG M U O V)) (fW:=(um mp g mo mt z mq)) (fdW:=(um _ _ _ _ _ _)) lx ly (Br ly kr B) D5 (fun bq=>(yM (n:=5) D5 D6 kt kz (Ht ld ln (rR lw mr t H B Z) W Z) D9 (rQ D9 kw lz MtR (jd (cf:=(oJ CN CG M U O V)) MtR Y D1 D3 D4 D2 W I Z B) kn lM (yH lM MtR (jd (cf:=(oJ CN CG M U O V)) MtR Y D1 D3 D4 D2 W I Z B) lr W I Z B) lq (vS lq MtR (jd (cf:=(oJ CN CG M U O V)) MtR Y D1 D3 D4 D2 W I Z B) lz W I Z B) ma (yJ ma MtR (jd (cf:=(oJ CN CG M U O V)) MtR Y D1 D3 D4 D2 W I Z B) Y W I Z B) lr W Z 5) D7 D8 W Z B)) MW BW (vm (qZ mf) (tP mc) (wy mm) (yR md) (wz ml) (wA mn)) ku kl ky J Z) J B) TK) TK TB Z B) Z TK B}
theorem walk{l:uy}{q:aL}{Z:List Str}{U:(Str->Option ae)->cu->Prop}{W:bA->cu->Prop}{d:DefRec}{K:Params->af}(J:l.most=Z8 63)(Y:d.params.defaults=[])
  (I:∀(w:bA) (h:cu),W w h->(K w.params).In h)
  (F:∀(w:bA) (mg:Str->Option ae) (V:aa) (h:cu),(K w.params).In h->h.Ns bj mg->mg d.name=Z8 (.ref V) ->
   ∃fd:bS,(∀(s:ao) (u:ae),tY s fd {[u],[]} [("_law_script",u)])/\∀base:cu,(K w.params).In base->base.Ns bj mg->bh l.prog w (K w.params) mg base CX0 42 V fd ["_law_script"] (Dl (K w.params))) :
  Iy q Z U W l.row.toRowW d [] (fun f vs=>Ec f vs):=
 L2.walk_ofB (n:=63) (k:=42) (x:="_law_script") (CX:=fun _=>CX0) (sp:=fun w=>Dl (K w.params)) J (by decide) Y {Z9,by decide,by decide} I F (fun _ _ a ns M hb O=>{a,ns,Z9,O,M,hb,fun _=>rfl}) fun _ _ _ _ _ z=>z
end My
namespace PySem.W.Fast
def tw17507866145348751960:=0
def tw1605210929933673311:=0
def tw14250002819943439919:=0
def tw10761882373643722059:=0
def tw6987471216189316239:=0
def tw3466730126794404609:=0
def tw3502991832131378081:=0
def tw8822330887806921594:=0
def tw7141280647751505437:=0
def tw5367667743586997143:=0
def tw10631417746499081566:=0
def tw2693636624516555912:=0
def tw9321115231265634631:=0
def tw17337512903367176188:=0
def tw3985061924288380332:=0
def tw8584732285324122273:=0
def tw15879909049508085508:=0
def tw16646083919306672004:=0
def tw12918236706085406416:=0
def tw6113566639387951672:=0
def tw10504506239679573898:=0
def tw17921288560732999518:=0
def tw17459586389492315542:=0
def tw9499565003806965960:=0
def tw9292266236765004611:=0
def tw14866164604953701880:=0
def tw7427337357980893181:=0
def tw15788380248654670569:=0
def tw3525486244958485437:=0
def tw353229485051095987:=0
def tw337412415657330709:=0
def tw3113304632470539630:=0
def tw4874204651617610751:=0
def tw4424123673591832898:=0
def tw16164029676403086273:=0
def tw17594251869764988179:=0
def tw12634444826271077743:=0
def tw11856706749721160852:=0
def tw3494326684598918575:=0
def tw11973971044879851709:=0
def tw18155835990406898196:=0
def tw15106506918536261718:=0
def tw9645800740425003662:=0
def tw7035830488379865500:=0
def tw13535150880622644927:=0
def tw8563280953648233423:=0
def tw908211517354430914:=0
def tw15367789048654946881:=0
def tw13266633927571879800:=0
def tw17062206330887055815:=0
def tw7736342273031299546:=0
def tw3330485013313373176:=0
def tw6519822896114897698:=0
def tw6955073379143141558:=0
def tw1823217818636653693:=0
def tw6040255408762994973:=0
def tw15842363316333245123:=0
def tw15575254178852213292:=0
def tw16146631948850630417:=0
def tw15774769623608056234:=0
def tw14139431118295910369:=0
def tw17654050963389772352:=0
def tw18091429036823923407:=0
def tw18379146453712416300:=0
def tw16852972138448774392:=0
def tw12254353344571508482:=0
def tw1330742317913418290:=0
def tw14609713339940007406:=0
def tw4110067368154412052:=0
def tw11040647757109145278:=0
def tw8617184872159594570:=0
def tw16949008665486940760:=0
def tw8799216968660682800:=0
def tw6667454280010413455:=0
def tw13997980877673376058:=0
def tw301534059368812783:=0
def tw1389707334677318818:=0
def tw8298393468319566472:=0
def tw14972789501102517395:=0
def tw4385584585201264095:=0
def tw15813341586505214046:=0
def tw8434623711024424138:=0
def tw5777197184456159463:=0
def tw10334337362407462212:=0
def tw6309917013725942648:=0
def tw9705732399653750868:=0
def tw13172317749434117770:=0
def tw16220907051098468889:=0
def tw3356090698103768847:=0
def tw10126735993564426985:=0
def tw12569588002864898879:=0
def tw8929167909081652249:=0
def tw5832302894822002634:=0
def tw13925885582240503984:=0
def tw10062687031394539862:=0
def tw5285946260592415535:=0
def tw9919827063435771710:=0
def tw2488248842680714528:=0
def tw11300665551037810387:=0
def tw12367995577366504129:=0
def tw6470793817134647578:=0
def tw16749810532259472407:=0
def tw5868263038369032203:=0
def tw9782970971705020026:=0
def tw14645080139587353134:=0
def tw2303567684124920861:=0
def tw13400922673667948398:=0
def tw6375100575474471425:=0
def tw6145537168705348217:=0
def tw9687770819064425194:=0
def tw7824305116769146011:=0
def tw5774414105276704077:=0
def tw18358636344417192873:=0
def tw4994146375086793382:=0
def tw11270826486127509703:=0
def tw16102279095687934205:=0
def tw13671066061920640016:=0
def tw10987287725844259883:=0
def tw16470543512601254826:=0
def tw6102058657461946497:=0
def tw9510713751421713907:=0
def tw7174067697263015971:=0
def tw17202005256030330400:=0
def tw15349504045184623474:=0
def tw18012720444081731443:=0
def tw17305920045690154203:=0
def tw17090237888514112141:=0
def tw16622297554913043912:=0
def tw4110655455163657635:=0
def tw18422773222340049895:=0
def tw6646257041303419705:=0
def tw12302194537777015390:=0
def tw1495082386022829874:=0
def tw2734419860479271684:=0
def tw18411555985546454760:=0
def tw16582841820605149254:=0
def tw7372252709435949779:=0
def tw12984025752066606027:=0
def tw16860492859245277568:=0
def tw10267332958216109699:=0
def tw17673824619331802463:=0
def tw10217017513285823442:=0
def tw13906338438174990866:=0
def tw11471516059120913922:=0
def tw376088031055882623:=0
def tw17534949225210748163:=0
def tw4188559426351057292:=0
def tw5640558135406234703:=0
def tw8272384507828228326:=0
def tw9024413155150904461:=0
def tw413816739372908376:=0
def tw12219653894072150567:=0
def tw7305582880947733764:=0
def tw8151249228085653576:=0
def tw10928581969518182370:=0
def tw5737411746277513357:=0
def tw16884632158419407771:=0
def tw10383208121171034497:=0
def tw16647025344995623424:=0
def tw13434215114782836989:=0
def tw4607207590542061612:=0
def tw5084796628584192749:=0
def tw6449299200124348329:=0
def tw8824512672398316260:=0
def tw4301497886999538002:=0
def tw17988806984526775775:=0
def tw4732243972422480780:=0
def tw13214262840636484681:=0
def tw16167701557280605415:=0
def tw12636837856328488544:=0
def tw6314471486908146565:=0
def tw12578219507024777514:=0
def tw2553791539479960650:=0
def tw12229857205005557893:=0
def tw8537258069988114470:=0
def tw4677338150441392599:=0
def tw13499413890187003975:=0
def tw7923123531676381731:=0
def tw14509976700207749147:=0
def tw8771035047753413507:=0
def tw6920014072252061053:=0
def tw11750882020901628975:=0
def tw2029279684987766398:=0
def tw17799037725843359667:=0
def tw13178435813117883073:=0
def tw11741098944602945990:=0
def tw1313464476176516034:=0
def tw3989175809259736847:=0
def tw1716790216369911896:=0
def tw77245458035157899:=0
def tw17105904989379340939:=0
def tw15724241780509600050:=0
def tw11037733253125986099:=0
def tw6045148617829412741:=0
def tw9782001563580034701:=0
def tw7018623373262988692:=0
def tw1885386835020739657:=0
def tw8596125746037960580:=0
def tw5036447047060943188:=0
def tw13315617048664069653:=0
def tw18099357030766780813:=0
def tw17191190172155796372:=0
def tw9207984870514309547:=0
def tw3654243486941720123:=0
def tw6816079608308348635:=0
def tw2893481300711441691:=0
def tw3947204371263749792:=0
def tw2824459087393309378:=0
def tw13739567419287184534:=0
def tw5580756946385580391:=0
def tw11039481340831451670:=0
def tw10712032075211883215:=0
def tw8462463198283300193:=0
def tw4253438908429974819:=0
def tw1098087934012717205:=0
def tw9458693920290531237:=0
def tw7761247547376993895:=0
def tw14637737938381623538:=0
def tw6592435033410690975:=0
def tw6386959685343160867:=0
def tw5287760398387864536:=0
def tw6666529600522747887:=0
def tw9335136860542665034:=0
def tw9987977519606511340:=0
def tw10635405056644982190:=0
def tw17777127475966319901:=0
def tw8261684274577322712:=0
def tw11020435323829793711:=0
def tw4826794500758295492:=0
def tw3514207682706793242:=0
def tw15678638298916668594:=0
def tw4952175796150448107:=0
def tw17514996801696472372:=0
def tw12654246632860247981:=0
def tw17077636278911481052:=0
def tw12829874920408100362:=0
def tw11630765106009484431:=0
def tw12881492067043122711:=0
def tw4342913277521013620:=0
def tw15120071153287322698:=0
def tw15850567834844175353:=0
def tw8687472849547191966:=0
def tw4444549437569876045:=0
def tw75976369304770622:=0
def tw10820085725777012703:=0
def tw6650814469469861346:=0
def tw15425026556540666299:=0
def tw1533022191430921490:=0
def tw9928037743013060920:=0
def tw5472826870344935482:=0
def tw4135400814307488796:=0
def tw5680761674855332199:=0
def tw5511518567930527485:=0
def tw502656436148477920:=0
def tw15130424265405642509:=0
def tw8130189650266811225:=0
def tw2664193824546939396:=0
def tw13864565839576238475:=0
def tw5218450009409079582:=0
def tw18348533342728788947:=0
def tw14041449778620799104:=0
def tw16242921959893047874:=0
def tw10869116405647327429:=0
def tw9991916487044555381:=0
def tw13319892788606753944:=0
def tw6470964984826147931:=0
def tw12671322099526055315:=0
def tw3720334609382791546:=0
def tw6642624261909443713:=0
def tw4613217615187762973:=0
def tw3326696369784627825:=0
def tw7270364715551630181:=0
def tw15979370820355918520:=0
def tw4747244629184944313:=0
def tw8390865360876774453:=0
def tw1241550767391171220:=0
def tw14180657106105792615:=0
def tw4981403468618813243:=0
def tw7973176452115114196:=0
def tw6921804737573645503:=0
def tw12767606566700834180:=0
def tw1029969435577987215:=0
def tw2243218798962354883:=0
def tw13257609146173641440:=0
def tw17146186127948445388:=0
def tw14619186123442585052:=0
def tw1470971092266349375:=0
def tw6452501547341200493:=0
def tw6431401055276103843:=0
def tw12754417959154028496:=0
def tw1919940072443486942:=0
def tw13475863074608972950:=0
def tw7154065913639557066:=0
def tw9720620588424020639:=0
def tw3136265037867106687:=0
def tw17439602958834578955:=0
def tw11644770419430642175:=0
def tw504114489390381037:=0
def tw2274006546767921100:=0
def tw1758194841734780211:=0
def tw6558267214966456023:=0
def tw11601146524479158824:=0
def tw11266985478848992399:=0
def tw12348122141972559256:=0
def tw851716447469233502:=0
def tw7830982385706560180:=0
def tw2034573973768557018:=0
def tw18141176041837581257:=0
def tw1188062358528129479:=0
def tw11726389927509686978:=0
def tw14030937654711361661:=0
def tw6393744511676729043:=0
def tw16321639939451132816:=0
def tw6453372195577760750:=0
def tw13130709155129024165:=0
def tw16076191242110789194:=0
def tw5013901359439911391:=0
def tw14393816652988786117:=0
def tw14514813688460730299:=0
def tw11060954124944564927:=0
def tw724420331331998038:=0
def tw17115840411565390567:=0
def tw6230880328716348287:=0
def tw7286421343846022650:=0
def tw9870470824559614649:=0
def tw1898895009824993860:=0
def tw5883251552704270240:=0
def tw6965000427648461796:=0
def tw3682162175983737410:=0
def tw12828565316278031581:=0
def tw16435306823243280090:=0
def tw5499510677907011328:=0
def tw1085167645583376707:=0
def tw3499448988259647479:=0
def tw12412001924877214840:=0
def tw8617618567647733897:=0
def tw1211034191427814239:=0
def tw12529485759067928696:=0
def tw17546945270496915142:=0
def tw13060509935450492818:=0
def tw7353180240417060958:=0
def tw2332544634449645058:=0
def tw15868486391445027314:=0
def tw6799837074281368158:=0
def tw10686091795105336299:=0
def tw9713416000296073628:=0
def tw6398588299824430264:=0
def tw13992678202710608663:=0
def tw12551442494697250309:=0
def tw6129238443207979373:=0
def tw16097474177955892040:=0
def tw4768980418493412968:=0
def tw16219692228070909197:=0
def tw4006961408665915508:=0
def tw4164798628293651943:=0
def tw13661590056131194931:=0
def tw732715981006659940:=0
def tw7354193938299156221:=0
def tw14341627933258441672:=0
def tw8754179220973653064:=0
def tw12067895373910567951:=0
def tw8702679549153506940:=0
def tw4792889390071000900:=0
def tw14809191947729500501:=0
def tw13004436557020801763:=0
def tw10204666404458075452:=0
def tw7776301578683464922:=0
def tw1614070156364297481:=0
def tw10508639664585031167:=0
def tw5804680523826424983:=0
def tw13869320354334673942:=0
def tw7892344207096958341:=0
def tw6155651511436565630:=0
def tw18122451732674773278:=0
def tw14833189080730997541:=0
def tw3999473382608121542:=0
def tw7332626076906682704:=0
def tw9849060016076928677:=0
def tw6438036738913902544:=0
def tw3569865770407528398:=0
def tw7129134169804663897:=0
def tw6493527547849626871:=0
def tw14284529633639971839:=0
def tw7066165107781850278:=0
def tw1320252968554986833:=0
def tw407819011806331945:=0
def tw3017746968671069390:=0
def tw16499832350654678914:=0
def tw14175050254465779376:=0
def tw14451681482813808413:=0
def tw629668194649116541:=0
def tw17571463199173015108:=0
def tw1586982334296788763:=0
def tw7653039964157571688:=0
def tw5497287085398446206:=0
def tw14684693701665654885:=0
def tw177066931411504484:=0
def tw10336392319497997258:=0
def tw3973369045651547167:=0
def tw13395275428726588851:=0
def tw10945712180413232682:=0
def tw3199157978520395267:=0
def tw2687287345008151675:=0
def tw16719625495284954219:=0
def tw5668380915714234996:=0
end PySem.W.Fast
open PySem PySem.W PyProof.Rows
set_option maxRecDepth 100000 in
set_option maxHeartbeats 0 in
theorem PySem.Challenge.cw_momentloom_k40_keepers_run_holds : PySem.Challenge.rw_momentloom_k40_keepers_run.Holds := by
 w_on;o_law;k_head;(case hw=>w_witness2)
 k_fill
 refine My.walk (l:=N9) rfl rfl (fun w h Y=>PySem.W.kIn_of Y) ?F
 case F=>
  intro w mg fa h KX G hmg;refine' My.all_mk KX G hmg ?a1 ?a2 ?a3 ?a4 ?a5 ?a6 ?a7 ?a8 ?a9 ?a10 ?a11 ?a12 ?a13 ?a14 ?a15 ?a16 ?a17 ?a18 ?a19 ?a20 ?a21 ?a22 ?a23 ?a24 ?a25 ?a26 ?a27 ?a28 ?a29 ?a30 ?a31 ?a32 ?a33 ?a34 ?a35 ?a36 ?a37 ?a38 ?aCM ?a39 ?pCM ?nCMmachines ?aCS ?a40 ?a41 ?pCS ?nCSboxes ?nCSqueues ?nCSdrawn ?nCSsent ?aCD ?a42 ?a43 ?a44 ?a45 ?a46 ?pCD ?nCDmachine ?nCDhappening ?nCDstate ?nCDwritten ?nCDoutgoing ?nCDends ?nCDreckoned ?nCDqueued ?aCB ?a47 ?pCB ?nCBrecords ?nCBending ?nCBstates ?aCC ?a48 ?a49 ?a50 ?a51 ?pCC ?nCCmodel ?nCCstates ?nCCpending ?nCCreached ?nCCstopped ?aCK ?a52 ?a53 ?a54 ?a55 ?a56 ?a57 ?pCK ?nCKmodel ?nCKsigns ?nCKevery ?nCKkept ?aCN ?xCN ?aCG ?xCG ?aCU ?xCU ?aCY ?xCY ?aCP ?xCP ?aCL ?xCL ?aCF ?xCF ?aCNm ?xCNm ?enn ?egn ?egg ?xfCN ?XN100 ?a100 ?xfCG ?XN101 ?a101 ?xfCU ?XN102 ?a102 ?xfCY ?XN103 ?a103 ?xfCP ?XN104 ?a104 ?xfCL ?XN105 ?a105 ?zlen ?zabs ?zisinstance ?zlist ?ztuple ?zstr ?zint ?zbool ?zrange ?zmax ?zdict ?zsorted ?zenumerate ?zmin
  case a1|a2|a3|a4|a5|a6|a7|a8|a9|a10|a11|a12|a13|a14|a15|a16|a17|a18|a19|a20|a21|a22|a23|a24|a25|a26|a27|a28|a29|a30|a31|a32|a33|a34|a35|a36|a37|a38=>
   refine' My.dn_i ?a ?l ?c ?k
   case a=>k_is
   case l=>k_is
   case c=>k_is
   case k=>k_is
  case aCM|aCS|aCD|aCB|aCC|aCK|aCN|aCG|aCU|aCY|aCP|aCL|aCF|aCNm=>k_is
  case a39|a40|a41|a42|a43|a44|a45|a46|a47|a48|a49|a50|a51|a52|a53|a54|a55|a56|a57=>
   refine' My.mn_i ?a ?i ?l ?c ?k
   case a=>k_is
   case i=>k_is
   case l=>k_is
   case c=>k_is
   case k=>k_is
  case pCM|pCS|pCD|pCB|pCC|pCK=>exact{{by k_is,by k_is,by k_is,by k_is},by k_is,by k_is}
  case nCMmachines|nCSboxes|nCSqueues|nCSdrawn|nCSsent|nCDmachine|nCDhappening|nCDstate|nCDwritten|nCDoutgoing|nCDends|nCDreckoned|nCDqueued|nCBrecords|nCBending|nCBstates|nCCmodel|nCCstates|nCCpending|nCCreached|nCCstopped|nCKmodel|nCKsigns|nCKevery|nCKkept|zlen|zabs|zisinstance|zlist|ztuple|zstr|zint|zbool|zrange|zmax|zdict|zsorted|zenumerate|zmin=>k_is
  case xCN|xCG|xCU|xCY|xCP|xCL|xCF|xCNm=>k_exc
  case enn|egn|egg=>kts_exm
  case xfCN|xfCG|xfCU|xfCY|xfCP|xfCL=>kts_exm
  case XN100|XN101|XN102|XN103|XN104|XN105=>exact{by k_is,by k_is,by k_is,by k_is,by k_is,by k_is,by k_is}
  case a100|a101|a102|a103|a104|a105=>
   refine' My.mn_i ?a ?i ?l ?c ?k
   case a=>k_is
   case i=>k_is
   case l=>k_is
   case c=>k_is
   case k=>k_is

