import PyProof.Rows.All
import Wide.All
import OpenK.AllK
import Wide.FinOn
import Lean
import PyProof.EqAt
import PyProof.EqKinds
import PyProof.TupleCall
import KE.KDictOf
import PyProof.AttrMissSeq
import PyProof.DictCopy
import PyProof.NeKinds
import KE.KDictSum
import PyProof.Rows.SortStr
import PyProof.Rows.SortWalk
import PyProof.ExcArgsOwn
import PyProof.NsDelKeeps
import PyProof.DictWalks
import PyProof.MinMaxWalk
import PyProof.MeetsDictList
import PyProof.DictFindH
import PyProof.DictTruth
import KE.KRevSl
import PyProof.DictItems
import PyProof.EnumMake
import PyProof.EnumFor
import PyProof.EnumStmt
import PyProof.Rows.EnumRows
import PyProof.Rows.SortRev
import PyProof.StrBlockI
import PyProof.SliceStr2
import KE.KSortTup
import PySem.Challenge.RW_momentloom_k18_whole_runs_begin_alike
open PySem renaming Value->aa,Addr->ae,wpAny_bind->ai,Shared->aj,sizeLine->aJ,mainGlobals->aN,Program->aW,Paired->aX,wpAny_pure->aY,wpAny->aZ,model->bD,World->bO,Around->bZ,boot_len->cm,FuncData->cu,Heap->cE,starEach->cH,Expr->dv,compareOp->dI,Stmt->dP,wpAny_loadPart'->dQ,cLine->eB,wpAny_mono->eP,wpAny_holding->eV,sysModules->fu,bootBuiltins->fv,eval->fV,mem_of_lookup->gr,binaryOp->ij,wpAny_Call_Name_kw->iA,wpAny_passesOwn->iI,wpAny_truthy_bool->iU,Builtin->iV,wpAny_newObj_type->iW,backTo->i9,keywordEach->jd,behindInMarks->jC,NameKind->kg,assignEach->kD,attributeBase->kR,Scope->kS,wpAny_field->kW,sliceBounds->kX,codeAny_mono->lW,getMethod->mr,backToKw->mH,foldedSetIterable->nv,sizeLine_eq->ny,codeAny->nA,valueAt->nC,wpAny_dictEntries->nF,wpAny_forIn_list->o6,wpAny_call_entry->o7,holding->pB,richCompare_meets_room->pD,getItem->pE,call_meets->pF,wpAny_execs_nil->pN,letOwnedTupleGo->pO,codeAny_builtin->pQ,rawInt->qH,richCompare->qO,unbindBehindTheSuite->qS,swapsWith->rn,ExceptHandler->r9,wpAny_newList->sF,tupleKind_room_in1->tj,standAt->t8,BindsTo->t9,callerA->ug,wpAny_pyIter_slot->uk,tupleKind->vg,assign->vn,call->vx,IsPart->vB,stored->vF,subscripted->wB,Within->wL,leaving->xJ,wpAny_richCompare_same_room->xQ,callWith->x6,wpAny_call->yb,wpAny_newFunctionEnv_cells->yd,typeLookup->yg,atKey->yl,wpAny_setField->yn,wpAny_rule->yq,evalArgs_none->zi,wpAny_standAt->Am,call->AB,bindL->A9,bindC->Ba,cellsFrom->Bb,wpAny_Call_method0_late->Be,noteFrame->Bg,isTrue->Bn,wpAny_pyNext_list_item->Bv,wpAny_typeOf->BL,seqIndex_neg->BO,call_meetsIn->B7,wpAny_isTrue_Compare1->Eh,wpAny_pyNext_list_end->Ei,codeAny_call_function->Ej,Model->Et,Operator->Ex,rule->Ey,seqIndex_of->EI,builtinsNs->HA,wpAny_Name->HC,Result->HL,typeIs_str->HU,CmpOp->JF,wpAny_assign_Name->JG,wpAny_pyIter_list->JH,Keyword->JI,slot_list_getitem->JK
open List renaming mem_cons_of_mem->af,length_map->ah,mem_cons->ax,getElem?_eq_getElem->aA,getElem?_eq_some_iff->aB,mem_cons_self->aC,size_toArray->aD,length_append->aI,mem_singleton->aM,length_cons->bj,not_mem_nil->bz,mem_append_right->bC,lookup_cons_self->bM,mem_of_getElem?->bQ,mem_append->b8,map_cons->cw,map_append->cy,getElem?_map->cC,lookup_cons->cD,nodup_cons->cM,mem_map->cN,replicate->cO,length_nil->cP,pairwise_iff_getElem->cQ,getElem?_of_mem->cV,length_take->cW,getElem?_append_left->dy,append_nil->dC,getElem?_append_right->dJ,getD_eq_getElem?_getD->dN,map_map->eG,take_length->eI,range->eS,dropLast_subset->eZ,getElem?_set_self->fh,mem_append_left->fZ,pairwise_append->gc,zip_cons_cons->gC,pairwise_cons->gD,getElem?_eq_none->gF,take_add_one->gR,pairwise_map->gS,nodup_append->iG,getElem?_set_ne->iS,getElem_map->iX,length_reverse->i0,map_congr_left->i5,find?_cons->jr,pairwise_singleton->jw,nodup_nil->jI,append_assoc->jJ,length_replicate->j6,length_drop->kd,getElem_mem->kf,lookup->kl,length_dropLast->km,take_zero->lI,take_sublist->lX,getElem?_take_of_lt->mw,getElem?_replicate->m5,take_of_length_le->nG,of_mem_zip->nX,length_zip->oB,nil_append->oH,contains_iff_mem->oS,length_filter_le->oU,take_append_drop->oW,mem_range->pe,length->pf,filterMap_cons->pM,mem_map_of_mem->pS,mem_filterMap->qx,toArray->rD,reverse_perm->rG,eraseIdxIfInBounds_toArray->rO,map_reverse->sJ,foldl_cons->t5,drop_zero->uM,getElem?_zip_eq_some->vL,drop_eq_getElem_cons->vU,getLast?_eq_none_iff->wj,any_cons->wC,map_take->wI,map_nil->xK,length_singleton->yk,mem_of_mem_take->zB,dropLast_concat->zS,getLast?_concat->zT,length_pos_iff->AL,zip_nil_right->Bc,getElem?_drop->Bh,zip_nil_left->BJ,reverse_cons->BR,ext_getElem?->Cc,foldl_append->CI,all_eq_true->El,drop_length->Em,cons_append->En,perm_middle->Eo,isEmpty_iff->Ep,mem_filter->Er,length_set->EK,map_drop->Jh
open PySem.W renaming Frag->ag,findIn->ay,keepIn->aE,codeIn->aK,fnOf->aO,nsIn->aP,isFn->cR,mg_none_of->cY,exmOne->dA,excIn->dM,mroIn->dX,mg_of->eg,kia_one->eN,emptyDict->e7,plainGet->fx,hasDictIn->gb,kitOne->gx,instObj->gG,plainOver->gH,makesIn->hU,methodCall_KW->jG,looks_findIn->j4,callWith_K->kE,katRev->kK,cellsFrom_some->mI,hideAll->mX,lookIn->nU,plainGet_of->o5,methodObj->pT,specialIn->pW,takerIn->rM,takesIn->rN,OpenLaw->rR,InstAt->sU,hideAll_get->xE,callWith_K0->xI,of_hideAll->xT,codeRec_of->yc,kitx_list->zf,kitx_dict->zg,handedIn->As,exm_one->Bj,typeIn->BE,notCls->Cb,WalkO->Ek,kas_rev->JP
open Nat renaming le_refl->aL,ne_of_lt->aU,lt_of_lt_of_le->bE,zero_le->bK,le_trans->cT,le_succ->gi,lt_of_le_of_lt->gE,lt_irrefl->gU,lt_or_ge->iZ,lt_succ_of_lt->jO,not_lt_zero->kJ,le_of_lt->kT,le_add_right->nh,ne_of_gt->nI,lt_trans->om,lt_of_succ_lt_succ->oq,lt_succ_self->sX,succ_pos->yH,mul_le_mul_right->A1,add_le_add_left->Bf,add_sub_cancel->B9,lt_or_gt_of_ne->Cn
open PySem.Heap renaming get?_push_of_some->aQ,lt_size->aT,get?_push_size->cB,get?_update_other->fj,get?_push_ne->gk,size_update->gA,get?_update_self->oN,SameBut->rm,size_push->uA,get?_update_ne->AJ,MadeExcOf->Gz
open PySem.Paired renaming length->bJ,snoc->eU
open Bool renaming false_ne_true->bU,and_eq_true->eX,eq_iff_iff->nK,and_eq_true_iff->pk,false_eq_true->qA,noConfusion->rZ,or_eq_false_iff->zO,or_false->HV,true_and->Ib,and_true->Il
open PySem.F renaming plainAttrs_list->cv,slot_list_append->cJ,type_list_append->cK,args_tuple_add_2->uc,entry_tuple_add->uH,args_tuple_gt_2->uO,slot_dict_items->uQ,slot_tuple_add->vA,entry_tuple_gt->vO,slot_tuple_gt->wD,slot_list_pop->wG,type_list_pop->wH
open PySem.PassesOwn renaming never->cI
open False renaming elim->cS
open PySem.Obj renaming mapSeq->dh,mapFields->qz,data_mapFields->qQ,isFreed_of_fields->zo
open Option.some renaming inj->dR
open PyProof.Rows renaming seqObj->dS,IntsAre->fi,slot_tuple_getitem->jh,callWith_type1->jZ,AllBare->nr,IsTup->qD,envOfC->qN,listUpdate_at->sE,size_push'->tG,seqEpoch_at->wF,tuples'->xR,Constant_none->Al,subscriptTail->Aw,sortedAll->Bk,floordiv_int->Bz,subscriptTail_builtinR->BP,call_function_entry_kw->Ck,wpAny_call_entry_kw->GY,Subscript_->HP,args_list_sort_rev->Io
open PySem.Builtin.Int renaming intBits->eY
open Ne renaming symm->fY
open Array renaming length_toList->gp,perm_iff_toList_perm->iM,getElem?_eq_some_iff->kZ,getD->nc,getElem?_toList->xM,toList->HE
open Int renaming emod_lt_of_pos->il,emod_nonneg->ju,toNat_natCast->jM,fdiv_eq_ediv_of_nonneg->vy
open PySem.Builtin.Slice renaming slicePlaces->ir,sliceAdjust->kj,sliceApplied->pY
open PySem.Builtin.Tuple renaming tupleExact->iB,tupleCompareSizes->oM
open List.Perm renaming refl->jt
open PySem.Str renaming ofString->jN,empty->pP
open PySem.Builtin.List renaming listTooLong->kB,listFitsIndex->qB
open PySem.W.WData renaming weight->kI,weightAll->tD
open Sum.inr renaming inj->lB
open PySem.AutoSeq1 renaming sub_tuple_tuple->lD,list_insert_list_int_val_1->JN
open PySem.Calls renaming callWith_builtin->m8,Name_function_global->t7,evalArgs_plain->yi
open Function renaming comp->o8
open PySem.Txt renaming slice->pR
open Option renaming isSome_map->qy,getD_none->Bd,map_some->Cr
open List.range renaming loop->qC
open PySem.Builtin.Dict renaming dictSlotArgs->qR,updateFrom->rQ,pairItems->sh,samePairs->sy
open Classical renaming byContradiction->sD
open List.cons renaming inj->tW
open PyProof renaming noPylong_of_log2->uh
open List.Pairwise renaming imp->uV
open PySem.EntryCells renaming newEntry->vH
open PySem.Around renaming under->wz,under_plainId->xP
open PySem.SeqAt.EqAt renaming int_int->wA
open PySem.Code renaming isFrame->xH,quiet_builtin->Bi
open PySem.Heap.DictOf renaming new->xO
open PyProof.Rows.IsTup renaming new->BM
open PySem.Value renaming isStrOf->Gr,isInt->JE
open Std.Legacy.Range renaming forIn_eq_forIn_range'->GH,size->GJ
open PySem.Challenge renaming rw_momentloom_k18_whole_runs_begin_alike->JD
open PySem.Heap.IsSliceOf renaming new->JJ
open PySem.W.WShape renaming has->JL
open PySem.Heap.UpToSlots renaming of_keeps->JM
open PyProof.Rows.SortSt renaming mk'->JO
-- CHANGE: your row's module here, as the last of these rows
set_option Elab.async false
set_option linter.all false
set_option maxRecDepth 100000
namespace L2
open PySem PySem.Spec PyProof.Rows
abbrev Key:=Sum Int Str
def uv:Key->aa->Bool
  | .inl k,v=>JE k v
  | .inr x,v=>Gr x v
def keyH (w:bO):Key->Int
  | .inl k=>hashInt k
  | .inr x=>hashStr w x
theorem gs:∀ {k:Key} {v:aa},uv k v=true->(∃ i t,k=Sum.inl i/\v=Value.int i t)\/(∃ x t,k=Sum.inr x/\v=Value.str x t)
  | .inl i,v,h=>by
    obtain ⟨t,e⟩:=Value.isInt_shape (k:=i) (v:=v) h
    exact .inl ⟨i,t,rfl,e⟩
  | .inr x,v,h=>by
    obtain ⟨t,e⟩:=Value.isStrOf_shape (x:=x) (v:=v) h
    exact .inr ⟨x,t,rfl,e⟩
theorem Ai (i:Int) (t:Tok):uv (.inl i) (.int i t)=true:=by simp [uv,JE]
theorem Aj (x:Str) (t:Tok):uv (.inr x) (.str x t)=true:=by simp [uv,Gr]
theorem Hw (a b:Int):decide ((Sum.inl a:Key)=Sum.inl b)=(a == b):=by
  by_cases e:a=b
  · subst e; simp
  · have h:¬ (Sum.inl a:Key)=Sum.inl b:=fun q=>e (Sum.inl.inj q)
    rw [decide_eq_false h]
    exact (beq_eq_false_iff_ne.mpr e).symm
theorem Hx (a b:Str):decide ((Sum.inr a:Key)=Sum.inr b)=decide (a=b):=by
  by_cases e:a=b
  · subst e; simp
  · have h:¬ (Sum.inr a:Key)=Sum.inr b:=fun q=>e (lB q)
    rw [decide_eq_false h,decide_eq_false e]
theorem Hy (a:Int) (b:Str):decide ((Sum.inl a:Key)=Sum.inr b)=false:=decide_eq_false (fun q=>nomatch q)
theorem Hz (a:Str) (b:Int):decide ((Sum.inr a:Key)=Sum.inl b)=false:=decide_eq_false (fun q=>nomatch q)
def fX (prog:aW) (w:bO):PySem.KeyKind prog w Key where
  is:=uv
  hash:=keyH w
  inj:=fun v a b ha hb=>by
    rcases gs ha with ⟨i,t,rfl,rfl⟩ | ⟨x,t,rfl,rfl⟩
    · rcases gs hb with ⟨j,u,rfl,e⟩ | ⟨y,u,rfl,e⟩
      · injection e with e1 _; rw [e1]
      · exact nomatch e
    · rcases gs hb with ⟨j,u,rfl,e⟩ | ⟨y,u,rfl,e⟩
      · exact nomatch e
      · injection e with e1 _; rw [e1]
  byValue:=fun k v h=>by
    rcases gs h with ⟨i,t,rfl,rfl⟩ | ⟨x,t,rfl,rfl⟩ <;> rfl
  pyHash:=fun hv h=>by
    rcases gs hv with ⟨i,t,rfl,rfl⟩ | ⟨x,t,rfl,rfl⟩
    · exact wpAny_pyHash_int h
    · exact wpAny_pyHash_str h
  eqBool:=fun hu hv h=>by
    rcases gs hu with ⟨i,t,rfl,rfl⟩ | ⟨x,t,rfl,rfl⟩
    · rcases gs hv with ⟨j,u,rfl,rfl⟩ | ⟨y,u,rfl,rfl⟩
      · rw [Hw] at h; exact wpAny_eqBool_int h
      · rw [Hy] at h; exact SeqAt.EqAt.int_str i t y u _ _ _ _ h
    · rcases gs hv with ⟨j,u,rfl,rfl⟩ | ⟨y,u,rfl,rfl⟩
      · rw [Hz] at h; exact SeqAt.EqAt.str_int x t j u _ _ _ _ h
      · rw [Hx] at h; exact wpAny_eqBool_str h
  «strs»:=fun k x t v h=>by
    rcases gs h with ⟨i,u,rfl,e⟩ | ⟨y,u,rfl,e⟩
    · exact nomatch e
    · injection e with e1 _
      subst e1
      cases v <;> rfl
theorem wJ (prog:aW) (w:bO) (i:Int) (t:Tok):(fX prog w).is (.inl i) (.int i t)=true:=Ai i t
theorem wK (prog:aW) (w:bO) (x:Str) (t:Tok):(fX prog w).is (.inr x) (.str x t)=true:=Aj x t
end L2
namespace L2
open PySem PySem.Spec PyProof.Rows
inductive V where
  | non | bl (b:Bool) | int (i:Int) | str (x:Str) | byt (b:Array UInt8) | flt (b:UInt64) | ref (a:ae) | ty (n:String)
  deriving DecidableEq
def RelV:V->aa->Prop
  | .non,u=>u=Value.none
  | .bl b,u=>u=Value.bool b
  | .int i,u=>∃ t,u=Value.int i t
  | .str x,u=>∃ t,u=Value.str x t
  | .byt b,u=>∃ t,u=Value.bytes b t
  | .flt b,u=>∃ t,u=Value.float b t
  | .ref a,u=>u=Value.ref a
  | .ty n,u=>u=Value.type n
abbrev df:List V->List aa->Prop:=aX RelV
theorem df.length {xs:List V} {us:List aa} (r:df xs us):xs.length=us.length:=bJ r
theorem df.get:∀ {xs:List V} {us:List aa} {i:Nat} {x:V},df xs us->xs[i]?=some x->∃ u,us[i]?=some u/\RelV x u
  | _,_,_,_,.nil,e=>by simp at e
  | _,_,0,_,.cons r _,e=>by simp at e; subst e; exact ⟨_,rfl,r⟩
  | _,_,i + 1,x,.cons _ t,e=>by
    obtain ⟨u,h1,h2⟩:=df.get (i:=i) (x:=x) t (by simpa using e)
    exact ⟨u,by simpa using h1,h2⟩
theorem df.set {x:V} {u:aa} (r:RelV x u):∀ {xs:List V} {us:List aa} (i:Nat),df xs us->df (xs.set i x) (us.set i u)
  | _,_,_,.nil=>.nil
  | _,_,0,.cons _ t=>.cons r t
  | _,_,i + 1,.cons q t=>.cons q (df.set r i t)
theorem df.append:∀ {xs ys:List V} {us ws:List aa},df xs us->df ys ws->df (xs++ys) (us++ws)
  | _,_,_,_,.nil,s=>s
  | _,_,_,_,.cons r t,s=>.cons r (df.append t s)
theorem df.take:∀ {xs:List V} {us:List aa} (n:Nat),df xs us->df (xs.take n) (us.take n)
  | _,_,0,_=>.nil
  | _,_,_ + 1,.nil=>.nil
  | _,_,n + 1,.cons r t=>.cons r (df.take n t)
theorem df.drop:∀ {xs:List V} {us:List aa} (n:Nat),df xs us->df (xs.drop n) (us.drop n)
  | _,_,0,r=>r
  | _,_,_ + 1,.nil=>.nil
  | _,_,n + 1,.cons _ t=>df.drop n t
def o4:Option V->Option aa->Prop
  | some v,some u=>RelV v u
  | none,none=>True
  | _,_=>False
def KV {κ:Type}:List (κ×V)->List (κ×aa)->Prop:=aX fun (p:κ×V) (q:κ×aa)=>p.1=q.1/\RelV p.2 q.2
def kV:Key->V
  | .inl i=>.int i
  | .inr x=>.str x
inductive HO where
  /-- a list -/
  | lst (xs:List V)
  /-- a tuple (never changes) -/
  | tup (xs:List V)
  /-- a dict whose keys are ints and texts; one whose keys are tuples of ints and texts (the empty one is both) -/
  | dK (kvs:List (Key×V)) | dT (kvs:List (List Key×V))
  /-- a set of ints: its members, its size -/
  | set (S:Int->Bool) (n:Nat)
  /-- an instance of the class at C, its dict at dx, its attributes -/
  | ins (C dx:ae) (fs:List (Str×V))
  /-- the dict of the instance at x -/
  | own (x:ae)
  /-- the dict of an exception -/
  | xd (fs:List (Str×V))
  /-- a bound method, f of x -/
  | met (f x:ae)
  /-- a range object lo, lo + 1, .. below hi -/
  | rng (lo hi:Int)
  /-- a thing that is known to the object (the script; a dict while a loop walks it): read, never written while it is so -/
  | frz (o:Obj) (u:HO)
  /-- a code object's table -/
  | tbl (ps:Array aa)
  /-- any other thing, by what is true of its one object (a def of one's own: SetO a S n := HO.ext fun h => ..) -/
  | ext (φ:cE->Prop)
abbrev Hp:=ae->Option HO
def upd (H:Hp) (a:ae) (o:HO):Hp:=fun b=>if b=a then some o else H b
theorem ao {H:Hp} {a:ae} {o:HO}:upd H a o a=some o:=by unfold upd; rw [if_pos rfl]
theorem aV {H:Hp} {a b:ae} {o:HO} (h:b≠a):upd H a o b=H b:=by unfold upd; rw [if_neg h]
theorem y8 {H:Hp} {a:ae} {o u:HO}:upd (upd H a o) a u=upd H a u:=by
  funext b; unfold upd; split <;> rfl
theorem lU {H:Hp} {a b:ae} {o u:HO} (h:H a=some o) (h':H b=some u) (d:o≠u):a≠b:=by
  intro e; subst e; rw [h] at h'; exact d (dR h')
theorem aH {H:Hp} {a b:ae} {o:HO} (h:H a=some o) (h':H b=none):a≠b:=by
  intro e; subst e; rw [h] at h'; cases h'
section
variable (P:aW) (w:bO)
def eM (H:Hp) (h:cE) (a:ae):HO->Prop
  | .lst xs=>xs.length<=aJ/\∃ (its:List aa) (n:Nat),df xs its/\h.get? a=some {cls:=.type "list",data:=.seq its.toArray n}
  | .tup xs=>xs.length<=aJ/\∃ its:List aa,df xs its/\qD h a its.toArray
  | .dK kvs=>kvs.length<=aJ/\(a == fu)=false/\∃ vs,KV kvs vs/\h.DictOf (fX P w) a vs
  | .dT kvs=>kvs.length<=aJ/\(a == fu)=false/\∃ xs:List (List Key×ae×aa),
      aX (fun (p:List Key×V) (q:List Key×ae×aa)=>p.1=q.1/\H q.2.1=some (.tup (p.1.map kV))/\RelV p.2 q.2.2) kvs xs /\
      ∃ o es ep,h.get? a=some o/\o.ExactDict/\o.data=.dict es ep/\es.toList=xs.map (entryOfKey (vg (fX P w)))/\(xs.map (·.1)).Nodup
  | .set S n=>h.SetOf (intKind P w) a S n
  | .ins C dx fs=>H dx=some (.own a)/\fs.length<=1000/\dx≠a/\h.get? a=some (gG C dx) /\
      ∃ mA,h.Ns1 dx mA/\(∀ f,o4 (fs.lookup f) (mA f))/\wL mA (fs.map (·.1))
  | .own _=>∃ o,h.get? a=some o
  | .xd fs=>∃ mA,h.Ns1 a mA/\∀ f,o4 (fs.lookup f) (mA f)
  | .rng lo hi=>∃ t u v,h.get? a=some {cls:=.type "range",data:=.fields #[.int lo t,.int hi u,.int 1 v]}
  | .frz o u=>h.get? a=some o/\eM H h a u
  | .tbl ps=>h.get? a=some {cls:=.none,data:=.fields ps}
  | .met f x=>h.get? a=some (pT (.ref f) (.ref x))
  | .ext φ=>φ h/\(∃ o,h.get? a=some o)/\∀ h1 h2:cE,φ h1->(∀ o,h1.get? a=some o->h2.get? a=some o)->φ h2
def HOk (H:Hp) (h:cE):Prop:=∀ a o,H a=some o->eM P w H h a o
end
section
variable {P:aW} {w:bO} {H H':Hp} {h h':cE} {a:ae} {o:HO}
theorem eM.lt (x:eM P w H h a o):a < h.objs.size:=by
  cases o with
  | lst xs=>obtain ⟨_,_,_,_,e⟩:=x; exact aT e
  | tup xs=>obtain ⟨_,_,_,p⟩:=x; exact p.lt
  | dK kvs=>obtain ⟨_,_,_,_,o,_,_,e,_⟩:=x; exact aT e
  | dT kvs=>obtain ⟨_,_,_,_,o,_,_,e,_⟩:=x; exact aT e
  | set S n=>obtain ⟨o,_,_,_,e,_⟩:=x; exact aT e
  | ins C dx fs=>obtain ⟨_,_,_,e,_⟩:=x; exact aT e
  | own y=>obtain ⟨_,e⟩:=x; exact aT e
  | xd fs=>obtain ⟨_,⟨_,_,_,e,_⟩,_⟩:=x; exact aT e
  | rng lo hi=>obtain ⟨_,_,_,e⟩:=x; exact aT e
  | frz ob u=>obtain ⟨e,_⟩:=x; exact aT e
  | tbl ps=>exact aT (show h.get? a=some _ from x)
  | met f y=>exact aT (show h.get? a=some _ from x)
  | ext φ=>obtain ⟨_,⟨_,e⟩,_⟩:=x; exact aT e
theorem Paired.mapP {α β:Type} {F G:α->β->Prop}:∀ {l₁:List α} {l₂:List β},aX F l₁ l₂->(∀ a b,F a b->G a b)->aX G l₁ l₂
  | _,_,.nil,_=>.nil
  | _,_,.cons r t,f=>.cons (f _ _ r) (Paired.mapP t f)
theorem Paired.imp' {α β:Type} {F G:α->β->Prop} (f:∀ a b,F a b->G a b) {l₁:List α} {l₂:List β} (r:aX F l₁ l₂):aX G l₁ l₂:=Paired.mapP r f
theorem eM.stay (x:eM P w H h a o) (k:∀ b u,(b=a\/H b=some (.own a))->h.get? b=some u->h'.get? b=some u)
    (ho:∀ b,H b=some (.own a)->H' b=some (.own a)) (ht:∀ b xs,H b=some (.tup xs)->H' b=some (.tup xs)):eM P w H' h' a o:=by
  induction o with
  | lst xs=>obtain ⟨z,its,n,r,e⟩:=x; exact ⟨z,its,n,r,k _ _ (.inl rfl) e⟩
  | tup xs=>obtain ⟨z,its,r,ob,e,c⟩:=x; exact ⟨z,its,r,ob,k _ _ (.inl rfl) e,c⟩
  | dK kvs=>obtain ⟨z,y,vs,r,ob,es,ep,e,c⟩:=x; exact ⟨z,y,vs,r,ob,es,ep,k _ _ (.inl rfl) e,c⟩
  | dT kvs =>
    obtain ⟨z,y,xs,r,ob,es,ep,e,c⟩:=x
    exact ⟨z,y,xs,Paired.mapP r fun p q z=>⟨z.1,ht _ _ z.2.1,z.2.2⟩,ob,es,ep,k _ _ (.inl rfl) e,c⟩
  | set S n=>obtain ⟨ob,es,ep,t,e,c⟩:=x; exact ⟨ob,es,ep,t,k _ _ (.inl rfl) e,c⟩
  | ins C dx fs =>
    obtain ⟨d,z,ne,e,mA,⟨od,es,ep,e2,c⟩,r⟩:=x
    exact ⟨ho _ d,z,ne,k _ _ (.inl rfl) e,mA,⟨od,es,ep,k _ _ (.inr d) e2,c⟩,r⟩
  | own y=>obtain ⟨ob,e⟩:=x; exact ⟨ob,k _ _ (.inl rfl) e⟩
  | xd fs=>obtain ⟨mA,⟨od,es,ep,e,c⟩,r⟩:=x; exact ⟨mA,⟨od,es,ep,k _ _ (.inl rfl) e,c⟩,r⟩
  | rng lo hi=>obtain ⟨t,u,v,e⟩:=x; exact ⟨t,u,v,k _ _ (.inl rfl) e⟩
  | frz ob u ih=>obtain ⟨e,q⟩:=x; exact ⟨k _ _ (.inl rfl) e,ih q⟩
  | tbl ps =>
    have e:h.get? a=some {cls:=.none,data:=.fields ps}:=x
    show h'.get? a=some {cls:=.none,data:=.fields ps}
    exact k a _ (.inl rfl) e
  | met f y =>
    have e:h.get? a=some (pT (.ref f) (.ref y)):=x
    show h'.get? a=some (pT (.ref f) (.ref y))
    exact k a _ (.inl rfl) e
  | ext φ=>obtain ⟨p,⟨o,e⟩,st⟩:=x; exact ⟨st _ _ p fun o q=>k _ _ (.inl rfl) q,⟨o,k _ _ (.inl rfl) e⟩,st⟩
theorem HOk.lt (x:HOk P w H h) (e:H a=some o):a < h.objs.size:=(x a o e).lt
theorem HOk.fresh (x:HOk P w H h) (e:h.objs.size<=a):H a=none:=by
  cases q:H a with
  | none=>rfl
  | some u=>exact absurd (bE (x.lt q) e) (gU _)
theorem HOk.kept (x:HOk P w H h) (k:∀ b u,h.get? b=some u->h'.get? b=some u):HOk P w H h':=fun a o e =>
  (x a o e).stay (fun b u _ q=>k b u q) (fun _ q=>q) fun _ _ q=>q
theorem HOk.laid (x:HOk P w H h) (k:∀ b u,h.get? b=some u->h'.get? b=some u) (hp:h.objs.size<=a) (new:eM P w (upd H a o) h' a o):HOk P w (upd H a o) h':=fun b u e=>by
  have hn:=x.fresh hp
  by_cases hb:b=a
  · subst hb; rw [ao] at e; cases e; exact new
  · rw [aV hb] at e
    exact (x b u e).stay (fun c v _ q=>k c v q) (fun c q=>by rw [aV (aH q hn)]; exact q) fun c xs q=>by rw [aV (aH q hn)]; exact q
end
def Rd (H:Hp) (a:ae) (u:HO):Prop:=H a=some u\/∃ o,H a=some (.frz o u)
theorem Rd.ok {P:aW} {w:bO} {H:Hp} {h:cE} {a:ae} {u:HO} (r:Rd H a u) (x:HOk P w H h):eM P w H h a u:=by
  rcases r with r | ⟨o,r⟩
  · exact x a u r
  · obtain ⟨_,q⟩:=x a _ r
    exact q
def Mut:Option HO->Prop
  | some (.lst _)=>True
  | some (.dK _)=>True
  | some (.dT _)=>True
  | some (.set _ _)=>True
  | some (.ins _ _ _)=>True
  | some (.ext _)=>True
  | _=>False
section
variable {P:aW} {w:bO} {H:Hp} {h h':cE} {x e:ae} {o':HO}
theorem HOk.write (ok:HOk P w H h) (mu:Mut (H x)) (he:e=x\/H e=some (.own x)) (k:∀ b u,b≠e->h.get? b=some u->h'.get? b=some u) (heo:∃ u,h'.get? e=some u)
    (new:eM P w (upd H x o') h' x o'):HOk P w (upd H x o') h':=fun b u q=>by
  have nown:∀ c y,H c=some (.own y)->c≠x:=fun c y r z=>by subst z; rw [r] at mu; exact mu
  have ntup:∀ c xs,H c=some (.tup xs)->c≠x:=fun c xs r z=>by subst z; rw [r] at mu; exact mu
  by_cases hb:b=x
  · subst hb; rw [ao] at q; cases q; exact new
  · rw [aV hb] at q
    by_cases hbe:b=e
    · have q':H b=some (.own x):=by
        rcases he with z | z
        · exact absurd (hbe.trans z) hb
        · rw [hbe]; exact z
      rw [q] at q'; cases q'
      obtain ⟨v,hv⟩:=heo
      exact ⟨v,by rw [hbe]; exact hv⟩
    · refine (ok b u q).stay (fun c v hc r=>k c v ?_ r) (fun c r=>by rw [aV (nown c b r)]; exact r) fun c xs r=>by rw [aV (ntup c xs r)]; exact r
      rcases hc with rfl | hc
      · exact hbe
      · rintro rfl
        rcases he with z | z
        · exact nown c b hc z
        · rw [hc] at z; cases z; exact hb rfl
end
structure Un (fs ex:List ae) (H H':Hp) (h h':cE):Prop where
  keep:∀ b o,h.get? b=some o->H b=none->b∉fs->b∉ex->h'.get? b=some o
  slot:∀ b o,h.get? b=some o->H b=none->b∈fs->b∉ex->∃ sl,h'.get? b=some {o with slots:=sl}
  free:∀ b o,h.get? b=some o->H b=none->b∉ex->H' b=none
  there:∀ b o,h.get? b=some o->b∉ex->∃ o',h'.get? b=some o'
  tups:∀ b xs,H b=some (.tup xs)->H' b=some (.tup xs)
  frzs:∀ b o u,H b=some (.frz o u)->H' b=some (.frz o u)
  tbls:∀ b ps,H b=some (.tbl ps)->∃ more,H' b=some (.tbl (ps++more))
section
variable {fs fs' ex ex':List ae} {H H1 H2:Hp} {h h1 h2 h':cE} {a x e:ae} {o:HO}
theorem Un.any (u:Un fs ex H H1 h h1) {b:ae} {ob:Obj} (q:h.get? b=some ob) (n:H b=none) (hx:b∉ex):∃ sl,h1.get? b=some {ob with slots:=sl}:=by
  by_cases hb:b∈fs
  · exact u.slot b ob q n hb hx
  · exact ⟨ob.slots,u.keep b ob q n hb hx⟩
theorem Un.kept (k:∀ b u,h.get? b=some u->h'.get? b=some u):Un fs ex H H h h':=
  ⟨fun b ob q _ _ _=>k b ob q,fun b ob q _ _ _=>⟨ob.slots,k b ob q⟩,fun _ _ _ n _=>n,fun b ob q _=>⟨ob,k b ob q⟩,fun _ _ q=>q,fun _ _ _ q=>q,fun _ ps q=>⟨#[],by rw [q]; simp⟩⟩
theorem Un.refl:Un fs ex H H h h:=Un.kept fun _ _ q=>q
theorem Un.laid (k:∀ b u,h.get? b=some u->h'.get? b=some u) (hp:h.objs.size<=a) (hn:H a=none):Un fs ex H (upd H a o) h h' where
  keep:=fun b u q _ _ _=>k b u q
  slot:=fun b u q _ _ _=>⟨u.slots,k b u q⟩
  free:=fun b u q n _=>by rw [aV (aU (bE (aT q) hp))]; exact n
  there:=fun b u q _=>⟨u,k b u q⟩
  tups:=fun b xs q=>by rw [aV (aH q hn)]; exact q
  frzs:=fun b u xs q=>by rw [aV (aH q hn)]; exact q
  tbls:=fun b ps q=>⟨#[],by rw [aV (aH q hn),q]; simp⟩
theorem Un.write (mu:Mut (H x)) (he:e=x\/H e=some (.own x)) (k:∀ b u,b≠e->h.get? b=some u->h'.get? b=some u) (heo:∃ u,h'.get? e=some u):Un fs ex H (upd H x o) h h':=by
  have hx:∀ b,H b=none->b≠x:=fun b n z=>by subst z; rw [n] at mu; exact mu
  have hb:∀ b,H b=none->b≠e:=fun b n z=>by
    subst z
    rcases he with r | r
    · exact hx b n r
    · rw [n] at r; cases r
  have hm:∀ b u,H b=some u->¬ Mut (some u)->b≠x:=fun b u q nm z=>by subst z; rw [q] at mu; exact nm mu
  refine ⟨fun b u q n _ _=>k b u (hb b n) q,fun b u q n _ _=>⟨u.slots,k b u (hb b n) q⟩,fun b u q n _=>by rw [aV (hx b n)]; exact n,fun b u q _=>?_,
    fun b xs q=>by rw [aV (hm b _ q fun z=>z)]; exact q,fun b u xs q=>by rw [aV (hm b _ q fun z=>z)]; exact q,fun b ps q=>⟨#[],by rw [aV (hm b _ q fun z=>z),q]; simp⟩⟩
  by_cases hbe:b=e
  · subst hbe; exact heo
  · exact ⟨u,k b u hbe q⟩
end
def trk (h:cE) (H:Hp):List ae:=(eS h.objs.size).filter fun a=>(H a).isSome
def vh (h:cE) (H:Hp):cE:=mX h (trk h H)
theorem Ak (h:cE) (H:Hp):(vh h H).objs.size=h.objs.size:=PySem.W.hideAll_size _ _
theorem Bm {h:cE} {H:Hp} {b:ae} {o:Obj} (e:h.get? b=some o) (n:H b=none):(vh h H).get? b=some o:=
  xE _ e fun hm=>by
    have q:(H b).isSome=true:=(Er.mp hm).2
    rw [n] at q; simp at q
theorem Es {h:cE} {H:Hp} {b:ae} {o:Obj} (e:(vh h H).get? b=some o):h.get? b=some o/\H b=none:=by
  have e':h.get? b=some o:=xT (trk h H) e
  refine ⟨e',?_⟩
  cases q:H b with
  | none=>rfl
  | some x =>
    have hm:b∈trk h H:=Er.mpr ⟨pe.mpr (aT e'),by simp [q]⟩
    have z:(vh h H).get? b=none:=PySem.W.hideAll_none (trk h H) hm
    rw [z] at e; cases e
end L2
namespace L2
open PySem PySem.Spec PyProof.Rows
structure Mod (K:ag) (mg:Str->Option aa) (base:cE):Prop where
  kin:K.In base
  glob:base.Ns aN mg
  blt:∃ mb,base.Ns HA mb/\∀ x:Str,x≠"__name__"->mb x=fv x
  nolimit:base.NoLimit
structure Cx where
  prog:aW
  w:bO
  K:ag
  mg:Str->Option aa
  base:cE
  A:bZ
  N:List Str
  s₀:aj
  H₀:Hp
  env:Env
  outer:List Env
  stack:List Env
  ex:List ae
  fn:Str->Bool
  calm:Bool
  pn:List (ae×Obj)
  xe:aa->aj->Prop
def frs (l:List Env):List ae:=l.filterMap (·.frame)
abbrev Cx.fs (X:Cx):List ae:=frs X.outer
def Vis (sc:kS) (x:Str):Prop:=sc.names.lookup x=some .local\/sc.names.lookup x=some .cell\/sc.names.lookup x=some .free
def Loc (sc:kS) (x:Str):Prop:=sc.names.lookup x=some .local\/sc.names.lookup x=some .cell
def Look (env:Env) (h:cE) (m:Str->Option aa) (x:Str) (u:aa):Prop:=
  (env.kindOf x=some .local/\m x=some u)\/((env.kindOf x=some .cell\/env.kindOf x=some .free)/\∃ c,env.cells.lookup x=some c/\h.IsCell c (some u))
structure Cx.Ok (X:Cx):Prop where
  mod:Mod X.K X.mg X.base
  kind:X.env.scope.kind=.function
  glob:X.env.globals=aN
  blt:X.env.builtins=HA
  above:X.s₀.heap.objs.size<=X.env.locals
  inj:∀ x y c,X.env.cells.lookup x=some c->X.env.cells.lookup y=some c->x=y
  has:∀ x,(X.env.kindOf x=some .cell\/X.env.kindOf x=some .free)->∃ c,X.env.cells.lookup x=some c
  cab:∀ x c,X.fn x=true->X.env.cells.lookup x=some c->X.s₀.heap.objs.size<=c
  hd:X.calm=true->X.A.handled=none
  frames:X.A.frames=some X.stack
  stk:X.stack=X.outer\/(X.stack=X.env :: X.outer/\X.env.frame=some X.env.locals)
  exf:∀ b∈X.ex,b≠X.env.locals/\∀ x c,X.env.cells.lookup x=some c->c≠b
  bs:∀ b o,X.base.get? b=some o->X.s₀.heap.get? b=some o/\X.H₀ b=none
  bsz:X.base.objs.size<=X.s₀.heap.objs.size
  noex:∀ b o,X.base.get? b=some o->b∉X.ex
  exfs:∀ b∈X.ex,b∉X.fs
  funs:X.s₀.heap.FunFrames X.base X.outer
  frf:∀ b∈X.fs,X.H₀ b=none
structure Inv (X:Cx) (pins:List (ae×Obj)) (σ:List (Option V)) (H:Hp) (s:aj):Prop where
  ok:X.Ok
  os:s.os=X.s₀.os
  bare:nr s.gens
  base:Un X.fs X.ex X.H₀ H X.s₀.heap s.heap
  loc:∃ m,s.heap.Ns X.env.locals m/\∀ (i:Nat) (x:Str) (v:V),X.N[i]?=some x->σ[i]?=some (some v)->Vis X.env.scope x->∃ u,RelV v u/\Look X.env s.heap m x u
  cell:∀ x c,X.env.cells.lookup x=some c->∃ v,s.heap.IsCell c v
  free:H X.env.locals=none
  freeC:∀ x c,X.env.cells.lookup x=some c->H c=none
  pin:∀ p∈X.pn++pins,s.heap.get? p.1=some p.2/\H p.1=none/\p.1≠X.env.locals/\p.1∉X.fs/\∀ v,p.2.data≠.cell v
  hok:HOk X.prog X.w H s.heap
  len:σ.length=X.N.length
section
variable {X:Cx} {pins:List (ae×Obj)} {σ:List (Option V)} {H H':Hp} {s:aj} {h':cE}
theorem Cx.Ok.nofr (ok:X.Ok) {b:ae} {o:Obj} (e:X.base.get? b=some o):b∉X.fs:=fun hb=>by
  have:=(ok.funs.mem hb).1
  rw [e] at this; cases this
theorem Inv.bs (I:Inv X pins σ H s):∀ b o,X.base.get? b=some o->s.heap.get? b=some o/\H b=none:=fun b o e =>
  ⟨I.base.keep b o (I.ok.bs b o e).1 (I.ok.bs b o e).2 (I.ok.nofr e) (I.ok.noex b o e),I.base.free b o (I.ok.bs b o e).1 (I.ok.bs b o e).2 (I.ok.noex b o e)⟩
theorem Inv.bk (I:Inv X pins σ H s):∀ b o,X.base.get? b=some o->s.heap.get? b=some o:=fun b o e=>(I.bs b o e).1
theorem Inv.mod (I:Inv X pins σ H s):Mod X.K X.mg X.base:=I.ok.mod
theorem Inv.kIn (I:Inv X pins σ H s):X.K.In s.heap:=I.ok.mod.kin.keeps I.bk
theorem Inv.fr (I:Inv X pins σ H s):∃ m,Fr X.base X.env.locals s.heap m:=
  let ⟨m,hn,_⟩:=I.loc
  ⟨m,hn,I.bk,cT I.ok.bsz I.ok.above⟩
theorem Inv.lt (I:Inv X pins σ H s):X.env.locals < s.heap.objs.size:=let ⟨_,hn,_⟩:=I.loc; hn.lt
theorem Inv.sz (I:Inv X pins σ H s):X.s₀.heap.objs.size<=s.heap.objs.size:=cT I.ok.above (kT I.lt)
theorem Inv.nofs (I:Inv X pins σ H s) {a:ae} (h:s.heap.objs.size<=a):a∉X.fs:=fun hb=>by
  obtain ⟨_,o,ho,_⟩:=I.ok.funs.mem hb
  exact absurd (bE (aT ho) (cT I.sz h)) (gU _)
theorem Inv.cne (I:Inv X pins σ H s):∀ x c,X.env.cells.lookup x=some c->c≠X.env.locals:=fun x c e z=>by
  obtain ⟨v,o,ho,hd⟩:=I.cell x c e
  obtain ⟨m,⟨o',es,ep,ho',hd',_⟩,_⟩:=I.loc
  rw [z,ho'] at ho; cases ho; rw [hd'] at hd; cases hd
theorem Inv.funs (I:Inv X pins σ H s):s.heap.FunFrames X.base X.outer:=by
  have all:∀ (l:List Env),(∀ b∈frs l,b∈X.fs)->X.s₀.heap.FunFrames X.base l->s.heap.FunFrames X.base l:=by
    intro l
    induction l with
    | nil=>intro _ _; trivial
    | cons env r ih =>
      intro hs hl
      obtain ⟨hk,⟨L,o,hf,hn,ho,hd⟩,hr⟩:=hl
      have hL:L∈X.fs:=hs L (by unfold frs; rw [pM,hf]; exact aC)
      obtain ⟨sl,e⟩:=I.base.slot L o ho (I.ok.frf L hL) hL fun z=>I.ok.exfs L z hL
      exact ⟨hk,⟨L,_,hf,hn,e,hd⟩,ih (fun b hb=>hs b (by unfold frs; rw [pM,hf]; exact af _ hb)) hr⟩
  exact all X.outer (fun _ hb=>hb) I.ok.funs
theorem Inv.stack (I:Inv X pins σ H s):s.heap.FunFrames X.base X.stack:=by
  rcases I.ok.stk with e | ⟨e,hf⟩
  · rw [e]; exact I.funs
  · rw [e]
    obtain ⟨m,hn,_⟩:=I.loc
    refine .cons (by rw [I.ok.kind]; decide) hf hn ?_ I.funs
    exact Heap.get?_none_of_le (cT I.ok.bsz I.ok.above)
theorem Inv.stkSub (I:Inv X pins σ H s):∀ b∈frs X.stack,b∈X.env.locals :: X.fs:=fun b hb=>by
  rcases I.ok.stk with e | ⟨e,hf⟩
  · rw [e] at hb; exact af _ hb
  · rw [e] at hb
    unfold frs at hb
    rw [pM,hf] at hb
    exact hb
theorem Inv.stkFree (I:Inv X pins σ H s):∀ b∈frs X.stack,H b=none:=fun b hb=>by
  rcases ax.mp (I.stkSub b hb) with e | hb
  · rw [e]; exact I.free
  · obtain ⟨_,o,ho,_⟩:=I.ok.funs.mem hb
    exact I.base.free b o ho (I.ok.frf b hb) fun z=>I.ok.exfs b z hb
theorem Inv.step {g':Array GenState} {t':Nat} {d':Drawn} {ch:List ae} (I:Inv X pins σ H s)
    (hch:∀ b∈ch,(b∈X.ex\/X.s₀.heap.objs.size<=b)/\b≠X.env.locals/\(∀ x c,X.env.cells.lookup x=some c->c≠b)/\∀ p∈X.pn++pins,p.1≠b)
    (keep:∀ b o,b≠X.env.locals->b∉X.fs->b∉ch->s.heap.get? b=some o->H b=none->h'.get? b=some o)
    (slot:∀ b o,b≠X.env.locals->b∈X.fs->b∉ch->s.heap.get? b=some o->H b=none->∃ sl,h'.get? b=some {o with slots:=sl}) (free:∀ b o,b∉ch->s.heap.get? b=some o->H b=none->H' b=none)
    (there:∀ b o,b∉ch->s.heap.get? b=some o->∃ o',h'.get? b=some o')
    (tups:∀ b xs,H b=some (.tup xs)->H' b=some (.tup xs)) (frzs:∀ b o u,H b=some (.frz o u)->H' b=some (.frz o u)) (tbls:∀ b ps,H b=some (.tbl ps)->∃ more,H' b=some (.tbl (ps++more)))
    (ns:∀ m,s.heap.Ns X.env.locals m->h'.Ns X.env.locals m) (hok:HOk X.prog X.w H' h') (hg:nr g') :
    Inv X pins σ H' {s with heap:=h',gens:=g',drawn:=d',toks:=t'}:=by
  have neL:∀ b o,X.s₀.heap.get? b=some o->b≠X.env.locals:=fun b o e=>aU (bE (aT e) I.ok.above)
  have neC:∀ b o,X.s₀.heap.get? b=some o->b∉X.ex->b∉ch:=fun b o e hx hb=>by
    rcases (hch b hb).1 with z | z
    · exact hx z
    · exact absurd (bE (aT e) z) (gU _)
  have cellK:∀ x c,X.env.cells.lookup x=some c->∀ v,s.heap.IsCell c v->h'.IsCell c v:=fun x c e v ⟨o,ho,hd⟩=>by
    have nch:c∉ch:=fun z=>(hch c z).2.2.1 x c e rfl
    by_cases hc:c∈X.fs
    · obtain ⟨sl,q⟩:=slot c o (I.cne x c e) hc nch ho (I.freeC x c e)
      exact ⟨_,q,hd⟩
    · exact ⟨o,keep c o (I.cne x c e) hc nch ho (I.freeC x c e),hd⟩
  refine ⟨I.ok,I.os,hg,⟨fun b o e n hb hx=>?_,fun b o e n hb hx=>?_,fun b o e n hx=>?_,fun b o e hx=>?_,fun b xs e=>tups b xs (I.base.tups b xs e),fun b o xs e=>frzs b o xs (I.base.frzs b o xs e),fun b ps e=>?_⟩,?_,fun x c e=>?_,?_,fun x c e=>?_,fun p hp=>?_,hok,I.len⟩
  · exact keep b o (neL b o e) hb (neC b o e hx) (I.base.keep b o e n hb hx) (I.base.free b o e n hx)
  · obtain ⟨sl,e1⟩:=I.base.slot b o e n hb hx
    obtain ⟨sl',e2⟩:=slot b _ (neL b o e) hb (neC b o e hx) e1 (I.base.free b o e n hx)
    exact ⟨sl',e2⟩
  · obtain ⟨o',e1⟩:=I.base.there b o e hx
    exact free b o' (neC b o e hx) e1 (I.base.free b o e n hx)
  · obtain ⟨o',e1⟩:=I.base.there b o e hx
    exact there b o' (neC b o e hx) e1
  · obtain ⟨m1,e1⟩:=I.base.tbls b ps e
    obtain ⟨m2,e2⟩:=tbls b _ e1
    exact ⟨m1++m2,by rw [e2,Array.append_assoc]⟩
  · obtain ⟨m,hn,hl⟩:=I.loc
    refine ⟨m,ns m hn,fun i x v e1 e2 e3=>?_⟩
    obtain ⟨u,r,l⟩:=hl i x v e1 e2 e3
    refine ⟨u,r,?_⟩
    rcases l with l | ⟨k,c,e,z⟩
    · exact .inl l
    · exact .inr ⟨k,c,e,cellK x c e _ z⟩
  · obtain ⟨v,z⟩:=I.cell x c e
    exact ⟨v,cellK x c e v z⟩
  · obtain ⟨m,⟨o,_,_,ho,_⟩,_⟩:=I.loc
    exact free _ o (fun z=>(hch _ z).2.1 rfl) ho I.free
  · obtain ⟨v,o,ho,hd⟩:=I.cell x c e
    exact free c o (fun z=>(hch c z).2.2.1 x c e rfl) ho (I.freeC x c e)
  · obtain ⟨e,n,ne,nf,d⟩:=I.pin p hp
    have nch:p.1∉ch:=fun z=>(hch p.1 z).2.2.2 p hp rfl
    exact ⟨keep p.1 p.2 ne nf nch e n,free p.1 p.2 nch e n,ne,nf,d⟩
theorem Inv.un {t':Nat} (I:Inv X pins σ H s) (u:Un X.fs [] H H' s.heap h') (hok:HOk X.prog X.w H' h'):Inv X pins σ H' {s with heap:=h',toks:=t'}:=by
  obtain ⟨m,⟨o,es,ep,ho,r⟩,_⟩:=id I.loc
  obtain ⟨sl,hL⟩:=u.any ho I.free (by simp)
  exact I.step (g':=s.gens) (d':=s.drawn) (ch:=[]) (fun _ z=>nomatch z) (fun b o _ hb _ e n=>u.keep b o e n hb (by simp)) (fun b o _ hb _ e n=>u.slot b o e n hb (by simp)) (fun b o _ e n=>u.free b o e n (by simp)) (fun b o _ e=>u.there b o e (by simp)) u.tups u.frzs u.tbls (fun m' hm=>by
    obtain ⟨o',es',ep',ho',r'⟩:=hm
    rw [ho] at ho'; cases ho'
    exact ⟨_,es',ep',hL,r'⟩) hok I.bare
theorem Inv.call {g':Array GenState} {t':Nat} {d':Drawn} {ch:List ae} (I:Inv X pins σ H s) (u:Un (frs X.stack) ch H H' s.heap h') (hok:HOk X.prog X.w H' h') (hg:nr g')
    (hch:∀ b∈ch,(b∈X.ex\/X.s₀.heap.objs.size<=b)/\b≠X.env.locals/\(∀ x c,X.env.cells.lookup x=some c->c≠b)/\∀ p∈X.pn++pins,p.1≠b) :
    Inv X pins σ H' {s with heap:=h',gens:=g',drawn:=d',toks:=t'}:=by
  obtain ⟨m,⟨o,es,ep,ho,r⟩,_⟩:=id I.loc
  obtain ⟨sl,hL⟩:=u.any ho I.free fun z=>(hch _ z).2.1 rfl
  exact I.step (ch:=ch) hch (fun b o hL hb hc e n=>u.keep b o e n (fun z=>(ax.mp (I.stkSub b z)).elim hL hb) hc) (fun b o _ _ hc e n=>u.any e n hc) (fun b o hc e n=>u.free b o e n hc) (fun b o hc e=>u.there b o e hc) u.tups u.frzs u.tbls (fun m' hm=>by
    obtain ⟨o',es',ep',ho',r'⟩:=hm
    rw [ho] at ho'; cases ho'
    exact ⟨_,es',ep',hL,r'⟩) hok hg
theorem Inv.turned {t':Nat} {it:ae} (I:Inv X pins σ H s) (k:∀ b o,b≠it->s.heap.get? b=some o->h'.get? b=some o) (hn:H it=none) (hL:it≠X.env.locals)
    (h1:it∈X.ex\/X.s₀.heap.objs.size<=it) (h2:∀ x c,X.env.cells.lookup x=some c->c≠it) (h3:∀ p∈X.pn++pins,p.1≠it):Inv X pins σ H {s with heap:=h',toks:=t'}:=by
  have nit:∀ b u,H b=some u->b≠it:=fun b u e z=>by rw [z,hn] at e; cases e
  refine I.step (g':=s.gens) (d':=s.drawn) (ch:=[it]) (fun b hb=>?_) (fun b o _ _ hc e _=>k b o (fun z=>hc (by simp [z])) e) (fun b o _ _ hc e _=>⟨o.slots,k b o (fun z=>hc (by simp [z])) e⟩) (fun _ _ _ _ n=>n)
    (fun b o hc e=>⟨o,k b o (fun z=>hc (by simp [z])) e⟩) (fun _ _ e=>e) (fun _ _ _ e=>e) (fun b ps e=>⟨#[],by rw [e]; simp⟩) (fun m hm=>?_) (fun b u e=>?_) I.bare
  · have e:b=it:=by simpa using hb
    subst e
    exact ⟨h1,hL,h2,h3⟩
  · obtain ⟨o,es,ep,ho,r⟩:=hm
    exact ⟨o,es,ep,k _ o (fY hL) ho,r⟩
  · refine (I.hok b u e).stay (fun c v hc q=>k c v ?_ q) (fun _ q=>q) fun _ _ q=>q
    rcases hc with z | z
    · rw [z]; exact nit b u e
    · exact nit c _ z
theorem Inv.tok (I:Inv X pins σ H s) (t:Nat):Inv X pins σ H {s with toks:=t}:=I.un (h':=s.heap) (t':=t) Un.refl I.hok
theorem Inv.kept {t':Nat} (I:Inv X pins σ H s) (k:∀ b u,s.heap.get? b=some u->h'.get? b=some u):Inv X pins σ H {s with heap:=h',toks:=t'}:=I.un (Un.kept k) (I.hok.kept k)
theorem Inv.laid {a:ae} {o:HO} {t':Nat} (I:Inv X pins σ H s) (k:∀ b u,s.heap.get? b=some u->h'.get? b=some u) (hp:s.heap.objs.size<=a) (new:eM X.prog X.w (upd H a o) h' a o) :
    Inv X pins σ (upd H a o) {s with heap:=h',toks:=t'}:=I.un (Un.laid k hp (I.hok.fresh hp)) (I.hok.laid k hp new)
theorem Inv.write {x e:ae} {o:HO} {t':Nat} (I:Inv X pins σ H s) (mu:Mut (H x)) (he:e=x\/H e=some (.own x)) (k:∀ b u,b≠e->s.heap.get? b=some u->h'.get? b=some u) (heo:∃ u,h'.get? e=some u)
    (new:eM X.prog X.w (upd H x o) h' x o):Inv X pins σ (upd H x o) {s with heap:=h',toks:=t'}:=I.un (Un.write mu he k heo) (I.hok.write mu he k heo new)
theorem Inv.weak {σ':List (Option V)} (I:Inv X pins σ H s) (hl:σ'.length=σ.length) (w:∀ (i:Nat) v,σ'[i]?=some (some v)->σ[i]?=some (some v)):Inv X pins σ' H s:=
  ⟨I.ok,I.os,I.bare,I.base,let ⟨m,hn,hl'⟩:=I.loc; ⟨m,hn,fun i x v e1 e2 e3=>hl' i x v e1 (w i v e2) e3⟩,I.cell,I.free,I.freeC,I.pin,I.hok,hl.trans I.len⟩
theorem Inv.pins_of {pins':List (ae×Obj)} (I:Inv X pins σ H s) (h:∀ p∈pins',s.heap.get? p.1=some p.2/\H p.1=none/\p.1≠X.env.locals/\p.1∉X.fs/\∀ v,p.2.data≠.cell v):Inv X pins' σ H s:=
  ⟨I.ok,I.os,I.bare,I.base,I.loc,I.cell,I.free,I.freeC,fun p hp=>(b8.mp hp).elim (fun z=>I.pin p (fZ _ z)) (h p),I.hok,I.len⟩
theorem sP {N:List Str} (hN:N.Nodup) {i j:Nat} {x:Str} (a:N[i]?=some x) (b:N[j]?=some x):i=j:=by
  obtain ⟨h1,e1⟩:=aB.mp a
  obtain ⟨h2,e2⟩:=aB.mp b
  exact (List.getElem_inj hN).mp (e1.trans e2.symm)
theorem uw {M:Et} {A:bZ} {E:aa->aj->Prop} {i:Nat} {x:Str} {v:V} {u:aa} {Q:Unit->aj->Prop} (I:Inv X pins σ H s) (hN:X.N.Nodup) (hi:X.N[i]?=some x) (hx:Loc X.env.scope x) (r:RelV v u)
    (h:∀ s',Inv X pins (σ.set i (some v)) H s'->(∃ a,rm a s.heap s'.heap/\(a=X.env.locals\/X.env.cells.lookup x=some a))->Q () s') (hf:X.fn x=true\/X.env.scope.names.lookup x=some .local:=by first | exact .inl rfl | exact .inr rfl | assumption):aZ M A (storeName X.env x u) Q E s:=by
  obtain ⟨m,hn,hl⟩:=id I.loc
  have hcls:(X.env.scope.kind == .class || (X.env.scope.kind == .module && X.env.locals != X.env.globals))=false:=by rw [I.ok.kind]; rfl
  have hiσ:i < σ.length:=by rw [I.len]; exact (aB.mp hi).1
  have cne:=I.cne
  have tracked:∀ {a:ae} {h':cE},(∃ o,s.heap.get? a=some o/\H a=none)->rm a s.heap h'->HOk X.prog X.w H h':=fun {a h'} ha hs b ob e=>by
    obtain ⟨_,_,hfree⟩:=ha
    refine (I.hok b ob e).stay (fun c w' hc q=>(hs.2 c ?_).trans q) (fun _ q=>q) fun _ _ q=>q
    rintro rfl
    rcases hc with rfl | hc
    · rw [hfree] at e; cases e
    · rw [hfree] at hc; cases hc
  rcases hx with hk | hk
  · refine wpAny_storeName_local hk hn (fun h' hn' hs=>?_) hcls
    obtain ⟨oL,_,_,hoL,_⟩:=id hn
    refine h _ ⟨I.ok,I.os,I.bare,⟨fun b o e n hb hx=>?_,fun b o e n hb hx=>?_,I.base.free,fun b o e hx=>?_,I.base.tups,I.base.frzs,I.base.tbls⟩,⟨_,hn',fun j y v' e1 e2 e3=>?_⟩,fun y c e=>?_,I.free,I.freeC,fun p hp=>?_,tracked ⟨oL,hoL,I.free⟩ hs,by simpa using I.len⟩ ⟨_,hs,.inl rfl⟩
    · exact (hs.2 b (aU (bE (aT e) I.ok.above))).trans (I.base.keep b o e n hb hx)
    · obtain ⟨sl,e1⟩:=I.base.slot b o e n hb hx
      exact ⟨sl,(hs.2 b (aU (bE (aT e) I.ok.above))).trans e1⟩
    · obtain ⟨o',e1⟩:=I.base.there b o e hx
      exact ⟨o',(hs.2 b (aU (bE (aT e) I.ok.above))).trans e1⟩
    · by_cases hj:j=i
      · subst hj
        rw [hi] at e1; cases e1
        rw [fh hiσ] at e2
        cases e2
        exact ⟨u,r,.inl ⟨hk,by simp⟩⟩
      · rw [iS (fY hj)] at e2
        obtain ⟨u',r',q⟩:=hl j y v' e1 e2 e3
        refine ⟨u',r',?_⟩
        rcases q with ⟨k,e⟩ | ⟨k,c,e,z⟩
        · refine .inl ⟨k,?_⟩
          have:y≠x:=fun e=>hj (sP hN e1 (e ▸ hi))
          simp [this,e]
        · exact .inr ⟨k,c,e,z.sameBut hs (cne y c e)⟩
    · obtain ⟨w',z⟩:=I.cell y c e
      exact ⟨w',z.sameBut hs (cne y c e)⟩
    · obtain ⟨e,n,ne,nf,d⟩:=I.pin p hp
      exact ⟨(hs.2 p.1 ne).trans e,n,ne,nf,d⟩
  · have hfn:X.fn x=true:=by
      rcases hf with z | z
      · exact z
      · rw [z] at hk; cases hk
    obtain ⟨c,hc⟩:=I.ok.has x (.inl hk)
    obtain ⟨w',z⟩:=I.cell x c hc
    refine wpAny_storeName_cell I.ok.kind hk hc z (fun h' hc' hs=>?_)
    obtain ⟨oc,hoc,hocd⟩:=id z
    refine h {s with heap:=h'} ⟨I.ok,I.os,I.bare,⟨fun b o e n hb hx=>?_,fun b o e n hb hx=>?_,I.base.free,fun b o e hx=>?_,I.base.tups,I.base.frzs,I.base.tbls⟩,⟨m,hn.sameBut hs (fY (cne x c hc)),fun j y v' e1 e2 e3=>?_⟩,fun y c' e=>?_,I.free,I.freeC,fun p hp=>?_,tracked ⟨oc,hoc,I.freeC x c hc⟩ hs,by simpa using I.len⟩ ⟨c,hs,.inr hc⟩
    · exact (hs.2 b (aU (bE (aT e) (I.ok.cab x c hfn hc)))).trans (I.base.keep b o e n hb hx)
    · obtain ⟨sl,e1⟩:=I.base.slot b o e n hb hx
      exact ⟨sl,(hs.2 b (aU (bE (aT e) (I.ok.cab x c hfn hc)))).trans e1⟩
    · obtain ⟨o',e1⟩:=I.base.there b o e hx
      exact ⟨o',(hs.2 b (aU (bE (aT e) (I.ok.cab x c hfn hc)))).trans e1⟩
    · by_cases hj:j=i
      · subst hj
        rw [hi] at e1; cases e1
        rw [fh hiσ] at e2
        cases e2
        exact ⟨u,r,.inr ⟨.inl hk,c,hc,hc'⟩⟩
      · rw [iS (fY hj)] at e2
        obtain ⟨u',r',q⟩:=hl j y v' e1 e2 e3
        refine ⟨u',r',?_⟩
        rcases q with q | ⟨k,c',e,z'⟩
        · exact .inl q
        · refine .inr ⟨k,c',e,z'.sameBut hs ?_⟩
          rintro rfl
          exact hj (sP hN e1 (I.ok.inj _ _ _ e hc ▸ hi))
    · by_cases hcc:c'=c
      · subst hcc; exact ⟨_,hc'⟩
      · obtain ⟨w2,z2⟩:=I.cell y c' e
        exact ⟨w2,z2.sameBut hs hcc⟩
    · obtain ⟨e,n,ne,nf,d⟩:=I.pin p hp
      refine ⟨(hs.2 p.1 ?_).trans e,n,ne,nf,d⟩
      intro q
      rw [q,hoc] at e
      have q':oc=p.2:=dR e
      exact d w' (by rw [<- q']; exact hocd)
theorem pU {M:Et} {A:bZ} {E:aa->aj->Prop} {i:Nat} {x:Str} {v:V} {u:aa} {Q:Unit->aj->Prop} (I:Inv X pins σ H s) (hN:X.N.Nodup) (hi:X.N[i]?=some x) (hx:Loc X.env.scope x) (r:RelV v u)
    (h:∀ s',Inv X pins (σ.set i (some v)) H s'->Q () s') (hf:X.fn x=true\/X.env.scope.names.lookup x=some .local:=by first | exact .inl rfl | exact .inr rfl | assumption):aZ M A (storeName X.env x u) Q E s:=
  uw I hN hi hx r (fun s' I' _=>h s' I') hf
theorem Inv.call' {s':aj} {ch:List ae} (I:Inv X pins σ H s) (ho:s'.os=s.os) (u:Un (frs X.stack) ch H H' s.heap s'.heap) (hok:HOk X.prog X.w H' s'.heap) (hg:nr s'.gens)
    (hch:∀ b∈ch,(b∈X.ex\/X.s₀.heap.objs.size<=b)/\b≠X.env.locals/\(∀ x c,X.env.cells.lookup x=some c->c≠b)/\∀ p∈X.pn++pins,p.1≠b):Inv X pins σ H' s':=by
  obtain ⟨h',g',d',t',o'⟩:=s'
  have e:o'=s.os:=ho
  subst e
  exact I.call (g':=g') (t':=t') (d':=d') u hok hg hch
end
abbrev XK:=aa->Option ae->Hp->Prop
abbrev St:=List (Option V)
abbrev VK:=V->Hp->Prop
abbrev TE:=St->Hp->VK->Prop
abbrev TT:=St->Hp->(Bool->Hp->Prop)->Prop
abbrev TA:=St->Hp->(List V->Hp->Prop)->Prop
structure kU where
  nx:St->Hp->Prop
  rt:VK
  bk:St->Hp->Prop:=fun _ _=>False
  ct:St->Hp->Prop:=fun _ _=>False
abbrev TS:=kU->St->Hp->Prop
def EP (X:Cx) (pins:List (ae×Obj)) (σ:St) (Q:VK) (u:aa) (s':aj):Prop:=∃ v H',Inv X pins σ H' s'/\RelV v u/\Q v H'
def TP (X:Cx) (pins:List (ae×Obj)) (σ:St) (Q:Bool->Hp->Prop) (b:Bool) (s':aj):Prop:=∃ H',Inv X pins σ H' s'/\Q b H'
def AP (X:Cx) (pins:List (ae×Obj)) (σ:St) (Q:List V->Hp->Prop) (us:List aa) (s':aj):Prop:=∃ vs H',Inv X pins σ H' s'/\df vs us/\Q vs H'
def SP (X:Cx) (pins:List (ae×Obj)) (D:kU) (f:Flow) (s':aj):Prop:=
  match f with
  | .next=>∃ σ' H',Inv X pins σ' H' s'/\D.nx σ' H'
  | .brk=>∃ σ' H',Inv X pins σ' H' s'/\D.bk σ' H'
  | .cont=>∃ σ' H',Inv X pins σ' H' s'/\D.ct σ' H'
  | .ret u=>∃ v σ' H',Inv X pins σ' H' s'/\RelV v u/\D.rt v H'
def PE (X:Cx) (e:dv) (t:TE):Prop:=
  ∀ (pins:List (ae×Obj)) (s:aj) (σ:St) (H:Hp) (Q:VK),Inv X pins σ H s->t σ H Q->aZ (bD X.prog X.w) X.A (fV e X.env) (EP X pins σ Q) X.xe s
def PT (X:Cx) (e:dv) (t:TT):Prop:=
  ∀ (pins:List (ae×Obj)) (s:aj) (σ:St) (H:Hp) (Q:Bool->Hp->Prop),Inv X pins σ H s->t σ H Q->aZ (bD X.prog X.w) X.A (Bn e X.env (fV e X.env)) (TP X pins σ Q) X.xe s
def PW (X:Cx) (e:dv) (t:TT):Prop:=
  ∀ (whole:Sem aa) (pins:List (ae×Obj)) (s:aj) (σ:St) (H:Hp) (Q:Bool->Hp->Prop),Inv X pins σ H s->t σ H Q->aZ (bD X.prog X.w) X.A (Bn e X.env whole) (TP X pins σ Q) X.xe s
theorem PW.pt {X:Cx} {e:dv} {t:TT} (h:PW X e t):PT X e t:=h _
def PA (X:Cx) (es:List dv) (t:TA):Prop:=
  ∀ (pos:Pos) (pins:List (ae×Obj)) (s:aj) (σ:St) (H:Hp) (Q:List V->Hp->Prop),Inv X pins σ H s->t σ H Q->aZ (bD X.prog X.w) X.A (spliced (i9 pos (cH es X.env))) (AP X pins σ Q) X.xe s
def PS (X:Cx) (st:dP) (t:TS):Prop:=
  ∀ (pins:List (ae×Obj)) (s:aj) (σ:St) (H:Hp) (D:kU),Inv X pins σ H s->t D σ H->aZ (bD X.prog X.w) X.A (exec st X.env) (SP X pins D) X.xe s
def PSs (X:Cx) (st:List dP) (t:TS):Prop:=
  ∀ (pins:List (ae×Obj)) (s:aj) (σ:St) (H:Hp) (D:kU),Inv X pins σ H s->t D σ H->aZ (bD X.prog X.w) X.A (execs st X.env) (SP X pins D) X.xe s
theorem thn {α:Type} {t:Sem α} {Q Q':α->aj->Prop} {M:Et} {A:bZ} {E:aa->aj->Prop} {s:aj} (h:aZ M A t Q E s) (hQ:∀ a s,Q a s->Q' a s):aZ M A t Q' E s:=eP h hQ fun _ _ x=>x
end L2
namespace L2
open PySem PySem.Spec PyProof.Rows
section
variable {X:Cx}
theorem bin {a b:dv} {ta tb:TE} (ha:PE X a ta) (hb:PE X b tb) {pins:List (ae×Obj)} {s:aj} {σ:St} {H:Hp} {R:V->V->Hp->Prop} (I:Inv X pins σ H s) (h:ta σ H fun x H1=>tb σ H1 fun y H2=>R x y H2)
    {α:Type} {Q:α->aj->Prop} {f:aa->aa->Sem α}
    (hf:∀ v u s2 x y H2,Inv X pins σ H2 s2->RelV x v->RelV y u->R x y H2->aZ (bD X.prog X.w) X.A (f v u) Q X.xe s2) :
    aZ (bD X.prog X.w) X.A (fV a X.env) (fun v s₁=>aZ (bD X.prog X.w) X.A (fV b X.env) (fun u s₂=>aZ (bD X.prog X.w) X.A (f v u) Q X.xe s₂) X.xe s₁) X.xe s:=by
  refine thn (ha pins s σ H _ I h) fun v s1 ⟨x,H1,I1,r1,q1⟩=>?_
  refine thn (hb pins s1 σ H1 _ I1 q1) fun u s2 ⟨y,H2,I2,r2,q2⟩=>?_
  exact hf v u s2 x y H2 I2 r1 r2 q2
def qE (i:Nat):TE:=fun σ H Q=>∃ v,σ[i]?=some (some v)/\Q v H
def tC (v:V):TE:=fun _ H Q=>Q v H
theorem HB {i:Nat} {x:Str} {pos:Pos} (hN:X.N[i]?=some x) (hv:Vis X.env.scope x) (hd:(x == ("__debug__":Str))=false:=by decide) (hcd:(x == ("__classdict__":Str))=false:=by decide):PE X (.Name x pos) (qE i):=by
  intro pins s σ H Q I h
  obtain ⟨v,e,h⟩:=h
  obtain ⟨m,hn,hl⟩:=I.loc
  obtain ⟨u,r,l⟩:=hl i x v hN e hv
  have fin:EP X pins σ Q u s:=⟨v,H,I,r,h⟩
  rcases l with ⟨hk,hm⟩ | ⟨hk,c,hc,hcell⟩
  · exact HC (wpAny_loadName_local I.ok.kind hk hn hm fin) hd
  · rcases hk with hk | hk
    · exact HC (wpAny_loadName_cell I.ok.kind hk hc hcell fin) hd
    · exact HC (wpAny_loadName_free I.ok.kind hk hc hcell fin hcd) hd
theorem aq {i j pos}:PE X (.Constant (.int i) j pos) (tC (.int i)):=fun _ _ _ H _ I h=>wpAny_Constant_int ⟨.int i,H,I.tok _,⟨_,rfl⟩,h⟩
theorem lC {b j pos}:PE X (.Constant (.bool b) j pos) (tC (.bl b)):=fun _ _ _ H _ I h=>Constant_bool ⟨.bl b,H,I,rfl,h⟩
theorem vk {j pos}:PE X (.Constant .none j pos) (tC .non):=fun _ _ _ H _ I h=>Al ⟨.non,H,I,rfl,h⟩
theorem cG {x j pos}:PE X (.Constant (.str x) j pos) (tC (.str x)):=fun _ _ _ H _ I h=>Calls.Constant_str ⟨.str x,H,I.tok _,⟨_,rfl⟩,h⟩
def Gl (X:Cx) (x:Str):Prop:=X.env.kindOf x=some .globalImplicit
theorem pV {E:aa->aj->Prop} {pins:List (ae×Obj)} {s:aj} {σ:St} {H:Hp} {x:Str} {u:aa} {pos:Pos} {Q:aa->aj->Prop} (I:Inv X pins σ H s) (hg:Gl X x) (hm:X.mg x=some u) (h:Q u s)
    (hd:(x == ("__debug__":Str))=false:=by decide):aZ (bD X.prog X.w) X.A (fV (.Name x pos) X.env) Q E s:=
  t7 I.ok.kind hg (Calls.loadGlobal_global (by rw [I.ok.glob]; exact I.mod.glob.keeps I.bk) hm h) hd
theorem qF {E:aa->aj->Prop} {pins:List (ae×Obj)} {s:aj} {σ:St} {H:Hp} {x:Str} {u:aa} {pos:Pos} {Q:aa->aj->Prop} (I:Inv X pins σ H s) (hg:Gl X x) (hm:X.mg x=none) (hv:fv x=some u) (h:Q u s)
    (hn:x≠"__name__":=by decide) (hd:(x == ("__debug__":Str))=false:=by decide):aZ (bD X.prog X.w) X.A (fV (.Name x pos) X.env) Q E s:=by
  obtain ⟨mb,h1,h2⟩:=I.mod.blt
  exact t7 I.ok.kind hg (Calls.loadGlobal_builtin (by rw [I.ok.glob]; exact I.mod.glob.keeps I.bk) hm (by rw [I.ok.blt]; exact h1.keeps I.bk) ((h2 x hn).trans hv) h) hd
theorem rW {x:Str} {v:V} {u:aa} {pos:Pos} (hg:Gl X x) (hm:X.mg x=none) (hv:fv x=some u) (r:RelV v u) (hn:x≠"__name__":=by decide) (hd:(x == ("__debug__":Str))=false:=by decide):PE X (.Name x pos) (tC v):=
  fun _ _ _ H _ I h=>qF I hg hm hv ⟨v,H,I,r,h⟩ hn hd
variable {a b:dv} {ta tb:TE} {pos:Pos}
def PC (X:Cx) (op:JF) (a b:dv) (t:TE):Prop:=
  ∀ (pins:List (ae×Obj)) (s:aj) (σ:St) (H:Hp) (Q:VK),Inv X pins σ H s->t σ H Q ->
    aZ (bD X.prog X.w) X.A (fV a X.env) (fun v s₁=>aZ (bD X.prog X.w) X.A (fV b X.env) (fun u s₂=>aZ (bD X.prog X.w) X.A (dI op v u) (EP X pins σ Q) X.xe s₂) X.xe s₁) X.xe s
theorem Bo (b:dv) {op:JF} (h:op≠.In) (h2:op≠.NotIn):jC op b=false:=by
  have e1:(op == CmpOp.In)=false:=by cases op <;> first | rfl | exact absurd rfl h
  have e2:(op == CmpOp.NotIn)=false:=by cases op <;> first | rfl | exact absurd rfl h2
  cases b <;> simp [jC,e1,e2]
def tIsN (ta:TE):TE:=fun σ H Q=>ta σ H fun x H1=>Q (.bl (decide (x=.non))) H1
def tNotN (ta:TE):TE:=fun σ H Q=>ta σ H fun x H1=>Q (.bl (!decide (x=.non))) H1
theorem RelV.none_iff {x:V} {v:aa} (r:RelV x v):(v == Value.none)=decide (x=.non):=by
  cases x with
  | non=>cases r; rfl
  | bl _=>cases r; rfl
  | int _=>obtain ⟨t,rfl⟩:=r; rfl
  | str _=>obtain ⟨t,rfl⟩:=r; rfl
  | byt _=>obtain ⟨t,rfl⟩:=r; rfl
  | flt _=>obtain ⟨t,rfl⟩:=r; rfl
  | ref _=>cases r; rfl
  | ty _=>cases r; rfl
theorem HD {j pos'} (ha:PE X a ta):PC X .Is a (.Constant .none j pos') (tIsN ta):=by
  intro pins s σ H Q I h
  refine thn (ha pins s σ H _ I h) fun v s1 ⟨x,H1,I1,r1,q1⟩=>?_
  exact Al (is_none_gen ⟨.bl _,H1,I1,by rw [r1.none_iff]; rfl,q1⟩)
theorem y9 {j pos'} (ha:PE X a ta):PC X .IsNot a (.Constant .none j pos') (tNotN ta):=by
  intro pins s σ H Q I h
  refine thn (ha pins s σ H _ I h) fun v s1 ⟨x,H1,I1,r1,q1⟩=>?_
  exact Al (isnot_none_gen ⟨.bl _,H1,I1,by rw [r1.none_iff]; rfl,q1⟩)
def tB (t:TE):TT:=fun σ H Q=>t σ H fun x H1=>∃ c,x=.bl c/\Q c H1
theorem sQ {op:JF} {t:TE} (h:PC X op a b t) (h1:jC op b=false:=by first | exact Bo _ (by decide) (by decide) | rfl):PT X (.Compare a [op] [b] pos) (tB t):=by
  intro pins s σ H Q I hw
  refine Eh (thn (h pins s σ H _ I hw) fun v s1 h1=>thn h1 fun u s2 h2=>thn h2 fun c s3 ⟨x,H1,I1,r1,q1⟩=>?_) h1
  obtain ⟨d,rfl,q⟩:=q1
  cases r1
  exact iU ⟨H1,I1,q⟩
theorem qG {e:dv} {t:TE} (h:PE X e t) (he:∀ whole,Bn e X.env whole=(do let v <- whole; t8 e.pos; pB [v] (truthy v)):=by intro _; rfl):PT X e (tB t):=by
  intro pins s σ H Q I hw
  refine isTrue_plain (thn (h pins s σ H _ I hw) fun v s1 ⟨x,H1,I1,r1,q1⟩=>?_) (he _)
  obtain ⟨d,rfl,q⟩:=q1
  cases r1
  exact iU ⟨H1,I1,q⟩
variable {tA tB':TT} {rest:List dv}
def tAnd (t u:TT):TT:=fun σ H Q=>t σ H fun c H1=>if c=true then u σ H1 Q else Q false H1
def tOr (t u:TT):TT:=fun σ H Q=>t σ H fun c H1=>if c=true then Q true H1 else u σ H1 Q
def tNot (t:TT):TT:=fun σ H Q=>t σ H fun c H1=>Q (!c) H1
theorem kx (ha:PT X a tA):PW X (.BoolOp .And [a] pos) tA:=by
  intro wh pins s σ H Q I h
  refine isTrue_and (thn (ha pins s σ H Q I h) fun c s1 e=>?_)
  cases c with
  | true=>exact isTrue_and_nil e
  | false=>exact e
theorem xU (ha:PT X a tA):PW X (.BoolOp .Or [a] pos) tA:=by
  intro wh pins s σ H Q I h
  refine isTrue_or (thn (ha pins s σ H Q I h) fun c s1 e=>?_)
  cases c with
  | false=>exact isTrue_or_nil e
  | true=>exact e
theorem lL (ha:PT X a tA) (hb:PW X (.BoolOp .And (b :: rest) pos) tB'):PW X (.BoolOp .And (a :: b :: rest) pos) (tAnd tA tB'):=by
  intro wh pins s σ H Q I h
  refine isTrue_and (thn (ha pins s σ H _ I h) fun c s1 ⟨H1,I1,q1⟩=>?_)
  cases c with
  | true=>exact hb wh pins s1 σ H1 Q I1 q1
  | false=>exact ⟨H1,I1,q1⟩
theorem za (ha:PT X a tA) (hb:PW X (.BoolOp .Or (b :: rest) pos) tB'):PW X (.BoolOp .Or (a :: b :: rest) pos) (tOr tA tB'):=by
  intro wh pins s σ H Q I h
  refine isTrue_or (thn (ha pins s σ H _ I h) fun c s1 ⟨H1,I1,q1⟩=>?_)
  cases c with
  | true=>exact ⟨H1,I1,q1⟩
  | false=>exact hb wh pins s1 σ H1 Q I1 q1
theorem vm (ha:PT X a tA):PT X (.UnaryOp .Not a pos) (tNot tA):=by
  intro pins s σ H Q I h
  exact isTrue_not (ha pins s σ H (fun c H1=>Q (!c) H1) I h)
def tAndV (ta tb:TE):TE:=fun σ H Q=>ta σ H fun x H1=>∃ c,x=.bl c/\if c=true then tb σ H1 Q else Q (.bl false) H1
theorem Bp {op} {t:TE} (h:PE X a t):PE X (.BoolOp op [a] pos) t:=fun pins s σ H Q I hw=>BoolOp_one (h pins s σ H Q I hw)
theorem Bq (ha:PE X a ta) (hb:PE X (.BoolOp .And (b :: rest) pos) tb):PE X (.BoolOp .And (a :: b :: rest) pos) (tAndV ta tb):=by
  intro pins s σ H Q I h
  refine BoolOp_and (thn (ha pins s σ H _ I h) fun v s1 ⟨x,H1,I1,r1,q1⟩=>?_)
  obtain ⟨c,rfl,q1⟩:=q1
  cases r1
  refine iU ?_
  cases c with
  | true=>exact hb pins s1 σ H1 Q I1 q1
  | false=>exact ⟨.bl false,H1,I1,rfl,q1⟩
def tIf (t:TT) (ta tb:TE):TE:=fun σ H Q=>t σ H fun c H1=>if c=true then ta σ H1 Q else tb σ H1 Q
theorem sR {c:dv} (hc:PT X c tA) (ha:PE X a ta) (hb:PE X b tb):PE X (.IfExp c a b pos) (tIf tA ta tb):=by
  intro pins s σ H Q I h
  refine wpAny_IfExp (thn (hc pins s σ H _ I h) fun d s1 ⟨H1,I1,q1⟩=>?_)
  cases d with
  | true=>exact ha pins s1 σ H1 Q I1 q1
  | false=>exact hb pins s1 σ H1 Q I1 q1
end
end L2
namespace L2
open PySem PySem.Spec PyProof.Rows
def SqL (K:ag) (H:Hp) (a:ae) (xs:List V):Prop:=
  Rd H a (.lst xs) \/
    ∃ (o:Obj) (its:Array aa) (n:Nat),K.lookup a=some o/\o.cls=.type "list"/\o.dict=none/\o.data=.seq its n/\its.size<=aJ/\df xs its.toList
def SqT (K:ag) (H:Hp) (a:ae) (xs:List V):Prop:=
  Rd H a (.tup xs) \/
    ∃ (o:Obj) (its:Array aa) (n:Nat),K.lookup a=some o/\o.cls=.type "tuple"/\o.data=.seq its n/\its.size<=aJ/\df xs its.toList
def absV:aa->Option V
  | .none=>some .non
  | .bool b=>some (.bl b)
  | .int i _=>some (.int i)
  | .str x _=>some (.str x)
  | .bytes b _=>some (.byt b)
  | .float b _=>some (.flt b)
  | .ref a=>some (.ref a)
  | .type n=>some (.ty n)
  | _=>none
theorem RelV.abs {x:V} {u:aa} (r:RelV x u):absV u=some x:=by
  cases x with
  | non=>cases r; rfl
  | bl _=>cases r; rfl
  | int _=>obtain ⟨t,rfl⟩:=r; rfl
  | str _=>obtain ⟨t,rfl⟩:=r; rfl
  | byt _=>obtain ⟨t,rfl⟩:=r; rfl
  | flt _=>obtain ⟨t,rfl⟩:=r; rfl
  | ref _=>cases r; rfl
  | ty _=>cases r; rfl
theorem RelV.inj {x y:V} {u:aa} (r:RelV x u) (q:RelV y u):x=y:=dR (r.abs.symm.trans q.abs)
theorem df.inj:∀ {xs ys:List V} {us:List aa},df xs us->df ys us->xs=ys
  | _,_,_,.nil,.nil=>rfl
  | _,_,_,.cons r t,.cons r' t'=>by rw [r.inj r',df.inj t t']
section
variable {X:Cx} {pins:List (ae×Obj)} {σ:St} {H:Hp} {s:aj} {a:ae} {xs ys:List V}
theorem SqL.of {K:ag} (h:H a=some (.lst xs)):SqL K H a xs:=.inl (.inl h)
theorem SqT.of {K:ag} (h:H a=some (.tup xs)):SqT K H a xs:=.inl (.inl h)
theorem Inv.list (I:Inv X pins σ H s) (h:SqL X.K H a xs):∃ its:List aa,df xs its/\PlainL s.heap a its.toArray/\xs.length<=aJ:=by
  rcases h with h | ⟨o,its,n,hk,hc,hd,hs,hz,r⟩
  · obtain ⟨z,its,n,r,e⟩:=h.ok I.hok
    exact ⟨its,r,⟨_,n,e,rfl,rfl,rfl⟩,z⟩
  · refine ⟨its.toList,r,⟨o,n,I.kIn a o hk,hc,hd,by simpa using hs⟩,?_⟩
    have e:=r.length
    simp only [gp] at e
    omega
theorem Inv.tuple (I:Inv X pins σ H s) (h:SqT X.K H a xs):∃ its:List aa,df xs its/\qD s.heap a its.toArray/\xs.length<=aJ:=by
  rcases h with h | ⟨o,its,n,hk,hc,hs,hz,r⟩
  · obtain ⟨z,its,r,p⟩:=h.ok I.hok
    exact ⟨its,r,p,z⟩
  · refine ⟨its.toList,r,⟨o,I.kIn a o hk,hc,n,by simpa using hs⟩,?_⟩
    have e:=r.length
    simp only [gp] at e
    omega
theorem Inv.list_inj (I:Inv X pins σ H s) (h:SqL X.K H a xs) (h':SqL X.K H a ys):xs=ys:=by
  obtain ⟨its,r,⟨o,n,e,_,_,d⟩,_⟩:=I.list h
  obtain ⟨its',r',⟨o',n',e',_,_,d'⟩,_⟩:=I.list h'
  rw [e] at e'; cases e'
  rw [d] at d'
  injection d' with d1 _
  have:its=its':=by simpa using congrArg HE d1
  subst this
  exact r.inj r'
theorem Inv.tuple_inj (I:Inv X pins σ H s) (h:SqT X.K H a xs) (h':SqT X.K H a ys):xs=ys:=by
  obtain ⟨its,r,⟨o,e,_,n,d⟩,_⟩:=I.tuple h
  obtain ⟨its',r',⟨o',e',_,n',d'⟩,_⟩:=I.tuple h'
  rw [e] at e'; cases e'
  rw [d] at d'
  injection d' with d1 _
  have:its=its':=by simpa using congrArg HE d1
  subst this
  exact r.inj r'
end
abbrev Cx.wish (X:Cx) (E:aa->aj->Prop):Cx:={X with xe:=E}
abbrev Cx.nox (X:Cx):Cx:=X.wish fun _ _=>False
theorem Cx.Ok.wish {X:Cx} (ok:X.Ok) (E:aa->aj->Prop):(X.wish E).Ok:=
  ⟨ok.mod,ok.kind,ok.glob,ok.blt,ok.above,ok.inj,ok.has,ok.cab,ok.hd,ok.frames,ok.stk,ok.exf,ok.bs,ok.bsz,ok.noex,ok.exfs,ok.funs,ok.frf⟩
theorem Cx.Ok.unwish {X:Cx} {E:aa->aj->Prop} (ok:(X.wish E).Ok):X.Ok:=
  ⟨ok.mod,ok.kind,ok.glob,ok.blt,ok.above,ok.inj,ok.has,ok.cab,ok.hd,ok.frames,ok.stk,ok.exf,ok.bs,ok.bsz,ok.noex,ok.exfs,ok.funs,ok.frf⟩
section
variable {X:Cx} {pins:List (ae×Obj)} {σ:St} {H:Hp} {s:aj} {E:aa->aj->Prop}
theorem Inv.wish (I:Inv X pins σ H s) (E:aa->aj->Prop):Inv (X.wish E) pins σ H s:=⟨I.ok.wish E,I.os,I.bare,I.base,I.loc,I.cell,I.free,I.freeC,I.pin,I.hok,I.len⟩
theorem Inv.unwish (I:Inv (X.wish E) pins σ H s):Inv X pins σ H s:=⟨I.ok.unwish,I.os,I.bare,I.base,I.loc,I.cell,I.free,I.freeC,I.pin,I.hok,I.len⟩
theorem SP.unwish {D:kU} {f:Flow} {s':aj} (h:SP (X.wish E) pins D f s'):SP X pins D f s':=by
  cases f with
  | next=>obtain ⟨σ',H',I,q⟩:=h; exact ⟨σ',H',I.unwish,q⟩
  | brk=>obtain ⟨σ',H',I,q⟩:=h; exact ⟨σ',H',I.unwish,q⟩
  | cont=>obtain ⟨σ',H',I,q⟩:=h; exact ⟨σ',H',I.unwish,q⟩
  | ret u=>obtain ⟨v,σ',H',I,r,q⟩:=h; exact ⟨v,σ',H',I.unwish,r,q⟩
theorem PSs.nox {st:List dP} {t:TS} (h:PSs X.nox st t):PSs X st t:=fun pins s σ H D I hw =>
  eP (h pins s σ H D (I.wish _) hw) (fun _ _ q=>q.unwish) fun _ _ z=>cS z
end
section
variable {X:Cx} {st:dP} {rest:List dP} {t u:TS} {e:dv} {te:TE} {pos:Pos}
def Br:TS:=fun D σ H=>D.nx σ H
def tSeq (t u:TS):TS:=fun D σ H=>t {D with nx:=u D} σ H
theorem cq:PSs X [] Br:=fun _ _ σ H _ I h=>pN ⟨σ,H,I,h⟩
theorem ak (h1:PS X st t) (h2:PSs X rest u):PSs X (st :: rest) (tSeq t u):=by
  intro pins s σ H D I h
  refine wpAny_execs_cons (thn (h1 pins s σ H {D with nx:=u D} I h) fun f s1 q=>?_)
  cases f with
  | next =>
    obtain ⟨σ',H',I',q⟩:=q
    exact h2 pins s1 σ' H' D I' q
  | ret v=>exact q
  | brk=>exact q
  | cont=>exact q
theorem aG (h1:PS X st t):PSs X [st] t:=by
  intro pins s σ H D I h
  refine wpAny_execs_cons (thn (h1 pins s σ H D I h) fun f s1 q=>?_)
  cases f with
  | next=>exact pN q
  | ret v=>exact q
  | brk=>exact q
  | cont=>exact q
theorem Inv.quiet {pins:List (ae×Obj)} {σ:St} {H:Hp} {s:aj} (I:Inv X pins σ H s):interactive X.env=false:=by simp [interactive,I.ok.kind]
def tDrop (te:TE):TS:=fun D σ H=>te σ H fun _ H1=>D.nx σ H1
theorem eT (he:PE X e te) (hs:rn e none pos.line X.env=pure false:=by rfl):PS X (.Expr e pos) (tDrop te):=by
  intro pins s σ H D I h
  exact wpAny_Expr_any (thn (he pins s σ H _ I h) fun v s1 ⟨x,H1,I1,r1,q1⟩=>⟨σ,H1,I1,q1⟩) I.quiet hs
def tRet (te:TE):TS:=fun D σ H=>te σ H D.rt
theorem bR (he:PE X e te):PS X (.Return (some e) pos) (tRet te):=by
  intro pins s σ H D I h
  exact wpAny_Return_some (thn (he pins s σ H _ I h) fun v s1 ⟨x,H1,I1,r1,q1⟩=>⟨x,σ,H1,I1,r1,q1⟩)
def Eu (c:TT) (t u:TS):TS:=fun D σ H=>c σ H fun b H1=>if b=true then t D σ H1 else u D σ H1
theorem cZ {c:dv} {a b:List dP} {tc:TT} (hc:PT X c tc) (ha:PSs X a t) (hb:PSs X b u):PS X (.If c a b pos) (Eu tc t u):=by
  intro pins s σ H D I h
  refine wpAny_If (thn (hc pins s σ H _ I h) fun d s1 ⟨H1,I1,q1⟩=>?_)
  cases d with
  | true=>exact ha pins s1 σ H1 D I1 q1
  | false=>exact hb pins s1 σ H1 D I1 q1
def HF:TS:=fun _ _ _=>False
theorem ux {sts:List dP}:PSs X sts HF:=fun _ _ _ _ _ _ h=>h.elim
end
abbrev TG:=V->St->Hp->(St->Hp->Prop)->Prop
abbrev TGs:=List V->St->Hp->(St->Hp->Prop)->Prop
def PG (X:Cx) (target:dv) (t:TG):Prop:=
  ∀ (pins:List (ae×Obj)) (s:aj) (σ:St) (H:Hp) (v:V) (u:aa) (Q:St->Hp->Prop),Inv X pins σ H s->RelV v u->t v σ H Q ->
    aZ (bD X.prog X.w) X.A (vn target X.env u) (fun _ s'=>∃ σ' H',Inv X pins σ' H' s'/\Q σ' H') X.xe s
def PGs (X:Cx) (ts:List dv) (t:TGs):Prop:=
  ∀ (pins:List (ae×Obj)) (s:aj) (σ:St) (H:Hp) (vs:List V) (us:List aa) (Q:St->Hp->Prop),Inv X pins σ H s->df vs us->t vs σ H Q ->
    aZ (bD X.prog X.w) X.A (assignInOrder ((kD ts X.env).map (·.2)) us) (fun _ s'=>∃ σ' H',Inv X pins σ' H' s'/\Q σ' H') X.xe s
abbrev HG:=V->V->V->Hp->(Hp->Prop)->Prop
def PSet (X:Cx) (t:HG):Prop:=
  ∀ (pins:List (ae×Obj)) (s:aj) (σ:St) (H:Hp) (o i v:V) (ov iv u:aa) (Q:Hp->Prop),Inv X pins σ H s->RelV o ov->RelV i iv->RelV v u->t o i v H Q ->
    aZ (bD X.prog X.w) X.A (setItem ov iv u) (fun _ s'=>∃ H',Inv X pins σ H' s'/\Q H') X.xe s
section
variable {X:Cx} {pos:Pos}
def zb (i:Nat):TG:=fun v σ H Q=>Q (σ.set i (some v)) H
theorem eD {i:Nat} {x:Str} (hN:X.N.Nodup) (hi:X.N[i]?=some x) (hx:Loc X.env.scope x) (hf:X.fn x=true\/X.env.scope.names.lookup x=some .local:=by first | exact .inl rfl | exact .inr rfl | assumption):PG X (.Name x pos) (zb i):=by
  intro pins s σ H v u Q I r h
  exact JG (pU I hN hi hx r (fun s' I'=>⟨_,H,I',h⟩) hf)
def gNil:TGs:=fun vs σ H Q=>vs=[]/\Q σ H
def gCons (t:TG) (u:TGs):TGs:=fun vs σ H Q=>∃ v r,vs=v :: r/\t v σ H fun σ' H'=>u r σ' H' Q
theorem vp:PGs X [] gNil:=by
  intro pins s σ H vs us Q I r h
  obtain ⟨e,h⟩:=h
  subst e
  cases r
  exact assignInOrder_nil ⟨σ,H,I,h⟩
theorem lV {e:dv} {es:List dv} {t:TG} {u:TGs} (h1:PG X e t) (h2:PGs X es u)
    (hs:(kD (e :: es) X.env).map (·.2)=vn e X.env :: (kD es X.env).map (·.2):=by rfl):PGs X (e :: es) (gCons t u):=by
  intro pins s σ H vs us Q I r h
  obtain ⟨v,vr,e1,h⟩:=h
  subst e1
  cases r with
  | cons r rr =>
    rw [hs]
    refine assignInOrder_cons (thn (h1 pins s σ H _ _ _ I r h) fun _ s1 ⟨σ1,H1,I1,q1⟩=>?_)
    exact h2 pins s1 σ1 H1 _ _ Q I1 rr q1
def gTup (K:ag) (n:Nat) (t:TGs):TG:=fun v σ H Q=>∃ a xs,v=.ref a/\SqT K H a xs/\xs.length=n/\t xs σ H Q
theorem Bs {es:List dv} {k:Nat} {t:TGs} {n:Nat} (hc:X.calm=true) (h:PGs X es t)
    (hn:(kD es X.env).length=n:=by rfl) (hst:(kD es X.env).findIdx? (·.1)=none:=by rfl):PG X (.Tuple es k pos) (gTup X.K n t):=by
  intro pins s σ H v u Q I r hw
  obtain ⟨a,xs,e1,hq,hl,hw⟩:=hw
  subst e1
  cases r
  obtain ⟨its,rv,ht,hz⟩:=I.tuple hq
  refine assign_Tuple_tuple (I.ok.hd hc) ht (by simp [hn,<- hl,rv.length]) hst fun h' hx=>?_
  have I1:Inv X pins σ H {s with heap:=h'}:=I.kept (t':=s.toks) fun b o e=>hx b o (aU (aT e)) e
  exact h pins _ σ H xs _ Q I1 (by simpa using rv) hw
def gSub (to ti:TE) (t:HG):TG:=fun v σ H Q=>to σ H fun o H1=>ti σ H1 fun i H2=>t o i v H2 fun H3=>Q σ H3
theorem vt {o i:dv} {to ti:TE} {t:HG} (ho:PE X o to) (hi:PE X i ti) (hs:PSet X t)
    (ha:∀ v,vn (.Subscript o i pos) X.env v=(do
      let ov <- pB [v] (fV o X.env)
      let iv <- pB [v,ov] (fV i X.env)
      t8 pos
      pB [v,ov,iv] (setItem ov iv v)
      release [v,ov,iv] []):=by intro _; rfl):PG X (.Subscript o i pos) (gSub to ti t):=by
  intro pins s σ H v u Q I r h
  rw [ha]
  refine ai (eV (thn (ho pins s σ H _ I h) fun ov s1 ⟨x,H1,I1,r1,q1⟩=>?_))
  refine ai (eV (thn (hi pins s1 σ H1 _ I1 q1) fun iv s2 ⟨y,H2,I2,r2,q2⟩=>?_))
  refine ai (Am (ai (eV (thn (hs pins s2 σ H2 x y v ov iv u _ I2 r1 r2 r q2) fun _ s3 ⟨H3,I3,q3⟩=>?_))))
  exact wpAny_release ⟨σ,H3,I3,q3⟩
def Ew (te:TE) (g:TG):TS:=fun D σ H=>te σ H fun x H1=>g x σ H1 D.nx
theorem vv {tg e:dv} {te:TE} {g:TG} (he:PE X e te) (hg:PG X tg g) (hs:swapsWithSole [tg] e pos.line X.env=pure false:=by rfl) (hw:swappedStores [tg] e X.env=pure none:=by rfl)
    (h1:(kD [tg] X.env).map (·.2)=[vn tg X.env]:=by rfl):PS X (.Assign [tg] e pos) (Ew te g):=by
  intro pins s σ H D I h
  refine wpAny_Assign_stores (thn (he pins s σ H _ I h) fun v s1 ⟨x,H1,I1,r1,q1⟩=>?_) hs hw
  rw [h1]
  exact thn (hg pins s1 σ H1 x v _ I1 r1 q1) fun _ s2 q=>q
theorem bF {i:Nat} {x:Str} {e:dv} {te:TE} {pos':Pos} (hN:X.N.Nodup) (hi:X.N[i]?=some x) (hx:Loc X.env.scope x) (he:PE X e te) (hs:rn e (some (.Name x pos')) pos.line X.env=pure false:=by rfl) (hf:X.fn x=true\/X.env.scope.names.lookup x=some .local:=by first | exact .inl rfl | exact .inr rfl | assumption) :
    PS X (.Assign [.Name x pos'] e pos) (Ew te (zb i)):=by
  intro pins s σ H D I h
  refine wpAny_Assign_Name (thn (he pins s σ H _ I h) fun v s1 ⟨y,H1,I1,r1,q1⟩=>?_) hs
  exact pU I1 hN hi hx r1 (fun s2 I2=>⟨_,H1,I2,q1⟩) hf
end
section
variable {X:Cx} {pos:Pos}
def Bt (c:TT) (tb:TS):TS:=fun D σ H=>∃ W:Nat->St->Hp->Prop,(∃ m,W m σ H)/\∀ m σ H,W m σ H ->
  c σ H fun b H1=>if b=true then ∃ N:St->Hp->Prop,(∀ σ' H',N σ' H'->∃ m',m' < m/\W m' σ' H')/\tb {D with nx:=N,ct:=N,bk:=D.nx} σ H1 else D.nx σ H1
theorem wM {c:dv} {body:List dP} {tc:TT} {tb:TS} (hp:PassesOwn (bD X.prog X.w) X.A X.env X.xe) (hc:PT X c tc) (hb:PSs X body tb):PS X (.While c body [] pos) (Bt tc tb):=by
  intro pins s σ H D I h
  obtain ⟨W,⟨m0,w0⟩,turn⟩:=h
  refine wpAny_While (codeAny_whileLoop (fun n s'=>∃ σ' H',Inv X pins σ' H' s'/\W n σ' H') ?_ m0 ⟨σ,H,I,w0⟩)
  rintro n s1 ⟨σ1,H1,I1,w1⟩
  refine iI hp (thn (hc pins s1 σ1 H1 _ I1 (turn n σ1 H1 w1)) fun b s2 ⟨H2,I2,q2⟩=>?_)
  cases b with
  | true =>
    obtain ⟨N,hN,q2⟩:=q2
    rw [if_pos rfl]
    refine iI hp (thn (hb pins s2 σ1 H2 _ I2 q2) fun f s3 q3=>?_)
    cases f with
    | next =>
      obtain ⟨σ3,H3,I3,n3⟩:=q3
      obtain ⟨m',hm,w3⟩:=hN σ3 H3 n3
      exact ⟨m',hm,σ3,H3,I3,w3⟩
    | cont =>
      obtain ⟨σ3,H3,I3,n3⟩:=q3
      obtain ⟨m',hm,w3⟩:=hN σ3 H3 n3
      exact ⟨m',hm,σ3,H3,I3,w3⟩
    | brk=>exact q3
    | ret v=>exact q3
  | false =>
    rw [if_neg bU]
    exact pN ⟨σ1,H2,I2,q2⟩
end
structure It where
  go:Nat->Hp->Prop
  yld:Nat->Hp->V->Hp->Prop
  stop:Nat->Hp->Prop
def vw (X:Cx) (pins:List (ae×Obj)) (H:Hp) (b:ae):Prop:=
  H b=none/\b≠X.env.locals/\b∉X.fs/\(b∈X.ex\/X.s₀.heap.objs.size<=b)/\(∀ x c,X.env.cells.lookup x=some c->c≠b)/\∀ p∈X.pn++pins,p.1≠b
theorem Inv.fpOk {X:Cx} {pins:List (ae×Obj)} {σ:St} {H H':Hp} {s:aj} {b:ae} (I:Inv X pins σ H s) (hb:s.heap.objs.size<=b) (hn:H' b=none):vw X pins H' b:=by
  refine ⟨hn,nI (bE I.lt hb),I.nofs hb,.inr (cT I.sz hb),fun x c e z=>?_,fun p hp z=>?_⟩
  · obtain ⟨v,q⟩:=I.cell x c e
    exact absurd (bE q.lt (by rw [z]; exact hb)) (gU _)
  · exact absurd (bE (aT (I.pin p hp).1) (by rw [z]; exact hb)) (gU _)
structure An (P:aW) (w:bO) (K:ag) (tg:dv) (J:It) (fp:List ae) (it:ae) (tn:Nat->cE->Prop):Prop where
  mem:it∈fp
  obj:∀ i h,tn i h->∀ b∈fp,∃ o,h.get? b=some o/\∀ v,o.data≠.cell v
  keep:∀ i h h',tn i h->(∀ b∈fp,∀ o,h.get? b=some o->h'.get? b=some o)->tn i h'
  item:∀ (X:Cx),X.prog=P->X.w=w->X.K=K->X.calm=true->∀ (i:Nat) (pins:List (ae×Obj)) (s:aj) (σ:St) (H:Hp) (E:aa->aj->Prop),Inv X pins σ H s->(∀ b∈fp,vw X pins H b)->tn i s.heap->J.go i H ->
    aZ (bD P w) X.A (pyNext (.ref it)) (fun r s1=>∃ u,r=some u /\
      aZ (bD P w) X.A (pO tg (.ref it) u) (fun _ s2=>∃ x H',Inv X pins σ H' s2/\RelV x u/\J.yld i H x H'/\tn (i + 1) s2.heap/\∀ b∈fp,H' b=none) E s1) E s
  done:∀ (X:Cx),X.prog=P->X.w=w->X.K=K->X.calm=true->∀ (i:Nat) (pins:List (ae×Obj)) (s:aj) (σ:St) (H:Hp) (E:aa->aj->Prop),Inv X pins σ H s->(∀ b∈fp,vw X pins H b)->tn i s.heap->J.stop i H ->
    aZ (bD P w) X.A (pyNext (.ref it)) (fun r s1=>r=none/\Inv X pins σ H s1) E s
  self:∀ (A:bZ) (i:Nat) (s:aj) (Q:aa->aj->Prop) (E:aa->aj->Prop),tn i s.heap->Q (.ref it) s->aZ (bD P w) A (pyIter (.ref it)) Q E s
abbrev TI:=St->Hp->(It->Hp->Prop)->Prop
def PIE (X:Cx) (pins:List (ae×Obj)) (σ:St) (tg:dv) (R:It->Hp->Prop) (itv:aa) (s2:aj):Prop:=
  ∃ (it:ae) (fp:List ae) (tn:Nat->cE->Prop) (J:It) (H':Hp),itv=.ref it/\Inv X pins σ H' s2/\An X.prog X.w X.K tg J fp it tn/\tn 0 s2.heap/\(∀ b∈fp,vw X pins H' b)/\R J H'
def PI (X:Cx) (tg iter:dv) (wi:TI):Prop:=
  ∀ (pins:List (ae×Obj)) (s:aj) (σ:St) (H:Hp) (R:It->Hp->Prop),Inv X pins σ H s->wi σ H R ->
    aZ (bD X.prog X.w) X.A (fV iter X.env) (fun v s1=>aZ (bD X.prog X.w) X.A (pyIter v) (PIE X pins σ tg R) X.xe s1) X.xe s
theorem Bu {M:Et} {A:bZ} {E:aa->aj->Prop} {s:aj} {tg:dv} {it:ae} {u:aa} {o:Obj} {n:String} {vs:Array aa} {Q:Unit->aj->Prop} (ho:s.heap.get? it=some o) (hc:o.cls=.type n) (hd:o.data=.fields vs)
    (hn:["enumerate","zip","dict_itemiterator","dict_reverseitemiterator","odict_iterator","itertools.zip_longest","itertools.pairwise"].contains n=false) (hQ:Q () s):aZ M A (pO tg (.ref it) u) Q E s:=by
  unfold pO
  cases tg <;> first
    | exact aY hQ
    | (cases u <;> first
        | exact aY hQ
        | (refine ai (wpAny_load ho ?_)
           rw [hc,hd]
           show aZ M A (if (["enumerate","zip","dict_itemiterator","dict_reverseitemiterator","odict_iterator","itertools.zip_longest","itertools.pairwise"].contains n && vs[0]? == some (qH _))=true then _ else _) Q E s
           rw [if_neg (by intro h; rw [hn,Bool.false_and] at h; cases h)]
           exact aY hQ))
def Itl (K:ag) (a:ae):It:=
  ⟨fun i H=>∃ xs x,SqL K H a xs/\xs[i]?=some x,fun i H x H'=>H'=H/\∀ xs,SqL K H a xs->xs[i]?=some x,fun i H=>∃ xs,SqL K H a xs/\xs.length<=i⟩
def Itt (K:ag) (a:ae):It:=
  ⟨fun i H=>∃ xs x,SqT K H a xs/\xs[i]?=some x,fun i H x H'=>H'=H/\∀ xs,SqT K H a xs->xs[i]?=some x,fun i H=>∃ xs,SqT K H a xs/\xs.length<=i⟩
def Itr (lo:Int) (n:Nat):It:=⟨fun i _=>i < n,fun i H x H'=>H'=H/\x=.int (lo + i),fun i _=>n<=i⟩
theorem Ao {P:aW} {w:bO} {K:ag} {tg:dv} (a it:ae):An P w K tg (Itl K a) [it] it (fun i h=>h.IsListIter it a i) where
  mem:=by simp
  obj:=fun i h st b hb=>by
    have e:b=it:=by simpa using hb
    subst e
    obtain ⟨o,e,c,d⟩:=st
    exact ⟨o,e,fun v z=>by rw [d] at z; cases z⟩
  keep:=fun i h h' st k=>st.at fun o e=>k it (by simp) o e
  item:=by
    intro X hP hw hK hc i pins s σ H E I hf st hg
    subst hP hw hK
    obtain ⟨xs,x,hq,hx⟩:=hg
    obtain ⟨its,rv,p,hz⟩:=I.list hq
    obtain ⟨u,hu,ru⟩:=rv.get hx
    obtain ⟨f0,f1,f2,f3,f4,f5⟩:=hf it (by simp)
    refine Bv st p.isList (x:=u) (by simpa using hu) fun h' st' sb=>?_
    have I1:Inv X pins σ H {s with heap:=h'}:=I.turned (t':=s.toks) (fun b o hb e=>(sb.2 b hb).trans e) f0 f1 f3 f4 f5
    obtain ⟨o,e,c,d⟩:=id st'
    exact ⟨u,rfl,Bu (s:={s with heap:=h'}) e c d (by decide) ⟨x,H,I1,ru,⟨rfl,fun ys hy=>by rw [I.list_inj hy hq]; exact hx⟩,st',fun b hb=>(hf b hb).1⟩⟩
  done:=by
    intro X hP hw hK hc i pins s σ H E I hf st hg
    subst hP hw hK
    obtain ⟨xs,hq,hx⟩:=hg
    obtain ⟨its,rv,p,hz⟩:=I.list hq
    obtain ⟨f0,f1,f2,f3,f4,f5⟩:=hf it (by simp)
    have hl:=rv.length
    exact Ei (I.ok.hd hc) st p.isList (by simp; omega) fun h' eb=>⟨rfl,I.turned (t':=s.toks) (fun b o hb e=>eb b o hb e) f0 f1 f3 f4 f5⟩
  self:=fun _ _ _ _ _ st h=>wpAny_pyIter_listiter st h
theorem xV {P:aW} {w:bO} {K:ag} {tg:dv} (a it:ae):An P w K tg (Itt K a) [it] it (fun i h=>h.IsTupleIter it a i) where
  mem:=by simp
  obj:=fun i h st b hb=>by
    have e:b=it:=by simpa using hb
    subst e
    obtain ⟨o,e,c,d⟩:=st
    exact ⟨o,e,fun v z=>by rw [d] at z; cases z⟩
  keep:=fun i h h' st k=>st.at fun o e=>k it (by simp) o e
  item:=by
    intro X hP hw hK hc i pins s σ H E I hf st hg
    subst hP hw hK
    obtain ⟨xs,x,hq,hx⟩:=hg
    obtain ⟨its,rv,p,hz⟩:=I.tuple hq
    obtain ⟨u,hu,ru⟩:=rv.get hx
    obtain ⟨f0,f1,f2,f3,f4,f5⟩:=hf it (by simp)
    refine wpAny_pyNext_tuple_item st (show s.heap.IsTuple a its.toArray from p) (x:=u) (by simpa using hu) fun h' st' sb=>?_
    have I1:Inv X pins σ H {s with heap:=h'}:=I.turned (t':=s.toks) (fun b o hb e=>(sb.2 b hb).trans e) f0 f1 f3 f4 f5
    obtain ⟨o,e,c,d⟩:=id st'
    exact ⟨u,rfl,Bu (s:={s with heap:=h'}) e c d (by decide) ⟨x,H,I1,ru,⟨rfl,fun ys hy=>by rw [I.tuple_inj hy hq]; exact hx⟩,st',fun b hb=>(hf b hb).1⟩⟩
  done:=by
    intro X hP hw hK hc i pins s σ H E I hf st hg
    subst hP hw hK
    obtain ⟨xs,hq,hx⟩:=hg
    obtain ⟨its,rv,p,hz⟩:=I.tuple hq
    obtain ⟨f0,f1,f2,f3,f4,f5⟩:=hf it (by simp)
    have hl:=rv.length
    exact wpAny_pyNext_tuple_end (I.ok.hd hc) st (show s.heap.IsTuple a its.toArray from p) (by simp; omega) fun h' eb=>⟨rfl,I.turned (t':=s.toks) (fun b o hb e=>eb b o hb e) f0 f1 f3 f4 f5⟩
  self:=fun _ _ _ _ _ st h=>wpAny_pyIter_tupleiter st h
theorem xW {P:aW} {w:bO} {K:ag} {tg:dv} (it:ae) (lo:Int) (n:Nat):An P w K tg (Itr lo n) [it] it (fun i h=>IsRangeIter h it (lo + (i:Nat) * 1) ((n:Int) - (i:Nat)) 1) where
  mem:=by simp
  obj:=fun i h st b hb=>by
    have e:b=it:=by simpa using hb
    subst e
    exact ⟨_,st,fun v z=>by
      have z':Data.fields _=Data.cell v:=z
      cases z'⟩
  keep:=fun i h h' st k=>k it (by simp) _ st
  item:=by
    intro X hP hw hK hc i pins s σ H E I hf st hg
    subst hP hw hK
    obtain ⟨f0,f1,f2,f3,f4,f5⟩:=hf it (by simp)
    have W:=Walks.range (prog:=X.prog) (w:=X.w) (I.ok.hd hc) it lo 1 n
    refine W.item i s _ _ hg st fun v h' tk hv st' kk=>?_
    obtain ⟨t,rfl⟩:=hv
    have I1:Inv X pins σ H {s with heap:=h',toks:=tk}:=I.turned (fun b o hb e=>kk b o (by simpa using hb) e) f0 f1 f3 f4 f5
    refine ⟨_,rfl,Bu (s:={s with heap:=h',toks:=tk}) (n:="range_iterator") st' rfl rfl (by decide) ⟨.int (lo + i),H,I1,⟨t,?_⟩,⟨rfl,rfl⟩,st',fun b hb=>(hf b hb).1⟩⟩
    rw [Int.mul_one]
  done:=by
    intro X hP hw hK hc i pins s σ H E I hf st hg
    subst hP hw hK
    obtain ⟨f0,f1,f2,f3,f4,f5⟩:=hf it (by simp)
    exact wpAny_pyNext_range_end (I.ok.hd hc) st (by have:n<=i:=hg; omega) fun h' eb=>⟨rfl,I.turned (t':=s.toks) (fun b o hb e=>eb b o hb e) f0 f1 f3 f4 f5⟩
  self:=fun _ _ _ _ _ st h=>wpAny_pyIter_rangeiter st h
end L2
namespace L2
open PySem PySem.Spec PyProof.Rows
section
variable {X:Cx} {tg:dv}
def Bw (K:ag) (tl:TE):TI:=fun σ H R=>tl σ H fun x H1=>∃ a,x=.ref a/\(∃ xs,SqL K H1 a xs)/\R (Itl K a) H1
def iTup (K:ag) (tl:TE):TI:=fun σ H R=>tl σ H fun x H1=>∃ a,x=.ref a/\(∃ xs,SqT K H1 a xs)/\R (Itt K a) H1
theorem ip {l:dv} {tl:TE} (hl:PE X l tl):PI X tg l (Bw X.K tl):=by
  intro pins s σ H R I h
  refine thn (hl pins s σ H _ I h) fun v s1 ⟨x,H1,I1,r1,q1⟩=>?_
  obtain ⟨a,e,⟨xs,hq⟩,q⟩:=q1
  subst e
  cases r1
  obtain ⟨its,rv,p,hz⟩:=I1.list hq
  refine JH p.isList ?_
  refine ⟨s1.heap.objs.size,[s1.heap.objs.size],_,_,H1,rfl,I1.kept (t':=s1.toks) fun b o e=>aQ _ e,Ao a _,⟨_,cB _ rfl,rfl,rfl⟩,fun b hb=>?_,q⟩
  have e:b=s1.heap.objs.size:=by simpa using hb
  subst e
  exact I1.fpOk (aL _) (I1.hok.fresh (aL _))
theorem HH {l:dv} {tl:TE} (hl:PE X l tl):PI X tg l (iTup X.K tl):=by
  intro pins s σ H R I h
  refine thn (hl pins s σ H _ I h) fun v s1 ⟨x,H1,I1,r1,q1⟩=>?_
  obtain ⟨a,e,⟨xs,hq⟩,q⟩:=q1
  subst e
  cases r1
  obtain ⟨its,rv,p,hz⟩:=I1.tuple hq
  refine wpAny_pyIter_tuple (show s1.heap.IsTuple a its.toArray from p) ?_
  refine ⟨s1.heap.objs.size,[s1.heap.objs.size],_,_,H1,rfl,I1.kept (t':=s1.toks) fun b o e=>aQ _ e,xV a _,⟨_,cB _ rfl,rfl,rfl⟩,fun b hb=>?_,q⟩
  have e:b=s1.heap.objs.size:=by simpa using hb
  subst e
  exact I1.fpOk (aL _) (I1.hok.fresh (aL _))
theorem Bx {pins:List (ae×Obj)} {σ:St} {H:Hp} {s:aj} {R:It->Hp->Prop} {E:aa->aj->Prop} {lo hi:Int} {t u v:Tok} {tk:Nat} (I:Inv X pins σ H s) (h1:-(2 ^ 62)<=lo) (h2:lo < 2 ^ 62) (h3:-(2 ^ 62)<=hi) (h4:hi < 2 ^ 62)
    (q:R (Itr lo (hi - lo).toNat) H):aZ (bD X.prog X.w) X.A (pyIter (.ref s.heap.objs.size)) (PIE X pins σ tg R) E {s with heap:=s.heap.push {cls:=.type "range",data:=.fields #[.int lo t,.int hi u,.int 1 v]},toks:=tk}:=by
  refine wpAny_pyIter_range (IsRange.new ..) (small_one h1 h2 h3 h4) ?_
  have I1:Inv X pins σ H {s with heap:=s.heap.push {cls:=.type "range",data:=.fields #[.int lo t,.int hi u,.int 1 v]},toks:=tk}:=I.kept fun b o e=>aQ _ e
  refine ⟨(s.heap.push {cls:=.type "range",data:=.fields #[.int lo t,.int hi u,.int 1 v]}).objs.size,[(s.heap.push {cls:=.type "range",data:=.fields #[.int lo t,.int hi u,.int 1 v]}).objs.size],_,_,H,rfl,
    I1.kept (t':=tk) fun b o e=>aQ _ e,xW _ lo (hi - lo).toNat,?_,fun b hb=>?_,q⟩
  · have e1:lo + ((0:Nat):Int) * 1=lo:=by simp
    have e2:(((hi - lo).toNat:Nat):Int) - ((0:Nat):Int)=Builtin.Range.rangeSize lo hi 1:=by rw [rangeSize_one]; split <;> omega
    show IsRangeIter _ _ (lo + ((0:Nat):Int) * 1) ((((hi - lo).toNat:Nat):Int) - ((0:Nat):Int)) 1
    rw [e1,e2]
    exact cB _ rfl
  · have e:b=(s.heap.push {cls:=.type "range",data:=.fields #[.int lo t,.int hi u,.int 1 v]}).objs.size:=by simpa using hb
    subst e
    exact I1.fpOk (aL _) (I1.hok.fresh (aL _))
def Gs (ta:TA):TI:=fun σ H R=>ta σ H fun vs H1=>∃ j:Int,vs=[.int j]/\-(2 ^ 62)<=j/\j < 2 ^ 62/\R (Itr 0 j.toNat) H1
theorem jK {a:dv} {ta:TA} {p pos:Pos} (hg:Gl X "range") (hm:X.mg "range"=none) (ha:PA X [a] ta) (hs:cH [a] X.env=[(false,fV a X.env)]:=by rfl):PI X tg (.Call (.Name "range" p) [a] [] pos) (Gs ta):=by
  intro pins s σ H R I h
  refine Call_ (qF I hg hm boot_range (jZ (thn (ha pos pins s σ H _ I h) fun us s1 ⟨vs,H1,I1,r1,q1⟩=>?_) hs rfl))
  obtain ⟨j,e,q1,q2,q⟩:=q1
  subst e
  cases r1 with
  | cons r rr =>
    cases rr
    obtain ⟨t,rfl⟩:=r
    exact call_range_1 (Bx I1 (by omega) (by omega) q1 q2 (by simpa using q))
def tFor (wi:TI) (g:TG) (tb:TS):TS:=fun D σ H=>wi σ H fun J H1=>∃ W:Nat->Nat->St->Hp->Prop,(∃ m,W 0 m σ H1)/\∀ i m σ H,W i m σ H ->
  (J.stop i H/\D.nx σ H)\/(J.go i H/\∃ N:St->Hp->Prop,(∀ σ' H',N σ' H'->∃ m',m' < m/\W (i + 1) m' σ' H')/\∀ x H',J.yld i H x H'->g x σ H' fun σ2 H2=>tb {D with nx:=N,ct:=N,bk:=D.nx} σ2 H2)
def qI (fp:List ae) (h:cE):List (ae×Obj):=fp.filterMap fun b=>(h.get? b).map fun o=>(b,o)
theorem mB {fp:List ae} {h:cE} {b:ae} {o:Obj} (hb:b∈fp) (e:h.get? b=some o):(b,o)∈qI fp h:=qx.mpr ⟨b,hb,by rw [e]; rfl⟩
theorem Ap {fp:List ae} {h:cE} {p:ae×Obj} (hp:p∈qI fp h):p.1∈fp/\h.get? p.1=some p.2:=by
  obtain ⟨b,hb,e⟩:=qx.mp hp
  cases q:h.get? b with
  | none=>rw [q] at e; cases e
  | some o =>
    rw [q] at e
    have e':(b,o)=p:=dR e
    subst e'
    exact ⟨hb,q⟩
theorem Inv.pinned {pins:List (ae×Obj)} {σ:St} {H:Hp} {s:aj} {fp:List ae} (I:Inv X pins σ H s) (hf:∀ b∈fp,vw X pins H b) (ho:∀ b∈fp,∃ o,s.heap.get? b=some o/\∀ v,o.data≠.cell v):Inv X (pins++qI fp s.heap) σ H s:=
  I.pins_of fun p hp=>(b8.mp hp).elim (fun z=>I.pin p (bC _ z)) fun z=>by
    obtain ⟨hb,e⟩:=Ap z
    obtain ⟨f0,f1,f2,_⟩:=hf p.1 hb
    obtain ⟨o,e',d⟩:=ho p.1 hb
    rw [e] at e'; cases e'
    exact ⟨e,f0,f1,f2,d⟩
theorem Inv.unpinned {pins pl:List (ae×Obj)} {σ:St} {H:Hp} {s:aj} (I:Inv X (pins++pl) σ H s):Inv X pins σ H s:=I.pins_of fun p hp=>I.pin p (bC _ (fZ _ hp))
theorem iz {iter:dv} {body:List dP} {wi:TI} {g:TG} {tb:TS} {pos:Pos} (hp:PassesOwn (bD X.prog X.w) X.A X.env X.xe) (hc:X.calm=true) (hi:PI X tg iter wi) (hg:PG X tg g) (hb:PSs X body tb)
    (hs:∀ x,nv iter X.env x=pure x:=by intro _; rfl):PS X (.For tg iter body [] pos) (tFor wi g tb):=by
  intro pins s σ H D I h
  refine wpAny_For (thn (hi pins s σ H _ I h) fun v s1 h1=>thn h1 fun itv s2 h2=>?_) hs
  obtain ⟨it,fp,tn,J,H2,e,I2,T,st2,f2,W,⟨m0,w0⟩,turn⟩:=h2
  subst e
  -- what stays true of the iterator's objects through the loop
  have stat:∀ {H':Hp},(∀ b∈fp,H' b=none)->∀ b∈fp,vw X pins H' b:=fun hn b hb=>⟨hn b hb,(f2 b hb).2⟩
  refine codeAny_forLoop_any (fun n s'=>∃ i σ' H',Inv X pins σ' H' s'/\tn i s'.heap/\(∀ b∈fp,H' b=none)/\W i n σ' H') ?_ m0 ⟨0,σ,H2,I2,st2,fun b hb=>(f2 b hb).1,w0⟩
  rintro n s3 ⟨i,σ3,H3,I3,st3,fr3,w3⟩
  rcases turn i n σ3 H3 w3 with ⟨stop,qn⟩ | ⟨go,N,hN,step⟩
  · refine iI hp (thn (T.done X rfl rfl rfl hc i pins s3 σ3 H3 X.xe I3 (stat fr3) st3 stop) fun r s4 ⟨hr,I4⟩=>?_)
    subst hr
    exact pN ⟨σ3,H3,I4,qn⟩
  · refine iI hp (thn (T.item X rfl rfl rfl hc i pins s3 σ3 H3 X.xe I3 (stat fr3) st3 go) fun r s4 ⟨u,hr,h4⟩=>?_)
    subst hr
    refine iI hp (thn h4 fun _ s5 ⟨x,H5,I5,r5,y5,st5,fr5⟩=>?_)
    have I5':=I5.pinned (stat fr5) (T.obj _ _ st5)
    refine iI hp (thn (hg _ s5 σ3 H5 x u _ I5' r5 (step x H5 y5)) fun _ s6 ⟨σ6,H6,I6,q6⟩=>?_)
    refine iI hp (thn (hb _ s6 σ6 H6 _ I6 q6) fun f s7 q7=>?_)
    have again:∀ {σ7:St} {H7:Hp},Inv X (pins++qI fp s5.heap) σ7 H7 s7->N σ7 H7->∃ m,m < n/\∃ i σ' H',Inv X pins σ' H' s7/\tn i s7.heap/\(∀ b∈fp,H' b=none)/\W i m σ' H':=fun {σ7 H7} I7 n7=>by
      obtain ⟨m',hm,w7⟩:=hN σ7 H7 n7
      refine ⟨m',hm,i + 1,σ7,H7,I7.unpinned,T.keep _ _ _ st5 fun b hb o e=>(I7.pin (b,o) (bC _ (bC _ (mB hb e)))).1,fun b hb=>?_,w7⟩
      obtain ⟨o,e,d⟩:=T.obj _ _ st5 b hb
      exact (I7.pin (b,o) (bC _ (bC _ (mB hb e)))).2.1
    cases f with
    | next=>obtain ⟨σ7,H7,I7,n7⟩:=q7; exact again I7 n7
    | cont=>obtain ⟨σ7,H7,I7,n7⟩:=q7; exact again I7 n7
    | brk=>obtain ⟨σ7,H7,I7,q7⟩:=q7; exact ⟨σ7,H7,I7.unpinned,q7⟩
    | ret v=>obtain ⟨x7,σ7,H7,I7,r7,q7⟩:=q7; exact ⟨x7,σ7,H7,I7.unpinned,r7,q7⟩
end
theorem iY {K:ag} {a:ae} {xs:List V} {g:TG} {tb:TS} {D:kU} {σ:St} {H:Hp} (Pv:Nat->St->Hp->Prop) (h0:Pv 0 σ H) (hl:∀ i σ H,i<=xs.length->Pv i σ H->SqL K H a xs)
    (hs:∀ i x σ H,xs[i]?=some x->Pv i σ H->g x σ H fun σ2 H2=>tb {D with nx:=Pv (i + 1),ct:=Pv (i + 1),bk:=D.nx} σ2 H2) (hd:∀ σ H,Pv xs.length σ H->D.nx σ H) :
    ∃ W:Nat->Nat->St->Hp->Prop,(∃ m,W 0 m σ H)/\∀ i m σ H,W i m σ H ->
      ((Itl K a).stop i H/\D.nx σ H)\/((Itl K a).go i H/\∃ N:St->Hp->Prop,(∀ σ' H',N σ' H'->∃ m',m' < m/\W (i + 1) m' σ' H')/\∀ x H',(Itl K a).yld i H x H'->g x σ H' fun σ2 H2=>tb {D with nx:=N,ct:=N,bk:=D.nx} σ2 H2):=by
  refine ⟨fun i m σ H=>m=xs.length - i/\i<=xs.length/\Pv i σ H,⟨xs.length,by simp,bK _,h0⟩,?_⟩
  rintro i m σ H ⟨rfl,hi,p⟩
  have q:=hl i σ H hi p
  by_cases hlt:i < xs.length
  · refine .inr ⟨⟨xs,xs[i],q,by simp [hlt]⟩,Pv (i + 1),fun σ' H' p'=>⟨xs.length - (i + 1),by omega,rfl,hlt,p'⟩,fun x H' y=>?_⟩
    obtain ⟨e,y⟩:=y
    subst e
    exact hs i x σ _ (y xs q) p
  · have e:i=xs.length:=by omega
    subst e
    exact .inl ⟨⟨xs,q,aL _⟩,hd σ H p⟩
theorem kA {lo:Int} {n:Nat} {g:TG} {tb:TS} {D:kU} {σ:St} {H:Hp} (Pv:Nat->St->Hp->Prop) (h0:Pv 0 σ H)
    (hs:∀ i σ H,i < n->Pv i σ H->g (.int (lo + i)) σ H fun σ2 H2=>tb {D with nx:=Pv (i + 1),ct:=Pv (i + 1),bk:=D.nx} σ2 H2) (hd:∀ σ H,Pv n σ H->D.nx σ H) :
    ∃ W:Nat->Nat->St->Hp->Prop,(∃ m,W 0 m σ H)/\∀ i m σ H,W i m σ H ->
      ((Itr lo n).stop i H/\D.nx σ H)\/((Itr lo n).go i H/\∃ N:St->Hp->Prop,(∀ σ' H',N σ' H'->∃ m',m' < m/\W (i + 1) m' σ' H')/\∀ x H',(Itr lo n).yld i H x H'->g x σ H' fun σ2 H2=>tb {D with nx:=N,ct:=N,bk:=D.nx} σ2 H2):=by
  refine ⟨fun i m σ H=>m=n - i/\i<=n/\Pv i σ H,⟨n,by simp,bK _,h0⟩,?_⟩
  rintro i m σ H ⟨rfl,hi,p⟩
  by_cases hlt:i < n
  · refine .inr ⟨hlt,Pv (i + 1),fun σ' H' p'=>⟨n - (i + 1),by omega,rfl,hlt,p'⟩,fun x H' y=>?_⟩
    obtain ⟨e,y⟩:=y
    subst e y
    exact hs i σ _ hlt p
  · have e:i=n:=by omega
    subst e
    exact .inl ⟨aL _,hd σ H p⟩
theorem wN {c:TT} {tb:TS} {D:kU} {σ:St} {H:Hp} (Pv:St->Hp->Prop) (μ:St->Hp->Nat) (h0:Pv σ H)
    (hs:∀ σ H,Pv σ H->c σ H fun b H1=>if b=true then tb {D with nx:=fun σ' H'=>Pv σ' H'/\μ σ' H' < μ σ H,ct:=fun σ' H'=>Pv σ' H'/\μ σ' H' < μ σ H,bk:=D.nx} σ H1 else D.nx σ H1)
    (mono:∀ σ H Q Q',(∀ b H1,Q b H1->Q' b H1)->c σ H Q->c σ H Q'):Bt c tb D σ H:=by
  refine ⟨fun m σ H=>m=μ σ H/\Pv σ H,⟨_,rfl,h0⟩,?_⟩
  rintro m σ H ⟨rfl,p⟩
  refine mono σ H _ _ (fun b H1 q=>?_) (hs σ H p)
  cases b with
  | true=>exact ⟨_,fun σ' H' ⟨p',l⟩=>⟨_,l,rfl,p'⟩,q⟩
  | false=>exact q
end L2
namespace L2
open PySem PySem.Spec PyProof.Rows
abbrev R2:=V->V->Hp->VK->Prop
def OpR (X:Cx) (f:aa->aa->Sem aa) (r:R2):Prop:=
  ∀ (pins:List (ae×Obj)) (s:aj) (σ:St) (H:Hp) (x y:V) (v u:aa) (Q:VK),Inv X pins σ H s->RelV x v->RelV y u->r x y H Q ->
    aZ (bD X.prog X.w) X.A (f v u) (EP X pins σ Q) X.xe s
def UnR (X:Cx) (f:aa->Sem aa) (r:V->Hp->VK->Prop):Prop:=
  ∀ (pins:List (ae×Obj)) (s:aj) (σ:St) (H:Hp) (x:V) (v:aa) (Q:VK),Inv X pins σ H s->RelV x v->r x H Q ->
    aZ (bD X.prog X.w) X.A (f v) (EP X pins σ Q) X.xe s
def mY (X:Cx) (f:aa) (r:List V->Hp->VK->Prop):Prop:=
  ∀ (pins:List (ae×Obj)) (s:aj) (σ:St) (H:Hp) (xs:List V) (us:List aa) (Q:VK),Inv X pins σ H s->df xs us->r xs H Q ->
    aZ (bD X.prog X.w) X.A (vx f us) (EP X pins σ Q) X.xe s
def TruR (X:Cx) (r:V->Hp->(Bool->Hp->Prop)->Prop):Prop:=
  ∀ (pins:List (ae×Obj)) (s:aj) (σ:St) (H:Hp) (x:V) (v:aa) (Q:Bool->Hp->Prop),Inv X pins σ H s->RelV x v->r x H Q ->
    aZ (bD X.prog X.w) X.A (truthy v) (TP X pins σ Q) X.xe s
def tOp (r:R2) (ta tb:TE):TE:=fun σ H Q=>ta σ H fun x H1=>tb σ H1 fun y H2=>r x y H2 Q
def tUn (r:V->Hp->VK->Prop) (ta:TE):TE:=fun σ H Q=>ta σ H fun x H1=>r x H1 Q
def rI (C:Int->Int->Prop) (g:Int->Int->V):R2:=fun x y H Q=>∃ i j,x=.int i/\y=.int j/\C i j/\Q (g i j) H
def rI0 (g:Int->Int->V):R2:=fun x y H Q=>∃ i j,x=.int i/\y=.int j/\Q (g i j) H
def rU (g:Int->V):V->Hp->VK->Prop:=fun x H Q=>∃ i,x=.int i/\Q (g i) H
section
variable {X:Cx} {a b c:dv} {ta tb tc:TE} {pos:Pos}
theorem HI (ha:PE X a ta) (hb:PE X b tb) {pins:List (ae×Obj)} {s:aj} {σ:St} {H:Hp} {R:V->V->Hp->Prop} (I:Inv X pins σ H s)
    (h:ta σ H fun x H1=>tb σ H1 fun y H2=>R x y H2) {Q:aa->aj->Prop} {f:aa->aa->Sem aa}
    (hf:∀ v u s2 x y H2,Inv X pins σ H2 s2->RelV x v->RelV y u->R x y H2->aZ (bD X.prog X.w) X.A (f v u) Q X.xe s2) :
    aZ (bD X.prog X.w) X.A (fV a X.env) (fun v s₁=>aZ (bD X.prog X.w) X.A (fV b X.env) (fun u s₂=>aZ (bD X.prog X.w) X.A (f v u) Q X.xe s₂) X.xe s₁) X.xe s:=by
  refine thn (ha pins s σ H _ I h) fun v s1 ⟨x,H1,I1,r1,q1⟩=>?_
  refine thn (hb pins s1 σ H1 _ I1 q1) fun u s2 ⟨y,H2,I2,r2,q2⟩=>?_
  exact hf v u s2 x y H2 I2 r1 r2 q2
theorem cL {op:Ex} {r:R2} (ho:OpR X (ij op) r) (ha:PE X a ta) (hb:PE X b tb):PE X (.BinOp a op b pos) (tOp r ta tb):=by
  intro pins s σ H Q I h
  exact wpAny_BinOp (HI ha hb I h fun v u s2 x y H2 I2 rx ry q=>ho pins s2 σ H2 x y v u Q I2 rx ry q)
theorem By {op:UnaryOp} {r:V->Hp->VK->Prop} (ho:UnR X (unaryOp op) r) (ha:PE X a ta):PE X (.UnaryOp op a pos) (tUn r ta):=by
  intro pins s σ H Q I h
  exact UnaryOp_ (thn (ha pins s σ H _ I h) fun v s1 ⟨x,H1,I1,r1,q1⟩=>ho pins s1 σ H1 x v Q I1 r1 q1)
theorem opI {f:aa->aa->Sem aa} {C:Int->Int->Prop} {g:Int->Int->Int}
    (Ey:∀ (i j:Int) (t u:Tok) (s:aj) (Q:aa->aj->Prop) (E:aa->aj->Prop),C i j->Q (.int (g i j) s.toks) {s with toks:=s.toks + 1}->aZ (bD X.prog X.w) X.A (f (.int i t) (.int j u)) Q E s) :
    OpR X f (rI C fun i j=>.int (g i j)):=by
  intro pins s σ H x y v u Q I rx ry h
  obtain ⟨i,j,rfl,rfl,hc,q⟩:=h
  obtain ⟨t,rfl⟩:=rx
  obtain ⟨t',rfl⟩:=ry
  exact Ey i j t t' s _ _ hc ⟨.int (g i j),H,I.tok _,⟨_,rfl⟩,q⟩
theorem opI0 {f:aa->aa->Sem aa} {g:Int->Int->Int}
    (Ey:∀ (i j:Int) (t u:Tok) (s:aj) (Q:aa->aj->Prop) (E:aa->aj->Prop),Q (.int (g i j) s.toks) {s with toks:=s.toks + 1}->aZ (bD X.prog X.w) X.A (f (.int i t) (.int j u)) Q E s) :
    OpR X f (rI0 fun i j=>.int (g i j)):=by
  intro pins s σ H x y v u Q I rx ry h
  obtain ⟨i,j,rfl,rfl,q⟩:=h
  obtain ⟨t,rfl⟩:=rx
  obtain ⟨t',rfl⟩:=ry
  exact Ey i j t t' s _ _ ⟨.int (g i j),H,I.tok _,⟨_,rfl⟩,q⟩
theorem Ez {f:aa->aa->Sem aa} {g:Int->Int->Bool}
    (Ey:∀ (i j:Int) (t u:Tok) (s:aj) (Q:aa->aj->Prop) (E:aa->aj->Prop),Q (.bool (g i j)) s->aZ (bD X.prog X.w) X.A (f (.int i t) (.int j u)) Q E s) :
    OpR X f (rI0 fun i j=>.bl (g i j)):=by
  intro pins s σ H x y v u Q I rx ry h
  obtain ⟨i,j,rfl,rfl,q⟩:=h
  obtain ⟨t,rfl⟩:=rx
  obtain ⟨t',rfl⟩:=ry
  exact Ey i j t t' s _ _ ⟨.bl (g i j),H,I,rfl,q⟩
def CDiv (i j:Int):Prop:=0 < j/\j < 1073741824
def wO (i j:Int):Prop:=0<=j/\j<=1000000/\i.natAbs < 2 ^ 64
def HJ (i j:Int):Prop:=(-(2 ^ 64) < i/\i < 2 ^ 64)\/(-(2 ^ 64) < j/\j < 2 ^ 64)
theorem HJ.ok {i j:Int} (h:HJ i j):IntMulOk i j:=by
  rcases h with ⟨h1,h2⟩ | ⟨h1,h2⟩
  · exact .of_left (intBits_le_64 h1 h2)
  · exact .of_right (intBits_le_64 h1 h2)
theorem gW:OpR X (ij .Add) (rI0 fun i j=>.int (i + j)):=opI0 fun _ _ _ _ _ _ _ q=>add_int q
theorem jc:OpR X (ij .Sub) (rI0 fun i j=>.int (i - j)):=opI0 fun _ _ _ _ _ _ _ q=>sub_int q
theorem mC:OpR X (ij .Mult) (rI HJ fun i j=>.int (i * j)):=opI fun _ _ _ _ _ _ _ hc q=>mul_int q hc.ok
theorem EA:OpR X (ij .FloorDiv) (rI CDiv fun i j=>.int (i / j)):=opI fun i j _ _ _ _ _ hc q=>by
  have h1:(0:Int) < j:=hc.1
  have h2:j < 1073741824:=hc.2
  exact Bz (by omega) (by rw [vy i (by omega)]; exact q) (.inl (PyProof.noPylong_small (by omega)))
theorem nJ:OpR X (ij .Mod) (rI (fun _ j=>0 < j) fun i j=>.int (i % j)):=opI fun i j _ _ _ _ _ hc q=>by
  have h1:(0:Int) < j:=hc
  exact mod_int' (by omega) (by rw [Int.fmod_eq_emod_of_nonneg i (by omega)]; exact q)
theorem EB:OpR X (ij .Mod) (rI (fun _ j=>j≠0) fun i j=>.int (i.fmod j)):=opI fun _ _ _ _ _ _ _ hc q=>mod_int' hc q
theorem mE:OpR X (ij .Pow) (rI wO fun i j=>.int (i ^ j.toNat)):=opI fun _ _ _ _ _ _ _ hc q=>pow_int_small hc.1 hc.2.1 hc.2.2 q
theorem unI {f:aa->Sem aa} {g:Int->Int}
    (Ey:∀ (i:Int) (t:Tok) (s:aj) (Q:aa->aj->Prop) (E:aa->aj->Prop),Q (.int (g i) s.toks) {s with toks:=s.toks + 1}->aZ (bD X.prog X.w) X.A (f (.int i t)) Q E s) :
    UnR X f (rU fun i=>.int (g i)):=by
  intro pins s σ H x v Q I rx h
  obtain ⟨i,rfl,q⟩:=h
  obtain ⟨t,rfl⟩:=rx
  exact Ey i t s _ _ ⟨.int (g i),H,I.tok _,⟨_,rfl⟩,q⟩
theorem xX:UnR X (unaryOp .USub) (rU fun i=>.int (-i)):=unI fun _ _ _ _ _ q=>neg_int q
end
def scal:V->V->Bool
  | .non,.non=>true | .non,.int _=>true | .int _,.non=>true | .non,.bl _=>true | .bl _,.non=>true | .non,.str _=>true | .str _,.non=>true
  | .int _,.int _=>true | .bl _,.bl _=>true | .str _,.str _=>true | .byt _,.byt _=>true
  | .int _,.str _=>true | .str _,.int _=>true | .bl _,.str _=>true | .str _,.bl _=>true
  | _,_=>false
def rEq:R2:=fun x y H Q=>scal x y=true/\Q (.bl (decide (x=y))) H
def rNe:R2:=fun x y H Q=>scal x y=true/\Q (.bl (!decide (x=y))) H
theorem zc {i j:Int}:decide (V.int i=V.int j)=(i == j):=by
  rw [nK]
  simp
theorem BA {i j:Bool}:decide (V.bl i=V.bl j)=(i == j):=by
  rw [nK]
  simp
theorem zd {i j:Str}:decide (V.str i=V.str j)=(i == j):=by
  rw [nK]
  simp
theorem ze {i j:Array UInt8}:decide (V.byt i=V.byt j)=(i.toList == j.toList):=by
  rw [nK]
  cases i
  cases j
  simp
section
variable {X:Cx} {a b c:dv} {ta tb tc:TE} {pos:Pos}
theorem eW {pins:List (ae×Obj)} {σ:St} {H:Hp} {s:aj} {Q:VK} {k k':Bool} (I:Inv X pins σ H s) (q:Q (.bl k) H) (e:k=k'):EP X pins σ Q (.bool k') s:=by
  subst e
  exact ⟨.bl k,H,I,rfl,q⟩
theorem eO:OpR X (dI .Eq) rEq:=by
  intro pins s σ H x y v u Q I rx ry h
  obtain ⟨hs,q⟩:=h
  cases x with
  | non =>
    cases rx
    cases y with
    | non=>cases ry; exact PySem.EqNone.eq_none_none (eW I q (by simp))
    | bl j=>cases ry; exact PySem.EqNone.eq_none_bool (eW I q (by simp))
    | int j=>obtain ⟨t',rfl⟩:=ry; exact PySem.EqNone.eq_none_int (eW I q (by simp))
    | str j=>obtain ⟨t',rfl⟩:=ry; exact PySem.EqNone.eq_none_str (eW I q (by simp))
    | _=>exact absurd (show false=true from hs) bU
  | bl i =>
    cases rx
    cases y with
    | non=>cases ry; exact PySem.EqNone.eq_bool_none (eW I q (by simp))
    | bl j=>cases ry; exact eq_bool (eW I q BA)
    | str j=>obtain ⟨t',rfl⟩:=ry; exact PySem.EqMixed.eq_bool_str (eW I q (by simp))
    | _=>exact absurd (show false=true from hs) bU
  | int i =>
    obtain ⟨t,rfl⟩:=rx
    cases y with
    | non=>cases ry; exact PySem.EqNone.eq_int_none (eW I q (by simp))
    | int j=>obtain ⟨t',rfl⟩:=ry; exact eq_int (eW I q zc)
    | str j=>obtain ⟨t',rfl⟩:=ry; exact PySem.EqMixed.eq_int_str (eW I q (by simp))
    | _=>exact absurd (show false=true from hs) bU
  | str i =>
    obtain ⟨t,rfl⟩:=rx
    cases y with
    | non=>cases ry; exact PySem.EqNone.eq_str_none (eW I q (by simp))
    | bl j=>cases ry; exact PySem.EqMixed.eq_str_bool (eW I q (by simp))
    | int j=>obtain ⟨t',rfl⟩:=ry; exact PySem.EqMixed.eq_str_int (eW I q (by simp))
    | str j=>obtain ⟨t',rfl⟩:=ry; exact eq_str (eW I q zd)
    | _=>exact absurd (show false=true from hs) bU
  | byt i =>
    obtain ⟨t,rfl⟩:=rx
    cases y with
    | byt j=>obtain ⟨t',rfl⟩:=ry; exact PySem.W.eq_bytes (eW I q ze)
    | _=>exact absurd (show false=true from hs) bU
  | _=>cases y <;> exact absurd (show false=true from hs) bU
theorem Gu:OpR X (dI .NotEq) rNe:=by
  intro pins s σ H x y v u Q I rx ry h
  obtain ⟨hs,q⟩:=h
  cases x with
  | non =>
    cases rx
    cases y with
    | non=>cases ry; exact PySem.EqNone.ne_none_none (eW I q (by simp))
    | bl j=>cases ry; exact PySem.EqNone.ne_none_bool (eW I q (by simp))
    | int j=>obtain ⟨t',rfl⟩:=ry; exact PySem.EqNone.ne_none_int (eW I q (by simp))
    | str j=>obtain ⟨t',rfl⟩:=ry; exact PySem.EqNone.ne_none_str (eW I q (by simp))
    | _=>exact absurd (show false=true from hs) bU
  | bl i =>
    cases rx
    cases y with
    | non=>cases ry; exact PySem.EqNone.ne_bool_none (eW I q (by simp))
    | bl j=>cases ry; exact ne_bool (eW I q (congrArg not BA))
    | str j=>obtain ⟨t',rfl⟩:=ry; exact PySem.EqMixed.ne_bool_str (eW I q (by simp))
    | _=>exact absurd (show false=true from hs) bU
  | int i =>
    obtain ⟨t,rfl⟩:=rx
    cases y with
    | non=>cases ry; exact PySem.EqNone.ne_int_none (eW I q (by simp))
    | int j=>obtain ⟨t',rfl⟩:=ry; exact ne_int (eW I q (congrArg not zc))
    | str j=>obtain ⟨t',rfl⟩:=ry; exact PySem.EqMixed.ne_int_str (eW I q (by simp))
    | _=>exact absurd (show false=true from hs) bU
  | str i =>
    obtain ⟨t,rfl⟩:=rx
    cases y with
    | non=>cases ry; exact PySem.EqNone.ne_str_none (eW I q (by simp))
    | bl j=>cases ry; exact PySem.EqMixed.ne_str_bool (eW I q (by simp))
    | int j=>obtain ⟨t',rfl⟩:=ry; exact PySem.EqMixed.ne_str_int (eW I q (by simp))
    | str j=>obtain ⟨t',rfl⟩:=ry; exact ne_str (eW I q (congrArg not zd))
    | _=>exact absurd (show false=true from hs) bU
  | byt i =>
    obtain ⟨t,rfl⟩:=rx
    cases y with
    | byt j=>obtain ⟨t',rfl⟩:=ry; exact PySem.W.ne_bytes (eW I q (congrArg not ze))
    | _=>exact absurd (show false=true from hs) bU
  | _=>cases y <;> exact absurd (show false=true from hs) bU
theorem rp:OpR X (dI .Lt) (rI0 fun i j=>.bl (decide (i < j))):=Ez fun _ _ _ _ _ _ _ q=>lt_int q
theorem op_le:OpR X (dI .LtE) (rI0 fun i j=>.bl (decide (i<=j))):=Ez fun _ _ _ _ _ _ _ q=>le_int q
theorem mZ:OpR X (dI .Gt) (rI0 fun i j=>.bl (decide (j < i))):=Ez fun _ _ _ _ _ _ _ q=>gt_int q
theorem op_ge:OpR X (dI .GtE) (rI0 fun i j=>.bl (decide (j<=i))):=Ez fun _ _ _ _ _ _ _ q=>ge_int q
theorem cg (b:dv) {op:JF} (h:op≠.In:=by decide) (h2:op≠.NotIn:=by decide):jC op b=false:=by
  have e1:(op == CmpOp.In)=false:=by cases op <;> first | rfl | exact absurd rfl h
  have e2:(op == CmpOp.NotIn)=false:=by cases op <;> first | rfl | exact absurd rfl h2
  cases b <;> simp [jC,e1,e2]
theorem oJ {op:JF} {r:R2} (ho:OpR X (dI op) r) (ha:PE X a ta) (hb:PE X b tb) (hm:jC op b=false):PE X (.Compare a [op] [b] pos) (tOp r ta tb):=by
  intro pins s σ H Q I h
  exact wpAny_Compare1 (HI ha hb I h fun v u s2 x y H2 I2 rx ry q=>ho pins s2 σ H2 x y v u Q I2 rx ry q) hm
def uy (t:TE):TT:=fun σ H Q=>t σ H fun x H'=>∃ k,x=.bl k/\Q k H'
theorem bL {op:JF} {r:R2} (ho:OpR X (dI op) r) (ha:PE X a ta) (hb:PE X b tb) (hm:jC op b=false):PT X (.Compare a [op] [b] pos) (uy (tOp r ta tb)):=by
  intro pins s σ H Q I h
  refine Eh (thn (ha pins s σ H _ I h) fun v s1 ⟨x,H1,I1,r1,q1⟩=>thn (hb pins s1 σ H1 _ I1 q1) fun u s2 ⟨y,H2,I2,r2,q2⟩ =>
    thn (ho pins s2 σ H2 x y v u _ I2 r1 r2 q2) fun c s3 ⟨z,H3,I3,r3,k,e,q3⟩=>?_) hm
  subst e
  cases r3
  exact iU ⟨H3,I3,q3⟩
def TruV (K:ag) (x:V) (H:Hp) (k:Bool):Prop:=
  match x with
  | .non=>k=false
  | .bl b=>k=b
  | .int i=>k=(i != 0)
  | .str y=>y.length<=aJ/\k=((y.length:Int) != 0)
  | .byt y=>y.size<=aJ/\k=((y.size:Int) != 0)
  | .ref p=>(∃ xs,SqL K H p xs/\k=!xs.isEmpty)\/(∃ xs,SqT K H p xs/\k=!xs.isEmpty)\/∃ kvs,H p=some (.dK kvs)/\k=!kvs.isEmpty
  | _=>False
theorem xY {κ:Type} {kvs:List (κ×V)} {vs:List (κ×aa)} (r:KV kvs vs):(!vs.isEmpty)=!kvs.isEmpty:=by
  cases r <;> rfl
theorem sS {xs:List V} {its:List aa} (r:df xs its):(!its.toArray.isEmpty)=!xs.isEmpty:=by
  cases r <;> simp
theorem qJ:(aJ:Nat) < 2 ^ 63:=by rw [ny]; decide
theorem HK:TruR X (fun x H Q=>∃ k,TruV X.K x H k/\Q k H):=by
  intro pins s σ H x v Q I rx h
  obtain ⟨k,e,q⟩:=h
  have hl:=qJ
  have hs:aJ=16777216:=ny
  cases x with
  | non =>
    cases rx
    have e':k=false:=e
    subst e'
    exact truthy_none ⟨H,I,q⟩
  | bl b =>
    cases rx
    have e':k=b:=e
    subst e'
    exact iU ⟨H,I,q⟩
  | int i =>
    obtain ⟨t,rfl⟩:=rx
    have e':k=(i != 0):=e
    subst e'
    exact PySem.P.truthy_int ⟨H,I,q⟩
  | str y =>
    obtain ⟨t,rfl⟩:=rx
    obtain ⟨hy,e'⟩:y.length<=aJ/\k=((y.length:Int) != 0):=e
    subst e'
    exact PySem.P.truthy_str (by omega) ⟨H,I.tok _,q⟩
  | byt y =>
    obtain ⟨t,rfl⟩:=rx
    obtain ⟨hy,e'⟩:y.size<=aJ/\k=((y.size:Int) != 0):=e
    subst e'
    exact PySem.W.truthy_bytes (by omega) ⟨H,I.tok _,q⟩
  | ref p =>
    cases rx
    have e':(∃ xs,SqL X.K H p xs/\k=!xs.isEmpty)\/(∃ xs,SqT X.K H p xs/\k=!xs.isEmpty)\/∃ kvs,H p=some (.dK kvs)/\k=!kvs.isEmpty:=e
    rcases e' with ⟨xs,hx,e'⟩ | ⟨xs,hx,e'⟩ | ⟨kvs,hx,e'⟩
    · subst e'
      obtain ⟨its,r,pl,hz⟩:=I.list hx
      have hlen:=r.length
      exact wpAny_truthy_list pl.isList (by simp only [aD]; omega) ⟨H,I.tok _,by rw [sS r]; exact q⟩
    · subst e'
      obtain ⟨its,r,pl,hz⟩:=I.tuple hx
      have hlen:=r.length
      exact truthy_tuple pl (by simp only [aD]; omega) ⟨H,I.tok _,by rw [sS r]; exact q⟩
    · subst e'
      obtain ⟨hz,hS,vs,r,m⟩:kvs.length<=aJ/\(p == fu)=false/\∃ vs,KV kvs vs/\s.heap.DictOf (fX X.prog X.w) p vs:=I.hok p _ hx
      have hlen:kvs.length=vs.length:=bJ r
      exact wpAny_truthy_dict hS m (by omega) ⟨H,I.tok _,by rw [xY r]; exact q⟩
  | _=>exact (show False from e).elim
theorem sT (ha:PE X a ta) (he:∀ whole,Bn a X.env whole=(do let v <- whole; t8 a.pos; pB [v] (truthy v))) :
    PT X a (fun σ H Q=>ta σ H fun x H'=>∃ k,TruV X.K x H' k/\Q k H'):=by
  intro pins s σ H Q I h
  exact isTrue_plain (thn (ha pins s σ H _ I h) fun v s1 ⟨x,H1,I1,r1,q1⟩=>HK pins s1 σ H1 x v Q I1 r1 q1) (he _)
theorem xZ:OpR X (ij .Add) (fun x y H Q=>∃ i j,x=.str i/\y=.str j/\i.length + j.length<=aJ/\Q (.str (i++j)) H):=by
  intro pins s σ H x y v u Q I rx ry h
  obtain ⟨i,j,rfl,rfl,hz,q⟩:=h
  obtain ⟨t,rfl⟩:=rx
  obtain ⟨t',rfl⟩:=ry
  exact add_str (fun t' tk=>⟨.str (i++j),H,I.tok _,⟨_,rfl⟩,q⟩) hz
theorem vals1 {x:V} {us:List aa} (r:df [x] us):∃ u,us=[u]/\RelV x u:=by
  cases r with
  | cons r1 r2=>cases r2; exact ⟨_,rfl,r1⟩
theorem vals2 {x y:V} {us:List aa} (r:df [x,y] us):∃ u w',us=[u,w']/\RelV x u/\RelV y w':=by
  cases r with
  | cons r1 r2 =>
    cases r2 with
    | cons r3 r4=>cases r4; exact ⟨_,_,rfl,r1,r3⟩
theorem BB:mY X (.builtin "abs") (fun xs H Q=>∃ i,xs=[.int i]/\Q (.int (if i < 0 then -i else i)) H):=by
  intro pins s σ H xs us Q I r h
  obtain ⟨i,rfl,q⟩:=h
  obtain ⟨u,rfl,t,rfl⟩:=vals1 r
  exact call_abs_int fun u tk=>⟨.int (if i < 0 then -i else i),H,I.tok _,⟨_,rfl⟩,q⟩
theorem Aq (hc:X.calm=true):mY X (.builtin "max") (fun xs H Q=>∃ i j,xs=[.int i,.int j]/\Q (.int (if j > i then j else i)) H):=by
  intro pins s σ H xs us Q I r h
  obtain ⟨i,j,rfl,q⟩:=h
  obtain ⟨u,w',rfl,⟨t,rfl⟩,⟨t',rfl⟩⟩:=vals2 r
  refine max_two_ints (I.ok.hd hc) fun h' tk k=>⟨_,H,I.kept k,?_,q⟩
  by_cases hj:j > i
  · rw [if_pos hj,if_pos hj]; exact ⟨_,rfl⟩
  · rw [if_neg hj,if_neg hj]; exact ⟨_,rfl⟩
theorem uz:mY X (.type "int") (fun xs H Q=>(∃ i,xs=[.int i]/\Q (.int i) H)\/∃ k,xs=[.bl k]/\Q (.int (if k then 1 else 0)) H):=by
  intro pins s σ H xs us Q I r h
  rcases h with ⟨i,rfl,q⟩ | ⟨k,rfl,q⟩
  · obtain ⟨u,rfl,t,rfl⟩:=vals1 r
    exact call_int_int ⟨.int i,H,I,⟨_,rfl⟩,q⟩
  · obtain ⟨u,rfl,r1⟩:=vals1 r
    cases r1
    exact call_int_bool ⟨.int (if k then 1 else 0),H,I.tok _,⟨_,rfl⟩,q⟩
end
end L2
namespace L2
open PySem PySem.Spec PyProof.Rows
structure x5 (h:cE) (x dx C:ae) (mA:Str->Option aa):Prop where
  obj:h.get? x=some (gG C dx)
  ns:h.Ns1 dx mA
  ne:dx≠x
theorem Ar {h:cE} {dx:ae} {mA:Str->Option aa} (n:h.Ns1 dx mA):∃ od,h.get? dx=some od/\∀ name,nU name od=some (mA name):=by
  obtain ⟨o,es,ep,ho,hd,hk,_,hm⟩:=n
  refine ⟨o,ho,fun name=>?_⟩
  have e:=hm name
  unfold nsFind findBy at e
  rw [<- Array.find?_toList] at e
  unfold nU
  rw [hd]
  dsimp only
  split
  · rename_i y q
    rw [q] at e
    exact congrArg some e
  · rename_i q
    rw [q] at e
    have a:es.toList.any (·.refKey)=false:=by
      rw [List.any_eq_false]
      intro y hy
      obtain ⟨z,t,hkey⟩:=hk y (Array.mem_toList_iff.mp hy)
      simp [DictEntry.refKey,hkey]
    have a':¬ es.toList.any (·.refKey)=true:=by rw [a]; exact bU
    rw [if_neg a']
    exact congrArg some e
theorem x5.look {h:cE} {x dx C:ae} {mA:Str->Option aa} (I:x5 h x dx C mA):∃ od,sU h x (gG C dx) C (some od)/\∀ name,nU name od=some (mA name):=
  let ⟨od,ho,hl⟩:=Ar I.ns
  ⟨od,⟨I.obj,rfl,rfl,ho⟩,hl⟩
section
variable {prog:aW} {w:bO} {A:bZ} {E:aa->aj->Prop} {s:aj} {K:ag} {x dx C f:ae} {mA:Str->Option aa} {name:Str} {v:aa}
theorem EC {expr:Bool} {Q:aa->aj->Prop} (X:K.In s.heap) (I:x5 s.heap x dx C mA) (hg:fx K C name=true) (hh:gb K C=true)
    (ha:ay K (.ref C) name=some none) (hv:mA name=some v) (hv':As v=true) (h:Q v {s with toks:=s.toks + 1}) :
    aZ (bD prog w) A (getAttr (.ref x) name expr) Q E s:=by
  obtain ⟨od,J,hl⟩:=I.look
  exact PySem.W.get_value X J (o5 hg).1 (PySem.W.findObj_own hh ha rfl (by rw [hl,hv])) hv' h
theorem BC {pl:Sem Bool} {Q:aa×List aa->aj->Prop} (X:K.In s.heap) (I:x5 s.heap x dx C mA) (hg:fx K C name=true)
    (hf:ay K (.ref C) name=some (some (.ref f))) (ht:cR K (.ref f)=true) (hv:mA name=none) (h:Q (.ref f,[.ref x]) s) :
    aZ (bD prog w) A (mr (.ref x) name pl) Q E s:=by
  obtain ⟨od,J,hl⟩:=I.look
  exact PySem.W.method_fn X J (o5 hg).1 (o5 hg).2 hf (beq_iff_eq.mp ht) (by show (nU name od).map (·.isSome)=some false; rw [hl,hv]; rfl) h
theorem ED {ns:List Str} {Q:Unit->aj->Prop} (X:K.In s.heap) (I:x5 s.heap x dx C mA)
    (hs:ay K (.ref C) "__setattr__"=some (some (.builtin "object.__setattr__"))) (hp:gH K C=true) (ht:rM K C name=some none) (hh:gb K C=true)
    (hw:wL mA ns) (hsz:ns.length<=aJ)
    (h:∀ h',x5 h' x dx C (fun y=>if y=name then some v else mA y)->rm dx s.heap h'->Q () {s with heap:=h',toks:=s.toks + 2}) :
    aZ (bD prog w) A (setAttr (.ref x) name v) Q E s:=by
  obtain ⟨od,J,hl⟩:=I.look
  refine PySem.W.set_plain X J hs (PySem.W.osa_open (s:={s with toks:=s.toks + 1}) (r:=none) X J hp ht fun b=>?_)
  obtain ⟨cd,hc,hd'⟩:=PySem.W.any_some hh
  have hx:s.heap.get? x=some ⟨.ref C,some dx,.plain,#[]⟩:=I.obj
  refine ai (aY (ai (ai (wpAny_loadPart hx (ai (PySem.W.Looks.here (s:={s with toks:=s.toks + 1}) (PySem.W.looks_clsIn X hc) ?_))))))
  rw [hd']
  refine aY (a:=some dx) (ai (aY (ai ?_)))
  refine wpAny_nsSet1 (s:={s with toks:=s.toks + 1}) I.ns fun h' hn2 hs2=>?_
  obtain ⟨oD,esD,epD,hoD,hdD,hcD⟩:=hn2.count (PySem.Within.cons name v hw)
  refine ai (wpAny_lookBehind hoD (by rw [hdD]; exact pastItsLine_dict (cT hcD (by rw [bj]; omega))) ?_)
  exact aY (h _ ⟨(hs2.2 _ (fY I.ne)).trans I.obj,hn2,I.ne⟩ hs2)
theorem BD {R:HL->aj->Prop} {vs:List aa} {kw:List (Str×aa)} (X:K.In s.heap) (hm:hU K C=true)
    (hi:ay K (.ref C) "__init__"=some (some (.ref f))) (hf:BE K (.ref f)=some (.type "function"))
    (h:nA (bD prog w) (A.under (.builtin "type.__call__" ⟨.ref C :: vs,kw⟩)) (.call (.ref f) ⟨.ref (s.heap.objs.size + 1) :: vs,kw⟩) (PySem.W.InitBack (s.heap.objs.size + 1) R)
      {s with heap:=(s.heap.push e7).push (gG C s.heap.objs.size)}) :
    nA (bD prog w) A (.call (.ref C) ⟨vs,kw⟩) R s:=by
  obtain ⟨hh,g,d,t,os⟩:=s
  exact PySem.W.make_core (PySem.W.makes_of X hm) (j4 X hi) (fun self=>PySem.W.bind_fn X self hf) (.inl rfl) h
end
def dD (f:Str) (v:V):List (Str×V)->List (Str×V)
  | []=>[(f,v)]
  | (g,x) :: r=>if g=f then (g,v) :: r else (g,x) :: dD f v r
theorem nV (f g:Str) (v:V):∀ fs:List (Str×V),(dD f v fs).lookup g=if g=f then some v else fs.lookup g
  | []=>by
    show kl g [(f,v)]=_
    by_cases h:g=f
    · have hb:(g == f)=true:=beq_iff_eq.mpr h
      simp only [kl,hb,if_pos h]
    · have hb:(g == f)=false:=beq_eq_false_iff_ne.mpr h
      simp only [kl,hb,if_neg h]
  | (k,x) :: r=>by
    have ih:=nV f g v r
    rw [show dD f v ((k,x) :: r)=(if k=f then (k,v) :: r else (k,x) :: dD f v r) from rfl]
    by_cases hk:k=f
    · rw [if_pos hk]
      by_cases h:g=k
      · have hb:(g == k)=true:=beq_iff_eq.mpr h
        simp only [kl,hb,if_pos (h.trans hk)]
      · have hb:(g == k)=false:=beq_eq_false_iff_ne.mpr h
        simp only [kl,hb,if_neg (fun e:g=f=>h (e.trans hk.symm))]
    · rw [if_neg hk]
      by_cases h:g=k
      · have hb:(g == k)=true:=beq_iff_eq.mpr h
        simp only [kl,hb,if_neg (fun e:g=f=>hk (h.symm.trans e))]
      · have hb:(g == k)=false:=beq_eq_false_iff_ne.mpr h
        simp only [kl,hb]
        exact ih
theorem qK (f:Str) (v:V):∀ fs:List (Str×V),f∈(dD f v fs).map (·.1)/\∀ g,g∈fs.map (·.1)->g∈(dD f v fs).map (·.1)
  | []=>⟨by simp [dD],fun g h=>by simp at h⟩
  | (k,x) :: r=>by
    obtain ⟨i1,i2⟩:=qK f v r
    rw [show dD f v ((k,x) :: r)=(if k=f then (k,v) :: r else (k,x) :: dD f v r) from rfl]
    by_cases hk:k=f
    · rw [if_pos hk]
      subst hk
      exact ⟨by simp,fun g h=>by simpa using h⟩
    · rw [if_neg hk]
      refine ⟨?_,fun g h=>?_⟩
      · rw [cw]
        exact af _ i1
      · rw [cw] at h |-
        rcases ax.mp h with e | e
        · exact ax.mpr (.inl e)
        · exact af _ (i2 g e)
theorem rq (f:Str) (v:V):∀ fs:List (Str×V),(dD f v fs).length<=fs.length + 1
  | []=>by simp [dD]
  | (k,x) :: r=>by
    have ih:=rq f v r
    rw [show dD f v ((k,x) :: r)=(if k=f then (k,v) :: r else (k,x) :: dD f v r) from rfl]
    by_cases hk:k=f
    · rw [if_pos hk,bj,bj]; omega
    · rw [if_neg hk,bj,bj]; omega
theorem o4.some_of {v:V} {o:Option aa} (r:o4 (some v) o):∃ u,o=some u/\RelV v u:=by
  cases o with
  | none=>exact (show False from r).elim
  | some u=>exact ⟨u,rfl,r⟩
theorem o4.none_of {o:Option aa} (r:o4 none o):o=none:=by
  cases o with
  | none=>rfl
  | some u=>exact (show False from r).elim
theorem Au {v:V} {u:aa} (r:RelV v u):As u=true:=by
  cases v with
  | non=>cases (show u=Value.none from r); rfl
  | bl b=>cases (show u=Value.bool b from r); rfl
  | int i=>obtain ⟨t,e⟩:=(show ∃ t,u=Value.int i t from r); cases e; rfl
  | str x=>obtain ⟨t,e⟩:=(show ∃ t,u=Value.str x t from r); cases e; rfl
  | byt b=>obtain ⟨t,e⟩:=(show ∃ t,u=Value.bytes b t from r); cases e; rfl
  | flt b=>obtain ⟨t,e⟩:=(show ∃ t,u=Value.float b t from r); cases e; rfl
  | ref a=>cases (show u=Value.ref a from r); rfl
  | ty n=>cases (show u=Value.type n from r); rfl
section
variable {P:aW} {w:bO} {H H':Hp} {h h':cE} {a C dx:ae} {fs fs':List (Str×V)}
theorem rX (hok:HOk P w H h) (e:H a=some (.ins C dx fs)):∃ mA,x5 h a dx C mA/\(∀ f,o4 (fs.lookup f) (mA f))/\wL mA (fs.map (·.1))/\fs.length<=1000/\H dx=some (.own a):=by
  obtain ⟨d,z,ne,ob,mA,n,r,q⟩:=(show eM P w H h a (.ins C dx fs) from hok a _ e)
  exact ⟨mA,⟨ob,n,ne⟩,r,q,z,d⟩
end
structure Cls (K:ag) (C:ae):Prop where
  pg:fx K C pP=true
  hd:gb K C=true
  po:gH K C=true
  sa:ay K (.ref C) "__setattr__"=some (some (.builtin "object.__setattr__"))
theorem Cls.get {K:ag} {C:ae} (c:Cls K C) (f:Str):fx K C f=true:=c.pg
def e8 (K:ag) (C:ae) (f:Str):Prop:=ay K (.ref C) f=some none
theorem e8.taker {K:ag} {C:ae} {f:Str} (n:e8 K C f):rM K C f=some none:=by
  unfold rM
  rw [show ay K (.ref C) f=some none from n]
  rfl
structure j5 (K:ag) (C:ae) (m:Str) (f:ae):Prop where
  at_:ay K (.ref C) m=some (some (.ref f))
  fn:cR K (.ref f)=true
  kp:aE K (.ref f)=true
section
variable {X:Cx} {pins:List (ae×Obj)} {σ:St} {H:Hp} {s:aj} {a C dx:ae} {fs:List (Str×V)} {f:Str} {v:V} {A:bZ} {E:aa->aj->Prop}
theorem sV {b:Bool} {Q:aa->aj->Prop} (I:Inv X pins σ H s) (e:H a=some (.ins C dx fs)) (c:Cls X.K C) (n:e8 X.K C f) (l:fs.lookup f=some v)
    (h:∀ u s',Inv X pins σ H s'->RelV v u->Q u s'):aZ (bD X.prog X.w) A (getAttr (.ref a) f b) Q E s:=by
  obtain ⟨mA,O,r,_,_,_⟩:=rX I.hok e
  obtain ⟨u,hu,ru⟩:=o4.some_of (v:=v) (o:=mA f) (by rw [<- l]; exact r f)
  exact EC I.kIn O (c.get f) c.hd n hu (Au ru) (h u _ (I.tok _) ru)
theorem pC {m:Str} {g:ae} {pl:Sem Bool} {Q:aa×List aa->aj->Prop} (I:Inv X pins σ H s) (e:H a=some (.ins C dx fs)) (c:Cls X.K C) (k:j5 X.K C m g) (l:fs.lookup m=none)
    (h:Q (.ref g,[.ref a]) s):aZ (bD X.prog X.w) A (mr (.ref a) m pl) Q E s:=by
  obtain ⟨mA,O,r,_,_,_⟩:=rX I.hok e
  have hn:mA m=none:=o4.none_of (by rw [<- l]; exact r m)
  exact BC I.kIn O (c.get m) k.at_ k.fn hn h
theorem sW {y:V} {u:aa} {Q:Unit->aj->Prop} (I:Inv X pins σ H s) (e:H a=some (.ins C dx fs)) (c:Cls X.K C) (n:e8 X.K C f) (hl:fs.length < 1000) (ry:RelV y u)
    (h:∀ s',Inv X pins σ (upd H a (.ins C dx (dD f y fs))) s'->Q () s'):aZ (bD X.prog X.w) A (setAttr (.ref a) f u) Q E s:=by
  obtain ⟨mA,O,r,wi,_,ho⟩:=rX I.hok e
  have hz:(fs.map (·.1)).length<=aJ:=by rw [ah,ny]; omega
  refine ED I.kIn O c.sa c.po n.taker c.hd wi hz fun h' O' sb=>h _ ?_
  have hd:∃ o,h'.get? dx=some o:=let ⟨o,_,_,e',_⟩:=O'.ns; ⟨o,e'⟩
  refine I.write (x:=a) (e:=dx) (by rw [e]; exact True.intro) (.inr ho) (fun b q hb z=>(sb.2 b hb).trans z) hd ?_
  refine ⟨by rw [aV O.ne]; exact ho,?_,O.ne,O'.obj,_,O'.ns,fun g=>?_,fun g hg=>?_⟩
  · have:=rq f y fs; omega
  · show o4 ((dD f y fs).lookup g) (if g=f then some u else mA g)
    rw [nV]
    by_cases q:g=f
    · rw [if_pos q,if_pos q]; exact ry
    · rw [if_neg q,if_neg q]; exact r g
  · by_cases q:g=f
    · rw [q]; exact (qK f y fs).1
    · refine (qK f y fs).2 g (wi g fun z=>hg ?_)
      show (if g=f then some u else mA g)=none
      rw [if_neg q]; exact z
theorem Inv.made (I:Inv X pins σ H s):Inv X pins σ (upd (upd H s.heap.objs.size (.own (s.heap.objs.size + 1))) (s.heap.objs.size + 1) (.ins C s.heap.objs.size []))
    {s with heap:=(s.heap.push e7).push (gG C s.heap.objs.size)}:=by
  have e1:(s.heap.push e7).get? s.heap.objs.size=some e7:=cB s.heap rfl
  have e2:((s.heap.push e7).push (gG C s.heap.objs.size)).get? (s.heap.objs.size + 1)=some (gG C s.heap.objs.size):=by
    have:=cB (s.heap.push e7) (o:=gG C s.heap.objs.size) rfl
    rwa [uA] at this
  have e3:(s.heap.push e7).Ns s.heap.objs.size (fun _=>none):=⟨e7,#[],_,e1,rfl,(fun e he=>absurd he (by simp)),fun _=>rfl⟩
  have I1:=I.laid (a:=s.heap.objs.size) (o:=.own (s.heap.objs.size + 1)) (h':=s.heap.push e7) (t':=s.toks) (fun b u q=>aQ _ q) (aL _) ⟨_,e1⟩
  refine I1.laid (a:=s.heap.objs.size + 1) (o:=.ins C s.heap.objs.size []) (t':=s.toks) (fun b u q=>aQ _ q) (Nat.le_of_eq (uA _ _)) ?_
  have ne:s.heap.objs.size≠s.heap.objs.size + 1:=aU (sX _)
  refine ⟨by rw [aV ne,ao],bK _,ne,e2,fun _=>none,(Heap.Ns1.of_empty e3).at fun o q=>aQ _ q,fun _=>True.intro,fun y hy=>absurd rfl hy⟩
theorem EE {prog:aW} {w:bO} {env:Env} {e:dv} {f:Str} {pos:Pos} {s:aj} {Q:aa->aj->Prop} (hb:kR e f env (fV e env)=fV e env)
    (h:aZ (bD prog w) A (fV e env) (fun o s₁=>aZ (bD prog w) A (getAttr o f true) Q E s₁) E s):aZ (bD prog w) A (fV (.Attribute e f pos) env) Q E s:=
  Attribute_any_ h (by rw [arm_eval_Attribute,hb])
end
def HM (K:ag) (ta:TE) (f:Str):TE:=fun σ H Q=>ta σ H fun x H1=>∃ a C dx fs v,x=.ref a/\H1 a=some (.ins C dx fs)/\Cls K C/\e8 K C f/\fs.lookup f=some v/\Q v H1
def sFld (K:ag) (ta tv:TE) (f:Str):TS:=fun D σ H=>tv σ H fun y H1=>ta σ H1 fun x H2=>∃ a C dx fs,x=.ref a/\H2 a=some (.ins C dx fs)/\Cls K C/\e8 K C f/\fs.length < 1000 /\
  D.nx σ (upd H2 a (.ins C dx (dD f y fs)))
def InOp (X:Cx) (op:Ex) (rd:V->V->Hp->VK->Prop):Prop:=
  ∀ (pins:List (ae×Obj)) (s:aj) (σ:St) (H:Hp) (x y:V) (u v:aa) (Q:VK),Inv X pins σ H s->RelV x u->RelV y v->rd x y H Q->aZ (bD X.prog X.w) X.A (inplaceOp op u v) (EP X pins σ Q) X.xe s
def EF (K:ag) (ta tv:TE) (rd:V->V->Hp->VK->Prop) (f:Str):TS:=fun D σ H=>ta σ H fun x H1=>∃ a C dx fs v,x=.ref a/\H1 a=some (.ins C dx fs)/\Cls K C/\e8 K C f/\fs.lookup f=some v /\
  tv σ H1 fun y H2=>rd v y H2 fun z H3=>∃ dx' fs',H3 a=some (.ins C dx' fs')/\fs'.length < 1000/\D.nx σ (upd H3 a (.ins C dx' (dD f z fs')))
section
variable {X:Cx} {o e value:dv} {f:Str} {pos pos' tpos:Pos} {ta tv:TE}
theorem cF (he:PE X e ta) (hb:kR e f X.env (fV e X.env)=fV e X.env):PE X (.Attribute e f pos) (HM X.K ta f):=by
  intro pins s σ H Q I h
  refine EE hb (thn (he pins s σ H _ I h) fun u s1 ⟨x,H1,I1,rx,a,C,dx,fs,v,ex,ea,c,n,l,q⟩=>?_)
  subst ex
  obtain rfl:u=Value.ref a:=rx
  exact sV I1 ea c n l fun u' s2 I2 ru=>⟨v,H1,I2,ru,q⟩
theorem gf (ha:PE X o ta) (hv:PE X value tv) (hs:rn value (some (.Attribute o f pos')) pos.line X.env=pure false):PS X (.Assign [.Attribute o f pos'] value pos) (sFld X.K ta tv f):=by
  intro pins s σ H D I h
  refine plainObj_wpAny_Assign_Attribute (thn (hv pins s σ H _ I h) fun u s1 ⟨y,H1,I1,ry,q⟩=>thn (ha pins s1 σ H1 _ I1 q) fun ov s2 ⟨x,H2,I2,rx,a,C,dx,fs,ex,ea,c,n,l,q2⟩=>?_) hs
  subst ex
  obtain rfl:ov=Value.ref a:=rx
  exact sW I2 ea c n l ry fun s3 I3=>⟨σ,_,I3,q2⟩
theorem uB {op:Ex} {rd:V->V->Hp->VK->Prop} (ha:PE X o ta) (hv:PE X value tv) (hop:InOp X op rd):PS X (.AugAssign (.Attribute o f tpos) op value pos) (EF X.K ta tv rd f):=by
  intro pins s σ H D I h
  refine wpAny_AugAssign_AttributeAny (thn (ha pins s σ H _ I h) fun ov s1 ⟨x,H1,I1,rx,a,C,dx,fs,v,ex,ea,c,n,l,q⟩=>?_)
  subst ex
  obtain rfl:ov=Value.ref a:=rx
  refine sV I1 ea c n l fun u s2 I2 ru=>thn (hv pins s2 σ H1 _ I2 q) fun w3 s3 ⟨y,H2,I3,ry,q3⟩=>thn (hop pins s3 σ H2 v y u w3 _ I3 ru ry q3) fun w4 s4 ⟨z,H3,I4,rz,dx',fs',ea',l',q4⟩=>?_
  exact sW I4 ea' c n l' rz fun s5 I5=>⟨σ,_,I5,q4⟩
def rAdd:V->V->Hp->VK->Prop:=fun x y H Q=>∃ i j,x=.int i/\y=.int j/\Q (.int (i + j)) H
theorem BF:InOp X .Add rAdd:=by
  rintro pins s σ H x y u v Q I rx ry ⟨i,j,rfl,rfl,q⟩
  obtain ⟨t,rfl⟩:=(show ∃ t,u=Value.int i t from rx)
  obtain ⟨t',rfl⟩:=(show ∃ t',v=Value.int j t' from ry)
  exact PyProof.Rows.iadd_int ⟨.int (i + j),H,I.tok _,⟨_,rfl⟩,q⟩
theorem methcall_of {pl:Sem Bool} {m:Str} {apos:Pos} {args:List dv} {pins:List (ae×Obj)} {s:aj} {σ:St} {H:Hp} {Q:aa->aj->Prop} {te:TE} (he:PE X e te) (I:Inv X pins σ H s)
    (h:te σ H fun x H1=>∃ a C dx fs g,x=.ref a/\H1 a=some (.ins C dx fs)/\Cls X.K C/\j5 X.K C m g/\fs.lookup m=none /\
      ∀ s1,Inv X pins σ H1 s1->aZ (bD X.prog X.w) X.A (x6 pos (.ref g) [.ref a] (i9 pos (cH args X.env)) (mH pos (jd [] X.env))) Q X.xe s1)
    (ht:fV (.Call (.Attribute e m apos) args [] pos) X.env=(do
      let ov <- fV e X.env
      t8 apos.atName
      let (f,first) <- pB [ov] (mr ov m pl)
      x6 pos f first (i9 pos (cH args X.env)) (mH pos (jd [] X.env)))) :
    aZ (bD X.prog X.w) X.A (fV (.Call (.Attribute e m apos) args [] pos) X.env) Q X.xe s:=by
  refine jG (pl:=pl) (thn (he pins s σ H _ I h) fun u s1 ⟨x,H1,I1,rx,a,C,dx,fs,g,ex,ea,c,k,l,q⟩=>?_) ht
  subst ex
  obtain rfl:u=Value.ref a:=rx
  exact pC I1 ea c k l (q s1 I1)
end
section
variable {X:Cx} {pins:List (ae×Obj)} {σ:St} {H:Hp} {s:aj} {A:bZ} {E:aa->aj->Prop} {Q:aa->aj->Prop} {c:aa} {b:Bool}
inductive qL (K:ag) (H:Hp):V->aa->Prop where
  | non:qL K H .non (.type "NoneType")
  | bl (x:Bool):qL K H (.bl x) (.type "bool")
  | int (i:Int):qL K H (.int i) (.type "int")
  | str (x:Str):qL K H (.str x) (.type "str")
  | flt (x:UInt64):qL K H (.flt x) (.type "float")
  | lst {a:ae} {xs:List V} (e:H a=some (.lst xs)):qL K H (.ref a) (.type "list")
  | frz {a:ae} {o:Obj} {xs:List V} (e:H a=some (.frz o (.lst xs))):qL K H (.ref a) (.type "list")
  | tup {a:ae} {xs:List V} (e:H a=some (.tup xs)):qL K H (.ref a) (.type "tuple")
  | dK {a:ae} {kvs:List (Key×V)} (e:H a=some (.dK kvs)):qL K H (.ref a) (.type "dict")
  | dT {a:ae} {kvs:List (List Key×V)} (e:H a=some (.dT kvs)):qL K H (.ref a) (.type "dict")
  | ins {a C dx:ae} {fs:List (Str×V)} (e:H a=some (.ins C dx fs)) (cl:Cls K C) (ha:ay K (.ref C) "__class__"=some (some (.builtin "object.__class__")))
      (hn:pW K (.builtin "object.__class__") "__get__"=some (some (.builtin "getset_descriptor.__get__"))) (htk:rN K (.builtin "object.__class__")=some true)
      (hm:dX K C (.type "object")=some true):qL K H (.ref a) (.ref C)
theorem Av {x:V} {u t:aa} (I:Inv X pins σ H s) (rx:RelV x u) (ty:qL X.K H x t) (e:gx X.K t c=some b) (h:∀ tk,Q (.bool b) {s with toks:=tk}) :
    aZ (bD X.prog X.w) A (vx (.builtin "isinstance") [u,c]) Q E s:=by
  cases ty with
  | non=>cases (show u=Value.none from rx); exact eN PySem.W.kitx_none I.kIn True.intro e (fun z=>nomatch z) h
  | bl y=>cases (show u=Value.bool y from rx); exact eN PySem.W.kitx_bool I.kIn True.intro e (fun z=>nomatch z) h
  | int i=>obtain ⟨t,q⟩:=(show ∃ t,u=Value.int i t from rx); cases q; exact eN PySem.W.kitx_int I.kIn True.intro e (fun z=>nomatch z) h
  | str y=>obtain ⟨t,q⟩:=(show ∃ t,u=Value.str y t from rx); cases q; exact eN PySem.W.kitx_str I.kIn True.intro e (fun z=>nomatch z) h
  | flt y=>obtain ⟨t,q⟩:=(show ∃ t,u=Value.float y t from rx); cases q; exact eN PySem.W.kitx_float I.kIn True.intro e (fun z=>nomatch z) h
  | @lst a xs ea =>
    cases (show u=Value.ref a from rx)
    obtain ⟨_,_,n,_,h1⟩:=(show eM X.prog X.w H s.heap a (.lst xs) from I.hok a _ ea)
    exact eN zf I.kIn ⟨_,h1,rfl⟩ e (fun z=>nomatch z) h
  | @frz a ob xs ea =>
    cases (show u=Value.ref a from rx)
    obtain ⟨_,_,_,n,_,h1⟩:=(show eM X.prog X.w H s.heap a (.frz ob (.lst xs)) from I.hok a _ ea)
    exact eN zf I.kIn ⟨_,h1,rfl⟩ e (fun z=>nomatch z) h
  | @tup a xs ea =>
    cases (show u=Value.ref a from rx)
    obtain ⟨_,_,_,p⟩:=(show eM X.prog X.w H s.heap a (.tup xs) from I.hok a _ ea)
    obtain ⟨o,h1,h2,_⟩:=p
    exact eN PySem.W.kitx_tuple I.kIn ⟨o,h1,h2⟩ e (fun z=>nomatch z) h
  | @dK a kvs ea =>
    cases (show u=Value.ref a from rx)
    obtain ⟨_,_,vs,_,p⟩:=(show eM X.prog X.w H s.heap a (.dK kvs) from I.hok a _ ea)
    obtain ⟨o,es,ep,h1,h2,_⟩:=p
    exact eN zg I.kIn ⟨o,h1,h2.1⟩ e (fun z=>nomatch z) h
  | @dT a kvs ea =>
    cases (show u=Value.ref a from rx)
    obtain ⟨_,_,xs,_,o,es,ep,h1,h2,_⟩:=(show eM X.prog X.w H s.heap a (.dT kvs) from I.hok a _ ea)
    exact eN zg I.kIn ⟨o,h1,h2.1⟩ e (fun z=>nomatch z) h
  | @ins a C dx fs ea cl ha hn htk hm =>
    cases (show u=Value.ref a from rx)
    obtain ⟨mA,O,_⟩:=rX I.hok ea
    obtain ⟨od,J,_⟩:=O.look
    exact eN (PySem.W.kitx_own (cl.get _) cl.hd ha hn htk hm) I.kIn J e (fun z=>nomatch z) h
end
end L2
namespace L2
open PySem PySem.Spec PyProof.Rows
structure eA (k:Nat) (A:bZ):Prop where
  hd:A.handled=none
  dp:A.depth + 3 * k + 5 < recursionLimit
  un:A.units + 16 * k + 200 < eB
theorem eA.mono {j k:Nat} {A:bZ} (r:eA k A) (h:j<=k):eA j A:=⟨r.hd,by have:=r.dp; omega,by have:=r.un; omega⟩
theorem eA.deeper {k:Nat} {A:bZ} (r:eA (k + 1) A) (env:Env):eA k (A.deeper env):=
  ⟨r.hd,by have:=r.dp; show A.depth + 1 + 3 * k + 5 < _; omega,by have:=r.un; show A.units + 3 + 16 * k + 200 < _; omega⟩
theorem x8 {A:bZ} {C:ae} {us:List aa} {kw:List (Str×aa)}:(A.under (.builtin "type.__call__" ⟨.ref C :: us,kw⟩)).depth=A.depth + 1:=by
  first | rfl | simp [wz,Code.weight,Code.isCreation,Code.isGuard,Code.isCaller,Code.frames,xH,guardIds]
theorem x9 {A:bZ} {C:ae} {us:List aa} {kw:List (Str×aa)}:(A.under (.builtin "type.__call__" ⟨.ref C :: us,kw⟩)).units=A.units + 1:=by
  first | rfl | simp [wz,Code.cUnits,Code.frames,xH]
theorem eA.make {k:Nat} {A:bZ} (r:eA (k + 1) A) (C:ae) (us:List aa) (kw:List (Str×aa)):eA k (A.under (.builtin "type.__call__" ⟨.ref C :: us,kw⟩)):=
  ⟨r.hd,by have:=r.dp; rw [x8]; omega,by have:=r.un; rw [x9]; omega⟩
theorem eA.depth {k:Nat} {A:bZ} (r:eA k A):A.depth < recursionLimit:=by have:=r.dp; omega
theorem eA.units {k:Nat} {A:bZ} (r:eA k A):A.units + 64 < eB:=by have:=r.un; omega
def sY:TA:=fun _ H Q=>Q [] H
def jH (ta:TE) (tr:TA):TA:=fun σ H Q=>ta σ H fun x H1=>tr σ H1 fun xs H2=>Q (x :: xs) H2
section
variable {X:Cx} {e:dv} {es:List dv} {te:TE} {t:TA} {pos:Pos}
theorem aw:PA X [] sY:=fun _ _ _ _ H Q I h=>Calls.spliced_nil ⟨[],H,I,.nil,h⟩
theorem au (ha:PE X e te) (hr:PA X es t) (hs:cH (e :: es) X.env=(false,fV e X.env) :: cH es X.env:=by rfl):PA X (e :: es) (jH te t):=by
  intro pos pins s σ H Q I h
  rw [hs]
  show aZ _ _ (spliced ((false,fV e X.env) :: i9 pos (cH es X.env))) _ _ s
  refine Calls.spliced_cons (thn (ha pins s σ H _ I h) fun u s1 ⟨x,H1,I1,r1,q1⟩=>?_)
  exact thn (hr pos pins s1 σ H1 _ I1 q1) fun us s2 ⟨xs,H2,I2,r2,q2⟩=>⟨x :: xs,H2,I2,.cons r1 r2,q2⟩
def tTup (t:TA):TE:=fun σ H Q=>t σ H fun xs H1=>xs.length<=aJ/\∀ p,H1 p=none->Q (.ref p) (upd H1 p (.tup xs))
def tLst (t:TA):TE:=fun σ H Q=>t σ H fun xs H1=>xs.length<=aJ/\∀ p,H1 p=none->Q (.ref p) (upd H1 p (.lst xs))
theorem eE {x1} (h:PA X es t):PE X (.Tuple es x1 pos) (tTup t):=by
  intro pins s σ H Q I hq
  refine wpAny_Tuple_spliced (thn (h pos pins s σ H _ I hq) fun us s1 ⟨xs,H1,I1,r,z,q⟩=>⟨by rw [<- r.length]; exact z,?_⟩)
  have hf:H1 s1.heap.objs.size=none:=I1.hok.fresh (aL _)
  refine ⟨.ref s1.heap.objs.size,upd H1 s1.heap.objs.size (.tup xs),I1.laid (t':=s1.toks) (fun b u e=>aQ _ e) (aL _) ?_,rfl,q _ hf⟩
  exact ⟨z,us,r,⟨_,cB _ rfl,rfl,_,rfl⟩⟩
theorem fy (h:PA X es t):PE X (.List es pos) (tLst t):=by
  intro pins s σ H Q I hq
  refine wpAny_List_spliced (thn (h pos pins s σ H _ I hq) fun us s1 ⟨xs,H1,I1,r,z,q⟩=>⟨by rw [<- r.length]; exact z,?_⟩)
  have hf:H1 s1.heap.objs.size=none:=I1.hok.fresh (aL _)
  refine ⟨.ref s1.heap.objs.size,upd H1 s1.heap.objs.size (.lst xs),I1.laid (t':=s1.toks) (fun b u e=>aQ _ e) (aL _) ?_,rfl,q _ hf⟩
  exact ⟨z,us,0,r,cB _ rfl⟩
end
abbrev Sp:=List V->Hp->VK->XK->Prop
abbrev CXT:=List Env->Hp->aj->XK->aa->aj->Prop
structure vz (P:aW) (w:bO) (K:ag) (mg:Str->Option aa) (base:cE) (A:bZ) (outer:List Env) (s:aj) (H:Hp):Prop where
  frames:A.frames=some outer
  mod:Mod K mg base
  bs:∀ b o,base.get? b=some o->s.heap.get? b=some o/\H b=none
  bsz:base.objs.size<=s.heap.objs.size
  funs:s.heap.FunFrames base outer
  frf:∀ b∈frs outer,H b=none
  hok:HOk P w H s.heap
  bare:nr s.gens
def CE (outer:List Env) (P:aW) (w:bO) (H:Hp) (s:aj) (Q:VK) (u:aa) (s':aj):Prop:=
  ∃ v H',s'.os=s.os/\nr s'.gens/\Un (frs outer) [] H H' s.heap s'.heap/\HOk P w H' s'.heap/\RelV v u/\Q v H'
def CR (CX:CXT) (outer:List Env) (P:aW) (w:bO) (H:Hp) (s:aj) (Q:VK) (E:XK) (r:HL) (s':aj):Prop:=
  match r with
  | .ok (.ret u)=>CE outer P w H s Q u s'
  | .ok _=>False
  | .error e=>CX outer H s E e s'
structure bX (P:aW) (w:bO) (K:ag) (mg:Str->Option aa) (base:cE) (CX:CXT) (k:Nat) (f:ae) (fd:cu) (ps:List Str) (sp:Sp):Prop where
  len:∀ vs H Q E,sp vs H Q E->vs.length=ps.length
  run:∀ (A:bZ) (outer:List Env) (s:aj) (H:Hp) (args:Args) (us:List aa) (vs:List V) (Q:VK) (E:XK),eA k A->vz P w K mg base A outer s H->t9 s fd args (ps.zip us)->df vs us->sp vs H Q E ->
    nA (bD P w) A (.call (.ref f) args) (CR CX outer P w H s Q E) s
theorem vz.make {P:aW} {w:bO} {K:ag} {mg:Str->Option aa} {base:cE} {A:bZ} {outer:List Env} {s:aj} {H:Hp} (e:vz P w K mg base A outer s H) (C:ae) (us:List aa) (kw:List (Str×aa)) :
    vz P w K mg base (A.under (.builtin "type.__call__" ⟨.ref C :: us,kw⟩)) outer s H:=⟨by first | exact e.frames | (simpa [wz,Code.envs,xH,pushEnvs] using e.frames),e.mod,e.bs,e.bsz,e.funs,e.frf,e.hok,e.bare⟩
section
variable {X:Cx} {pins:List (ae×Obj)} {σ:St} {H:Hp} {s s':aj}
theorem Inv.env0 (I:Inv X pins σ H s):vz X.prog X.w X.K X.mg X.base X.A X.stack s H:=
  ⟨I.ok.frames,I.ok.mod,I.bs,cT I.ok.bsz I.sz,I.stack,I.stkFree,I.hok,I.bare⟩
theorem Inv.after {Q:VK} {u:aa} (I:Inv X pins σ H s) (h:CE X.stack X.prog X.w H s Q u s'):EP X pins σ Q u s':=by
  obtain ⟨v,H',os,bare,un,hok,r,q⟩:=h
  obtain ⟨hh,g,d,t,os'⟩:=s'
  obtain rfl:os'=s.os:=os
  exact ⟨v,H',I.call (h':=hh) (g':=g) (d':=d) (t':=t) (ch:=[]) un hok bare (fun b z=>absurd z (by simp)),r,q⟩
end
def BG (sp:Sp) (dvs:List V) (E:XK) (t:TA):TE:=fun σ H Q=>t σ H fun vs H1=>sp (vs++dvs) H1 Q E
def Gv (C:ae) (m:Str) (sp:Sp) (dvs:List V) (E:XK) (ta:TE) (t:TA):TE:=fun σ H Q=>ta σ H fun x H1=>∃ a dx fs,x=.ref a/\H1 a=some (.ins C dx fs)/\fs.lookup m=none /\
  t σ H1 fun vs H2=>sp (x :: (vs++dvs)) H2 Q E
def Gw (C:ae) (sp:Sp) (dvs:List V) (E:XK) (t:TA):TE:=fun σ H Q=>t σ H fun vs H1=>∀ x dx,H1 x=none->H1 dx=none->dx≠x ->
  sp (.ref x :: (vs++dvs)) (upd (upd H1 dx (.own x)) x (.ins C dx [])) (fun v H2=>v=.non/\Q (.ref x) H2) E
def Binds (K:ag) (fd:cu) (ps:List Str) (ds:List aa):Prop:=
  ∀ (s:aj) (us:List aa),K.In s.heap->(us++ds).length=ps.length->t9 s fd ⟨us,[]⟩ (ps.zip (us++ds))
theorem Binds.all {K:ag} {fd:cu} {ps:List Str} (h:∀ us:List aa,us.length=ps.length->bindArgs fd ⟨us,[]⟩=pure (ps.zip us)):Binds K fd ps []:=fun s us _ hl=>by
  rw [dC] at hl |-
  exact .of_eq (h us hl)
def lN (CX:CXT) (X:Cx) (E:XK):Prop:=∀ (pins:List (ae×Obj)) (σ:St) (H:Hp) (s:aj) (e:aa) (s':aj),Inv X pins σ H s->CX X.stack H s E e s'->X.xe e s'
section
variable {X:Cx} {CX:CXT} {k:Nat} {f C:ae} {fd:cu} {ps:List Str} {sp:Sp} {dvs:List V} {ds:List aa} {E:XK} {x m:Str} {p pos apos:Pos} {e o:dv} {es:List dv} {ta:TE} {t:TA}
theorem ya {pins:List (ae×Obj)} {σ:St} {H:Hp} {s:aj} {Q:VK} {us:List aa} {vs:List V} (F:bX X.prog X.w X.K X.mg X.base CX k f fd ps sp) (hr:eA k X.A) (hb:Binds X.K fd ps ds) (hd:df dvs ds) (hx:lN CX X E)
    (I:Inv X pins σ H s) (r:df vs us) (h:sp (vs++dvs) H Q E):aZ (bD X.prog X.w) X.A (vx (.ref f) us) (EP X pins σ Q) X.xe s:=by
  have r2:df (vs++dvs) (us++ds):=r.append hd
  have hl:(us++ds).length=ps.length:=by rw [<- r2.length]; exact F.len _ _ _ _ h
  refine yb (lW (F.run X.A X.stack s H ⟨us,[]⟩ (us++ds) (vs++dvs) Q E hr I.env0 (hb s us I.kIn hl) r2 h) fun r s' hq=>?_)
  cases r with
  | error e=>exact hx pins σ H s e s' I hq
  | ok fl =>
    cases fl with
    | ret u=>exact I.after hq
    | next=>exact cS hq
    | brk=>exact cS hq
    | cont=>exact cS hq
theorem aS (F:bX X.prog X.w X.K X.mg X.base CX k f fd ps sp) (hr:eA k X.A) (hg:Gl X x) (hm:X.mg x=some (.ref f)) (hk:aE X.K (.ref f)=true) (hb:Binds X.K fd ps ds) (hd:df dvs ds) (hx:lN CX X E)
    (ha:PA X (e :: es) t) (hdb:(x == ("__debug__":Str))=false:=by decide) (he:cH (e :: es) X.env=(false,fV e X.env) :: cH es X.env:=by rfl) (hpl:(i9 pos (cH es X.env)).any (·.1)=false:=by rfl) :
    PE X (.Call (.Name x p) (e :: es) [] pos) (BG sp dvs E t):=by
  intro pins s σ H Q I h
  refine iA (pV I hg hm ?_ hdb)
  refine kE (h₀:=X.base) I.ok.mod.kin hk (thn (ha pos pins s σ H _ I h) fun us s1 ⟨vs,H1,I1,r,q⟩=>⟨I1.kIn,?_⟩) he hpl
  exact ya F hr hb hd hx I1 r q
theorem iq {pl:Sem Bool} (he:PE X o ta) (c:Cls X.K C) (hm:j5 X.K C m f) (F:bX X.prog X.w X.K X.mg X.base CX k f fd ps sp) (hr:eA k X.A) (hb:Binds X.K fd ps ds) (hd:df dvs ds) (hx:lN CX X E) (ha:PA X (e :: es) t)
    (hst:cH (e :: es) X.env=(false,fV e X.env) :: cH es X.env:=by rfl) (hpl:(i9 pos (cH es X.env)).any (·.1)=false:=by rfl)
    (ht:fV (.Call (.Attribute o m apos) (e :: es) [] pos) X.env=(do
      let ov <- fV o X.env
      t8 apos.atName
      let (f,first) <- pB [ov] (mr ov m pl)
      x6 pos f first (i9 pos (cH (e :: es) X.env)) (mH pos (jd [] X.env))):=by rfl) :
    PE X (.Call (.Attribute o m apos) (e :: es) [] pos) (Gv C m sp dvs E ta t):=by
  intro pins s σ H Q I h
  refine jG (pl:=pl) (thn (he pins s σ H _ I h) fun u s1 ⟨x,H1,I1,rx,a,dx,fs,ex,ea,l,q⟩=>?_) ht
  subst ex
  obtain rfl:u=Value.ref a:=rx
  refine pC I1 ea c hm l ?_
  refine kE (first:=[.ref a]) (h₀:=X.base) I.ok.mod.kin hm.kp (thn (ha pos pins s1 σ H1 _ I1 q) fun us s2 ⟨vs,H2,I2,r,q2⟩=>⟨I2.kIn,?_⟩) hst hpl
  exact ya (us:=.ref a :: us) (vs:=.ref a :: vs) F hr hb hd hx I2 (.cons rfl r) q2
theorem pX {pl:Sem Bool} (he:PE X o ta) (c:Cls X.K C) (hm:j5 X.K C m f) (F:bX X.prog X.w X.K X.mg X.base CX k f fd ps sp) (hr:eA k X.A) (hb:Binds X.K fd ps ds) (hd:df dvs ds) (hx:lN CX X E)
    (ht:fV (.Call (.Attribute o m apos) [] [] pos) X.env=(do
      let ov <- fV o X.env
      t8 apos.atName
      let (f,first) <- pB [ov] (mr ov m pl)
      x6 pos f first (i9 pos (cH [] X.env)) (mH pos (jd [] X.env))):=by rfl) :
    PE X (.Call (.Attribute o m apos) [] [] pos) (Gv C m sp dvs E ta sY):=by
  intro pins s σ H Q I h
  refine jG (pl:=pl) (thn (he pins s σ H _ I h) fun u s1 ⟨x,H1,I1,rx,a,dx,fs,ex,ea,l,q⟩=>?_) ht
  subst ex
  obtain rfl:u=Value.ref a:=rx
  refine pC I1 ea c hm l ?_
  exact xI (first:=[.ref a]) I1.kIn hm.kp (ya (us:=[.ref a]) (vs:=[.ref a]) F hr hb hd hx I1 (.cons rfl .nil) q)
structure Mk (K:ag) (C f:ae):Prop where
  makes:hU K C=true
  init:ay K (.ref C) "__init__"=some (some (.ref f))
  fn:cR K (.ref f)=true
  kp:aE K (.ref C)=true
theorem BH {pins:List (ae×Obj)} {σ:St} {H:Hp} {s:aj} {Q:VK} {us:List aa} {vs:List V} (M:Mk X.K C f) (F:bX X.prog X.w X.K X.mg X.base CX k f fd ps sp) (hr:eA (k + 1) X.A) (hb:Binds X.K fd ps ds) (hd:df dvs ds)
    (hx:lN CX X E) (I:Inv X pins σ H s) (r:df vs us)
    (h:∀ x dx,H x=none->H dx=none->dx≠x->sp (.ref x :: (vs++dvs)) (upd (upd H dx (.own x)) x (.ins C dx [])) (fun v H2=>v=.non/\Q (.ref x) H2) E) :
    aZ (bD X.prog X.w) X.A (vx (.ref C) us) (EP X pins σ Q) X.xe s:=by
  have hq:=h (s.heap.objs.size + 1) s.heap.objs.size (I.hok.fresh (gi _)) (I.hok.fresh (aL _)) (aU (sX _))
  have I2:=Inv.made (C:=C) I
  have r2:df (V.ref (s.heap.objs.size + 1) :: (vs++dvs)) (Value.ref (s.heap.objs.size + 1) :: (us++ds)):=.cons rfl (r.append hd)
  have hl:(Value.ref (s.heap.objs.size + 1) :: us++ds).length=ps.length:=by
    have e:=r2.length
    rw [F.len _ _ _ _ hq] at e
    exact e.symm
  refine yb (BD (f:=f) I.kIn M.makes M.init (beq_iff_eq.mp M.fn) (lW (F.run _ X.stack _ _ ⟨Value.ref (s.heap.objs.size + 1) :: us,[]⟩ (Value.ref (s.heap.objs.size + 1) :: (us++ds)) _ _ E (hr.make C us [])
    (I2.env0.make C us []) (hb _ (Value.ref (s.heap.objs.size + 1) :: us) I2.kIn hl) r2 hq) fun r s' hq'=>?_))
  cases r with
  | error e=>exact hx pins σ _ _ e s' I2 hq'
  | ok fl =>
    cases fl with
    | ret u =>
      obtain ⟨v,H',I3,rv,ev,q3⟩:=I2.after hq'
      subst ev
      exact ⟨rv,⟨V.ref (s.heap.objs.size + 1),H',I3,rfl,q3⟩⟩
    | next=>exact cS hq'
    | brk=>exact cS hq'
    | cont=>exact cS hq'
theorem oK (M:Mk X.K C f) (F:bX X.prog X.w X.K X.mg X.base CX k f fd ps sp) (hr:eA (k + 1) X.A) (hg:Gl X x) (hm:X.mg x=some (.ref C)) (hb:Binds X.K fd ps ds) (hd:df dvs ds) (hx:lN CX X E)
    (ha:PA X (e :: es) t) (hdb:(x == ("__debug__":Str))=false:=by decide) (he:cH (e :: es) X.env=(false,fV e X.env) :: cH es X.env:=by rfl) (hpl:(i9 pos (cH es X.env)).any (·.1)=false:=by rfl) :
    PE X (.Call (.Name x p) (e :: es) [] pos) (Gw C sp dvs E t):=by
  intro pins s σ H Q I h
  refine iA (pV I hg hm ?_ hdb)
  refine kE (h₀:=X.base) I.ok.mod.kin M.kp (thn (ha pos pins s σ H _ I h) fun us s1 ⟨vs,H1,I1,r,q⟩=>⟨I1.kIn,?_⟩) he hpl
  exact BH M F hr hb hd hx I1 r q
end
section
variable {X:Cx} {CX:CXT} {k:Nat} {f C:ae} {fd:cu} {ps ks:List Str} {sp:Sp} {E:XK} {x m:Str} {p pos apos kpos:Pos} {e o:dv} {es:List dv} {kws:List JI} {te ta:TE} {t tk:TA} {nm:Option Str}
variable {g:List aa->List aa->List aa} {gV:List V->List V->List V}
end
structure bY (N P:List Str) (sc:kS):Prop where
  kind:sc.kind=.function
  co:sc.isCoroutine=false
  gen:sc.isGenerator=false
  nd:N.Nodup
  pre:N.take P.length=P
  par:∀ x∈P,sc.names.lookup x=some .local\/sc.names.lookup x=some .cell
  nofree:∀ y∈sc.names,y.2≠.free
theorem uC {kindOf:Str->Option kg} {x:Str}:∀ {binds:List (Str×aa)} {m:Str->Option aa},(∀ v,(x,v)∉binds)->A9 kindOf binds m x=m x
  | [],_,_=>rfl
  | (n,v) :: r,m,h=>by
    unfold A9
    rw [uC fun w hw=>h w (af _ hw)]
    split
    · have:x≠n:=by rintro rfl; exact h v aC
      simp [this]
    · rfl
theorem uD {kindOf:Str->Option kg} {x:Str}:∀ {binds:List (Str×aa)} {m:Str->Option aa},(∀ v,(x,v)∉binds)->Ba kindOf binds m x=m x
  | [],_,_=>rfl
  | (n,v) :: r,m,h=>by
    unfold Ba
    rw [uD fun w hw=>h w (af _ hw)]
    split
    · rfl
    · have:x≠n:=by rintro rfl; exact h v aC
      simp [this]
theorem uE {kindOf:Str->Option kg} {x:Str} {v:aa}:∀ {P:List Str} {vs:List aa} {i:Nat} {m:Str->Option aa},P.Nodup->P[i]?=some x->vs[i]?=some v->kindOf x=some .local ->
    A9 kindOf (P.zip vs) m x=some v
  | [],_,_,_,_,h,_,_=>by simp at h
  | _ :: _,[],_,_,_,_,h,_=>by simp at h
  | p :: P,w :: vs,0,m,nd,h1,h2,hk=>by
    simp at h1 h2; subst h1; subst h2
    show A9 kindOf ((p,w) :: P.zip vs) m p=_
    unfold A9
    rw [uC fun v hv=>(cM.mp nd).1 (nX hv).1,if_pos hk]
    simp
  | p :: P,w :: vs,i + 1,m,nd,h1,h2,hk=>by
    show A9 kindOf ((p,w) :: P.zip vs) m x=_
    unfold A9
    exact uE (i:=i) (cM.mp nd).2 (by simpa using h1) (by simpa using h2) hk
theorem uF {kindOf:Str->Option kg} {x:Str} {v:aa}:∀ {P:List Str} {vs:List aa} {i:Nat} {m:Str->Option aa},P.Nodup->P[i]?=some x->vs[i]?=some v->kindOf x≠some .local ->
    Ba kindOf (P.zip vs) m x=some v
  | [],_,_,_,_,h,_,_=>by simp at h
  | _ :: _,[],_,_,_,_,h,_=>by simp at h
  | p :: P,w :: vs,0,m,nd,h1,h2,hk=>by
    simp at h1 h2; subst h1; subst h2
    show Ba kindOf ((p,w) :: P.zip vs) m p=_
    unfold Ba
    rw [uD fun v hv=>(cM.mp nd).1 (nX hv).1,if_neg hk]
    simp
  | p :: P,w :: vs,i + 1,m,nd,h1,h2,hk=>by
    show Ba kindOf ((p,w) :: P.zip vs) m x=_
    unfold Ba
    exact uF (i:=i) (cM.mp nd).2 (by simpa using h1) (by simpa using h2) hk
def start (N:List Str) (vs:List V):St:=vs.map some++cO (N.length - vs.length) none
def qM (CX:CXT) (P:aW) (w:bO) (K:ag) (mg:Str->Option aa) (base:cE) (N:List Str) (qual:Str) (scope:kS) (f:ae) (cd:aa) (A:bZ) (outer:List Env) (s:aj) (H:Hp) (E:XK):Cx where
  prog:=P
  w:=w
  K:=K
  mg:=mg
  base:=base
  A:=A.deeper (qN qual scope s.heap.objs.size f cd)
  N:=N
  s₀:=s
  H₀:=H
  env:=qN qual scope s.heap.objs.size f cd
  outer:=outer
  stack:=qN qual scope s.heap.objs.size f cd :: outer
  ex:=[]
  calm:=true
  fn:=fun _=>true
  pn:=[]
  xe:=fun e s'=>aZ (bD P w) (A.deeper (qN qual scope s.heap.objs.size f cd)) (xJ (qN qual scope s.heap.objs.size f cd) e) (fun _ s''=>CX outer H s E e s'') (fun e' s''=>CX outer H s E e' s'') s'
theorem wQ {sc:kS} {n:Nat} {x:Str} (h:sc.names.lookup x=some .cell):∃ c,(Bb n sc.names []).lookup x=some c:=by
  have q:=mI sc.names n [] (.inl h)
  exact Option.isSome_iff_exists.mp q
theorem uG {CX:CXT} {P:aW} {w:bO} {K:ag} {mg:Str->Option aa} {base:cE} {N ps:List Str} {qual:Str} {scope:kS} {f:ae} {cd:aa} {A:bZ} {outer:List Env} {s s1:aj} {H:Hp} {E:XK} {us:List aa} {vs:List V}
    (S:bY N ps scope) (hd:A.handled=none) (e0:vz P w K mg base A outer s H) (hl:vs.length=ps.length) (r:df vs us)
    (x:InCallC s s.heap.objs.size (A9 (qN qual scope s.heap.objs.size f cd).kindOf (ps.zip us) fun _=>none) (Bb (s.heap.objs.size + 1) scope.names []) (Ba (qN qual scope s.heap.objs.size f cd).kindOf (ps.zip us) fun _=>none) s1) :
    Inv (qM CX P w K mg base N qual scope f cd A outer s H E) [] (start N vs) H s1:=by
  have hpl:ps.length<=N.length:=by have:=congrArg pf S.pre; rw [cW] at this; omega
  obtain ⟨h1,tk,rfl,hk⟩:=x.done
  have noA:∀ b:ae,b∉(qM CX P w K mg base N qual scope f cd A outer s H E).ex:=fun b z=>absurd (show b∈([]:List ae) from z) (by simp)
  refine ⟨⟨e0.mod,S.kind,rfl,rfl,aL _,fun y z c h1 h2=>?_,fun y hy=>?_,fun y c _ h=>?_,fun _=>hd,Around.frames_deeper e0.frames,.inr ⟨rfl,rfl⟩,fun b z=>absurd z (noA b),e0.bs,e0.bsz,fun b _ _=>noA b,fun b z=>absurd z (noA b),e0.funs,e0.frf⟩,
    rfl,e0.bare,Un.kept hk,⟨_,x.toInCall.ns,fun i y v h1 h2 h3=>?_⟩,fun y c h=>⟨_,x.cell y c h⟩,e0.hok.fresh (aL _),fun y c h=>?_,fun p hp=>absurd (show p∈([]:List (ae×Obj)) from hp) (by simp),e0.hok.kept hk,?_⟩
  · exact name_of_addr x.apart (gr h1) (gr h2)
  · have hy:scope.names.lookup y=some .cell\/scope.names.lookup y=some .free:=hy
    rcases hy with hy | hy
    · exact wQ hy
    · exact absurd rfl (S.nofree _ (gr hy))
  · exact kT (x.above y c (gr h))
  · have hi:i < vs.length:=by
      unfold start at h2
      by_cases hi:i < vs.length
      · exact hi
      · rw [dJ (by simpa using hi)] at h2
        rw [m5] at h2
        split at h2 <;> cases h2
    have ha:vs[i]?=some v:=by
      unfold start at h2
      rw [dy (by simpa using hi),cC] at h2
      cases e:vs[i]? with
      | none=>rw [e] at h2; cases h2
      | some a=>rw [e] at h2; cases h2; rfl
    obtain ⟨u,hu,rv⟩:=r.get ha
    have hp:ps[i]?=some y:=by
      rw [<- S.pre,mw (by omega)]; exact h1
    have ndP:ps.Nodup:=by rw [<- S.pre]; exact S.nd.sublist (lX _ _)
    refine ⟨u,rv,?_⟩
    rcases S.par y (bQ hp) with k | k
    · exact .inl ⟨k,uE ndP hp hu k⟩
    · obtain ⟨c,e⟩:=wQ (n:=s.heap.objs.size + 1) k
      refine .inr ⟨.inl k,c,e,?_⟩
      have q:=x.cell y c e
      rw [uF ndP hp hu (by show scope.names.lookup y≠_; rw [k]; decide)] at q
      exact q
  · exact e0.hok.fresh (kT (x.above y c (gr h)))
  · unfold start
    show _=N.length
    rw [aI,ah,j6]
    omega
theorem Gx {CX:CXT} {P:aW} {w:bO} {K:ag} {mg:Str->Option aa} {base:cE} {k:Nat} {f:ae} {name qual:Str} {params:Arguments} {body:List dP} {scope:kS} {dV kV doc pm cdv ct oc:aa} {an od:Option ae}
    {osl:Array (Option aa)} {N ps:List Str} {sp:Sp} (lk:K.lookup f=some ⟨oc,od,.func (aO name qual params body scope dV kV doc pm an cdv ct),osl⟩) (hcd:aK K cdv qual=true) (S:bY N ps scope)
    (len:∀ vs H Q E,sp vs H Q E->vs.length=ps.length)
    (hbody:∀ (A:bZ) (outer:List Env) (s:aj) (H:Hp) (vs:List V) (Q:VK) (E:XK),eA k (A.deeper (qN qual scope s.heap.objs.size f cdv))->sp vs H Q E ->
      ∃ t,PSs (qM CX P w K mg base N qual scope f cdv A outer s H E) body t/\t {nx:=fun _ H'=>Q .non H',rt:=Q} (start N vs) H) :
    bX P w K mg base CX (k + 1) f (aO name qual params body scope dV kV doc pm an cdv ct) ps sp:=by
  refine ⟨len,fun A outer s H args us vs Q E hr e0 hb r hsp=>?_⟩
  have hl:=len _ _ _ _ hsp
  have KX:K.In s.heap:=e0.mod.kin.keeps fun b o e=>(e0.bs b o e).1
  have lim:s.heap.NoLimit:=e0.mod.nolimit.keeps fun b o e=>(e0.bs b o e).1
  have hkind:∀ y∈ps.zip us,scope.names.lookup y.1=some .local\/(scope.names.lookup y.1=some .cell/\((Bb (s.heap.objs.size + 1) scope.names []).lookup y.1).isSome=true):=fun ⟨n,v⟩ hy=>by
    rcases S.par n (nX hy).1 with q | q
    · exact .inl q
    · exact .inr ⟨q,mI _ _ _ (.inl q)⟩
  refine Ej hr.depth (KX _ _ lk) rfl S.co S.gen rfl (yc KX hcd) (hb _ _ _ _ ?_)
  refine yd S.kind hkind fun env he s1 x=>?_
  subst he
  refine ⟨lim.keeps x.toInCall.keep,codeAny_func ?_⟩
  obtain ⟨t,ht,hq⟩:=hbody A outer s H vs Q E (hr.deeper _) hsp
  have I:Inv (qM CX P w K mg base N qual scope f cdv A outer s H E) [] (start N vs) H s1:=uG S hr.hd e0 hl r x
  refine eP (ht [] s1 (start N vs) H _ I hq) (fun fl s' hs=>?_) fun e s' hs=>hs
  have fin:∀ {σ':St} {H':Hp} {v:V} {u:aa},Inv (qM CX P w K mg base N qual scope f cdv A outer s H E) [] σ' H' s'->RelV v u->Q v H'->CE outer P w H s Q u s':=
    fun {σ' H' v u} J rv q=>⟨v,H',J.os,J.bare,J.base,J.hok,rv,q⟩
  cases fl with
  | ret u =>
    obtain ⟨v,σ',H',J,rv,q⟩:=hs
    exact fin J rv q
  | next =>
    obtain ⟨σ',H',J,q⟩:=hs
    exact fin (v:=V.non) (u:=Value.none) J rfl q
  | brk =>
    obtain ⟨_,_,_,q⟩:=hs
    exact cS q
  | cont =>
    obtain ⟨_,_,_,q⟩:=hs
    exact cS q
end L2
namespace L2
open PySem PySem.Spec PyProof.Rows
section
variable {X:Cx} {x:Str} {p pos:Pos} {e:dv} {es:List dv} {t:TA} {id T:String} {r:List V->Hp->VK->Prop}
def tCB (r:List V->Hp->VK->Prop) (t:TA):TE:=fun σ H Q=>t σ H fun vs H1=>r vs H1 Q
theorem cX (hc:mY X (.builtin id) r) (hg:Gl X x) (hm:X.mg x=none) (hv:fv x=some (.builtin id)) (ha:PA X (e :: es) t) (hn:x≠"__name__":=by decide) (hdb:(x == ("__debug__":Str))=false:=by decide)
    (he:cH (e :: es) X.env=(false,fV e X.env) :: cH es X.env:=by rfl) (hpl:(i9 pos (cH es X.env)).any (·.1)=false:=by rfl):PE X (.Call (.Name x p) (e :: es) [] pos) (tCB r t):=by
  intro pins s σ H Q I h
  refine iA (qF I hg hm hv ?_ hn hdb)
  exact PyProof.Rows.callWith_builtin1 (thn (ha pos pins s σ H _ I h) fun us s1 ⟨vs,H1,I1,r1,q1⟩=>hc pins s1 σ H1 vs us Q I1 r1 q1) he hpl
theorem jL (hc:mY X (.type T) r) (hg:Gl X x) (hm:X.mg x=none) (hv:fv x=some (.type T)) (ha:PA X (e :: es) t) (hn:x≠"__name__":=by decide) (hdb:(x == ("__debug__":Str))=false:=by decide)
    (he:cH (e :: es) X.env=(false,fV e X.env) :: cH es X.env:=by rfl) (hpl:(i9 pos (cH es X.env)).any (·.1)=false:=by rfl):PE X (.Call (.Name x p) (e :: es) [] pos) (tCB r t):=by
  intro pins s σ H Q I h
  refine iA (qF I hg hm hv ?_ hn hdb)
  exact jZ (thn (ha pos pins s σ H _ I h) fun us s1 ⟨vs,H1,I1,r1,q1⟩=>hc pins s1 σ H1 vs us Q I1 r1 q1) he hpl
end
end L2
namespace HT
open PySem PyProof.Rows
def lexLt:List Int->List Int->Bool
  | [],[]=>false
  | [],_ :: _=>true
  | _ :: _,[]=>false
  | x :: xs,y :: ys=>if x=y then lexLt xs ys else decide (x < y)
theorem lexLt_cons (x y:Int) (xs ys:List Int):lexLt (x :: xs) (y :: ys)=if x=y then lexLt xs ys else decide (x < y):=rfl
theorem pj:lexLt [] []=false:=rfl
theorem nY (y:Int) (ys:List Int):lexLt [] (y :: ys)=true:=rfl
theorem nZ (x:Int) (xs:List Int):lexLt (x :: xs) []=false:=rfl
theorem wR (A:bZ) (s:aj) (a:Int) (t:Tok) (c:Int) (u:Tok):∃ e,SeqAt.EqAt A s (.int a t) (.int c u) e/\(e=true↔a=c):=
  ⟨(a == c),wA a t c u,by simp⟩
theorem BI (A:bZ) (s:aj) (a:Int) (t:Tok) (c:Int) (u:Tok) (prog:aW) (w:bO) (E:aa->aj->Prop) (Q:aa->aj->Prop) (h:Q (.bool (decide (a < c))) s) :
    aZ (bD prog w) A (qO .Lt (.int a t) (.int c u)) Q E s:=
  (PyProof.Rows.lt_int h:aZ (bD prog w) A (dI .Lt (.int a t) (.int c u)) Q E s)
section
open PySem.SeqAt
open PySem.AutoSeq1 (wpAny_loadPart')
open PySem.MeetsSeq PySem.MeetsSeq2 PySem.MeetsSeq3
theorem ua (l b:ae) (items items2:Array aa) (n n2:Nat) (dd dd2:Option ae) (sl sl2:Array (Option aa)) (ns ms:List Int) (hi:fi items.toList ns) (hj:fi items2.toList ms) :
    Meets (iV.«tuple.__lt__» ⟨[.ref l,.ref b],[]⟩)
      (fun _ R s=>s.heap.get? l=some {cls:=.type "tuple",dict:=dd,data:=.seq items n,slots:=sl}/\s.heap.get? b=some {cls:=.type "tuple",dict:=dd2,data:=.seq items2 n2,slots:=sl2} /\
        R (.ok (.ret (.bool (lexLt ns ms)))) s):=
  .of_wp fun prog w A R s h=>by
    obtain ⟨hp,g,d,tk,os⟩:=s; obtain ⟨hl,hb,h⟩:=h
    have f2:=lD
    have z1:items.size=ns.length:=by rw [<- hi.length]; simp
    have z2:items2.size=ms.length:=by rw [<- hj.length]; simp
    wp_walk using dQ hl,dQ hb,o6 _ (fun rest b s'=>b.1=none/\s'=⟨hp,g,d,tk,os⟩/\∃ (vs ws:List aa) (ns' ms':List Int),rest=vs.zip ws /\
      fi vs ns'/\fi ws ms'/\ns'.length + items2.size=ms'.length + items.size/\R (.ok (.ret (.bool (lexLt ns' ms')))) ⟨hp,g,d,tk,os⟩) _
    case turn =>
      rintro ⟨y,x⟩ rest b s' ⟨hb',rfl,vs,ws,ns',ms',hz,hvi,hwi,hlen,hR⟩
      cases hvi with
      | nil=>rw [BJ] at hz; cases hz
      | cons a t hvi' =>
        cases hwi with
        | nil=>rw [Bc] at hz; cases hz
        | cons c u hwi' =>
          rw [gC] at hz
          injection hz with hyx hrest
          injection hyx with hy hx
          subst hy hx
          rw [lexLt_cons] at hR
          simp only [bj] at hlen
          obtain ⟨e,he,hiff⟩:=wR A.in1 ⟨hp,g,d,tk,os⟩ a t c u
          refine ai (he prog w _ _ ?_)
          cases e with
          | true =>
            rw [if_pos (hiff.mp rfl)] at hR
            wp_walk
            exact ⟨rfl,rfl,_,_,_,_,hrest,hvi',hwi',by omega,hR⟩
          | false =>
            rw [if_neg (fun q=>absurd (hiff.mpr q) bU)] at hR
            have hri:=BI A.in1 ⟨hp,g,d,tk,os⟩ a t c u prog w
            wp_walk using hri
            exact ⟨_,rfl,by simpa using hR⟩
    case fin =>
      rintro ⟨b1,b2⟩ s' ⟨hb',rfl,vs,ws,ns',ms',hz,hvi,hwi,hlen,hR⟩
      simp only at hb'
      subst hb'
      have hv:lexLt ns' ms'=decide (items.size < items2.size):=by
        cases hvi with
        | nil =>
          cases hwi with
          | nil =>
            simp only [cP] at hlen
            rw [pj]
            exact (decide_eq_false (by omega)).symm
          | cons c u hw =>
            simp only [cP,bj] at hlen
            rw [nY]
            exact (decide_eq_true (by omega)).symm
        | cons a t hv =>
          cases hwi with
          | nil =>
            simp only [cP,bj] at hlen
            rw [nZ]
            exact (decide_eq_false (by omega)).symm
          | cons c u hw =>
            rw [gC] at hz
            cases hz
      rw [hv] at hR
      wp_walk
      exact ⟨_,rfl,by simpa [oM] using hR⟩
    case h =>
      exact ⟨rfl,rfl,items.toList,items2.toList,ns,ms,rfl,hi,hj,by omega,h⟩
end
section
variable {prog:aW} {w:bO} {A:bZ} {E:aa->aj->Prop} {s:aj}
theorem lt_tupInts {l b:ae} {items items2:Array aa} {ns ms:List Int} {Q:aa->aj->Prop} (hl:qD s.heap l items) (hb:qD s.heap b items2) (hi:fi items.toList ns) (hj:fi items2.toList ms)
    (hu:A.units < eB) (h:Q (.bool (lexLt ns ms)) s):aZ (bD prog w) A (dI .Lt (.ref l) (.ref b)) Q E s:=by
  obtain ⟨⟨cls,dd,data,sl⟩,ho,hc,n,hd⟩:=id hl
  obtain ⟨⟨cls2,dd2,data2,sl2⟩,ho2,hc2,n2,hd2⟩:=id hb
  simp only at hc hd hc2 hd2
  subst hc hd hc2 hd2
  exact pD (op:=.Lt) ⟨_,ho,rfl⟩ ⟨_,ho2,rfl⟩ PySem.F.slot_tuple_lt PySem.F.entry_tuple_lt (PySem.F.args_tuple_lt_2 _ _) (ua l b items items2 n n2 dd dd2 sl sl2 ns ms hi hj)
    ⟨ho,ho2,show Value.bool (lexLt ns ms)≠Value.notImplemented/\Q (.bool (lexLt ns ms)) s from ⟨(fun x=>nomatch x),h⟩⟩ hu
theorem cat_tup {t b:ae} {vs ws:List aa} {Q:aa->aj->Prop} (ht:qD s.heap t vs.toArray) (hb:qD s.heap b ws.toArray) (hv:vs≠[])
    (h1:ws=[]->Q (.ref t) s) (h2:ws≠[]->Q (.ref s.heap.objs.size) {s with heap:=s.heap.push {cls:=.type "tuple",data:=.seq (vs++ws).toArray}})
    (hsz:vs.length + ws.length<=aJ):aZ (bD prog w) A (ij .Add (.ref t) (.ref b)) Q E s:=by
  obtain ⟨⟨cls,dd,data,sl⟩,ho,hc,n,hd⟩:=id ht
  obtain ⟨⟨cls2,dd2,data2,sl2⟩,ho2,hc2,n2,hd2⟩:=id hb
  simp only at hc hd hc2 hd2
  subst hc hd hc2 hd2
  have e:vs.toArray++ws.toArray=(vs++ws).toArray:=by simp
  by_cases hw:ws=[]
  · exact concat_meets ⟨_,ho,rfl⟩ ⟨_,ho2,rfl⟩ noFill_tuple_add seq_tuple_add vA uH (uc _ _)
      (tuple_addW1 t b vs.toArray ws.toArray n n2 dd dd2 sl sl2 (by simpa using hv) (by simp [hw])) ⟨ho,ho2,h1 hw⟩
  · refine concat_meets ⟨_,ho,rfl⟩ ⟨_,ho2,rfl⟩ noFill_tuple_add seq_tuple_add vA uH (uc _ _)
      (tuple_addW2 t b vs.toArray ws.toArray n n2 dd dd2 sl sl2 (by simpa using hv) (by simpa using hw) (by rw [aD,aD]; exact hsz)) ⟨ho,ho2,?_⟩
    rw [e]
    exact h2 hw
def sIx (n d:Nat):Option Int->Nat
  | none=>d
  | some v=>if v < 0 then (v + (n:Int)).toNat else min v.toNat n
theorem sIx_none (n d:Nat):sIx n d none=d:=rfl
theorem sIx_nat (n d k:Nat):sIx n d (some (k:Int))=min k n:=by
  show (if (k:Int) < 0 then ((k:Int) + (n:Int)).toNat else min (k:Int).toNat n)=min k n
  rw [if_neg (by omega),jM]
theorem HN (n d:Nat) (hd:d<=n) (o:Option Int):sIx n d o<=n:=by
  cases o with
  | none=>exact hd
  | some v =>
    show (if v < 0 then (v + (n:Int)).toNat else min v.toNat n)<=n
    by_cases hv:v < 0
    · rw [if_pos hv]; omega
    · rw [if_neg hv]; exact Nat.min_le_right _ _
theorem zh (v:Int) (n d:Nat):(if v < 0 then max (v + (n:Int)) 0 else min v (n:Int))=((sIx n d (some v):Nat):Int):=by
  show (if v < 0 then max (v + (n:Int)) 0 else min v (n:Int))=(((if v < 0 then (v + (n:Int)).toNat else min v.toNat n):Nat):Int)
  by_cases hv:v < 0
  · simp only [if_pos hv]; omega
  · simp only [if_neg hv]; omega
theorem ye (lo hi:Option Int) (n:Nat):kj lo hi 1 (n:Int)=(((sIx n 0 lo:Nat):Int),((sIx n n hi:Nat):Int)):=by
  have h1:¬ ((1:Int) < 0):=by omega
  unfold kj
  simp only [h1,if_false]
  refine Prod.ext ?_ ?_
  · cases lo with
    | none=>rfl
    | some v=>exact zh v n 0
  · cases hi with
    | none=>rfl
    | some v=>exact zh v n n
theorem yf (i j:Nat):ir (i:Int) (j:Int) 1=j - i:=by
  unfold ir
  have h1:(1:Int) > 0:=by omega
  simp only [h1,if_true,Int.ediv_one]
  split <;> omega
theorem sZ {v:aa} {o:Option Int} {Q:Option Int->aj->Prop} (p:vB v o) (h:Q o s):aZ (bD prog w) A (Builtin.Slice.slicePartIndex v) Q E s:=by
  cases p with
  | none=>exact slicePart_none h
  | int i t=>exact slicePart_int h
theorem qP {sl:ae} {vl vu:aa} {lo hi:Option Int} {n:Nat} {Q:Int×Int×Nat->aj->Prop} (hs:s.heap.IsSliceOf sl vl vu .none) (pl:vB vl lo) (pu:vB vu hi)
    (h:Q (((sIx n 0 lo:Nat):Int),1,sIx n n hi - sIx n 0 lo) s):aZ (bD prog w) A (pY (.ref sl) (pure (n:Int))) Q E s:=by
  obtain ⟨os,hos,hcs,hds⟩:=id hs
  unfold pY Builtin.Slice.sliceFields
  refine ai (ai (kW hos hds (x:=vl) rfl (ai (kW hos hds (x:=vu) rfl (ai (kW hos hds (x:=.none) rfl (aY ?_)))))))
  refine ai (slicePart_none ?_)
  show aZ _ _ (if ((1:Int) == 0)=true then _ else _) _ _ s
  rw [if_neg (by decide)]
  refine ai (sZ pl (ai (sZ pu (ai (aY ?_)))))
  show aZ _ _ (match kj lo hi 1 (n:Int) with | (lo,hi)=>pure (lo,(1:Int),ir lo hi 1)) _ _ s
  rw [ye lo hi n]
  show aZ _ _ (pure (((sIx n 0 lo:Nat):Int),(1:Int),ir ((sIx n 0 lo:Nat):Int) ((sIx n n hi:Nat):Int) 1)) _ _ s
  rw [yf]
  exact aY h
theorem BK (xs:Array aa) (i k:Nat):((eS k).filterMap fun (m:Nat)=>xs[((i:Int) + (m:Int) * 1).toNat]?).toArray=((xs.toList.drop i).take k).toArray:=by
  have e:(fun (m:Nat)=>xs[((i:Int) + (m:Int) * 1).toNat]?)=fun m=>xs[i + m]?:=by
    funext m
    have:((i:Int) + (m:Int) * 1).toNat=i + m:=by omega
    rw [this]
  rw [e]
  have:=pick_run xs i k
  rw [List.filterMap_map] at this
  have e2:((fun x=>xs[x]?) ∘ fun x=>i + x)=fun m=>xs[i + m]?:=rfl
  rw [e2] at this
  rw [this]
theorem getItem_tuple_cut {t sl:ae} {items:Array aa} {vl vu:aa} {lo hi:Option Int} {Q:aa->aj->Prop} (ht:qD s.heap t items) (hs:s.heap.IsSliceOf sl vl vu .none) (pl:vB vl lo) (pu:vB vu hi)
    (hw:¬ (sIx items.size 0 lo=0/\sIx items.size items.size hi=items.size))
    (h:Q (.ref s.heap.objs.size) {s with heap:=s.heap.push {cls:=.type "tuple",data:=.seq ((items.toList.drop (sIx items.size 0 lo)).take (sIx items.size items.size hi - sIx items.size 0 lo)).toArray}})
    (hsz:items.size<=aJ):aZ (bD prog w) A (pE (.ref t) (.ref sl)) Q E s:=by
  have htake:sizeOk (.seq ((items.toList.drop (sIx items.size 0 lo)).take (sIx items.size items.size hi - sIx items.size 0 lo)).toArray):=by
    show ((items.toList.drop (sIx items.size 0 lo)).take (sIx items.size items.size hi - sIx items.size 0 lo)).toArray.size<=aJ
    rw [aD,cW,kd,gp]
    omega
  have hj:sIx items.size items.size hi<=items.size:=HN _ _ (aL _) hi
  obtain ⟨os,hos,hcs,hds⟩:=id hs
  have hTs:s.TypeIs (.ref sl) "slice":=⟨os,hos,hcs⟩
  unfold pE
  try with_reducible refine eV ?_
  first | refine ai (aY ?_) | skip
  refine ai (wpAny_sequenceKey ht.typeIs (by decide) ?_)
  refine ai (wpAny_callSpecial?_slot (name:=jN "__getitem__") ht.typeIs jh
    (o7 jh ht.typeIs entry_tuple_getitem ?_ (args_tuple_getitem _ _)))
  show aZ _ _ (Builtin.Tuple.tupleItemsOf (.ref t) >>= _) _ _ s
  refine ai (tupleItemsOf_ ht ?_)
  refine ai (BL hTs ?_)
  rw [if_pos (by decide)]
  refine ai (qP hs pl pu ?_)
  have hno:¬ ((((sIx items.size 0 lo:Nat):Int) == 0 && (1:Int) == 1 && (sIx items.size items.size hi - sIx items.size 0 lo) == items.size)=true):=by
    intro q
    rw [eX,eX] at q
    have q1:((sIx items.size 0 lo:Nat):Int)=0:=eq_of_beq q.1.1
    have q2:sIx items.size items.size hi - sIx items.size 0 lo=items.size:=eq_of_beq q.2
    exact hw ⟨by omega,by omega⟩
  show aZ _ _ (if (((sIx items.size 0 lo:Nat):Int) == 0 && (1:Int) == 1 && (sIx items.size items.size hi - sIx items.size 0 lo) == items.size)=true then _ else _) _ _ s
  rw [if_neg hno,BK]
  first
    | exact ai (m:=iB _) (iW (aY ⟨_,rfl,aY h⟩) htake)
    | exact ai (m:=iB _) (iW (ai (aY (aY ⟨_,rfl,aY h⟩))) htake)
    | exact ai (ai (m:=iB _) (iW (aY (aY ⟨_,rfl,aY h⟩)) htake))
    | exact ai (ai (m:=iB _) (iW (aY ⟨_,rfl,aY h⟩) htake))
end
end HT
namespace L2
open PySem PySem.Spec PyProof.Rows
abbrev TO:=St->Hp->(Option Int->Hp->Prop)->Prop
def PO (X:Cx) (e:Option dv) (t:TO):Prop:=
  ∀ (pins:List (ae×Obj)) (s:aj) (σ:St) (H:Hp) (Q:Option Int->Hp->Prop),Inv X pins σ H s->t σ H Q ->
    aZ (bD X.prog X.w) X.A (evalPart e X.env) (fun u s'=>∃ o H',Inv X pins σ H' s'/\vB u o/\Q o H') X.xe s
def EG:TO:=fun _ H Q=>Q none H
def tPart (t:TE):TO:=fun σ H Q=>t σ H fun x H1=>∃ i,x=.int i/\Q (some i) H1
theorem intsAre_of {ns:List Int}:∀ {us:List aa},df (ns.map V.int) us->fi us ns:=by
  induction ns with
  | nil=>intro us r; rw [xK] at r; cases r; exact .nil
  | cons n ns ih =>
    intro us r
    rw [cw] at r
    cases r with
    | cons r1 r2 =>
      obtain ⟨t,e⟩:=r1
      subst e
      exact .cons n t (ih r2)
section
variable {X:Cx} {e:dv} {te:TE} {lo hi:Option dv} {tl th:TO} {pos p2:Pos}
theorem j1:PO X none EG:=by
  intro pins s σ H Q I h
  rw [evalPart_none]
  exact aY ⟨none,H,I,.none,h⟩
theorem iu (h:PE X e te):PO X (some e) (tPart te):=by
  intro pins s σ H Q I hw
  rw [evalPart_some]
  refine thn (h pins s σ H _ I hw) fun u s1 ⟨x,H1,I1,r1,q1⟩=>?_
  obtain ⟨i,rfl,q⟩:=q1
  obtain ⟨t,rfl⟩:=r1
  exact ⟨some i,H1,I1,.int i t,q⟩
def SlR (X:Cx) (r:V->Option Int->Option Int->Hp->VK->Prop):Prop:=
  ∀ (pins:List (ae×Obj)) (s:aj) (σ:St) (H:Hp) (x:V) (v vl vu:aa) (lo hi:Option Int) (sl:ae) (Q:VK),Inv X pins σ H s->RelV x v->s.heap.IsSliceOf sl vl vu .none->vB vl lo->vB vu hi->r x lo hi H Q ->
    ∃ T id,yg (.type T) "__getitem__"=pure (some (.builtin id))/\s.TypeIs v T/\aZ (bD X.prog X.w) X.A (pE v (.ref sl)) (EP X pins σ Q) X.xe s
def tSl (r:V->Option Int->Option Int->Hp->VK->Prop) (te:TE) (tl th:TO):TE:=fun σ H Q=>te σ H fun x H1=>tl σ H1 fun l H2=>th σ H2 fun u H3=>r x l u H3 Q
theorem hV {r:V->Option Int->Option Int->Hp->VK->Prop} (hr:SlR X r) (he:PE X e te) (hl:PO X lo tl) (hu:PO X hi th):PE X (.Subscript e (.Slice lo hi none p2) pos) (tSl r te tl th):=by
  intro pins s σ H Q I h
  refine HP (thn (he pins s σ H _ I h) fun v s1 ⟨x,H1,I1,r1,q1⟩=>?_)
  refine wpAny_Slice (thn (hl pins s1 σ H1 _ I1 q1) fun vl s2 ⟨l,H2,I2,pl,q2⟩=>thn (hu pins s2 σ H2 _ I2 q2) fun vu s3 ⟨u,H3,I3,pu,q3⟩=>?_)
  rw [evalPart_none]
  refine aY ?_
  have I4:Inv X pins σ H3 {s3 with heap:=s3.heap.push {cls:=.type "slice",data:=.fields #[vl,vu,.none]}}:=I3.kept (t':=s3.toks) fun b ob q=>aQ _ q
  obtain ⟨T,id,hT,ht,hg⟩:=hr pins {s3 with heap:=s3.heap.push {cls:=.type "slice",data:=.fields #[vl,vu,.none]}} σ H3 x v vl vu l u s3.heap.objs.size Q I4 r1 (JJ ..) pl pu q3
  show aZ (bD X.prog X.w) X.A (Aw e (.Slice lo hi none p2) v (.ref s3.heap.objs.size)) (EP X pins σ Q) X.xe {s3 with heap:=s3.heap.push {cls:=.type "slice",data:=.fields #[vl,vu,.none]}}
  exact tail_any (ops:=[.ref s3.heap.objs.size,v]) ht hT hg (by with_unfolding_all rfl)
def lO (xs:List V) (lo hi:Option Int):List V:=(xs.drop (HT.sIx xs.length 0 lo)).take (HT.sIx xs.length xs.length hi - HT.sIx xs.length 0 lo)
theorem n6 (xs:List V) (lo hi:Option Int):(lO xs lo hi).length<=xs.length:=by
  unfold lO
  rw [cW,kd]
  omega
def rSlT (K:ag):V->Option Int->Option Int->Hp->VK->Prop:=fun x lo hi H Q=>∃ a xs,x=.ref a/\SqT K H a xs /\
  ¬ (HT.sIx xs.length 0 lo=0/\HT.sIx xs.length xs.length hi=xs.length)/\∀ p,H p=none->Q (.ref p) (upd H p (.tup (lO xs lo hi)))
theorem tf:SlR X (rSlT X.K):=by
  intro pins s σ H x v vl vu lo hi sl Q I rx hs pl pu h
  obtain ⟨a,xs,rfl,hx,hw,q⟩:=h
  cases rx
  obtain ⟨its,r,ht,hz⟩:=I.tuple hx
  have hlen:its.toArray.size=xs.length:=by rw [aD]; exact r.length.symm
  refine ⟨"tuple",_,jh.lookup,ht.typeIs,?_⟩
  refine HT.getItem_tuple_cut ht hs pl pu (by rw [hlen]; exact hw) ?_ (by rw [hlen]; exact hz)
  rw [hlen]
  refine ⟨.ref s.heap.objs.size,_,I.laid (t':=s.toks) (o:=.tup (lO xs lo hi)) (fun b ob q=>aQ _ q) (aL _) ?_,rfl,q _ (I.hok.fresh (aL _))⟩
  exact ⟨cT (n6 xs lo hi) hz,_,(r.drop (HT.sIx xs.length 0 lo)).take (HT.sIx xs.length xs.length hi - HT.sIx xs.length 0 lo),BM _ _⟩
def rLtT (K:ag):R2:=fun x y H Q=>∃ a b ns ms,x=.ref a/\y=.ref b/\SqT K H a (ns.map V.int)/\SqT K H b (ms.map V.int)/\Q (.bl (HT.lexLt ns ms)) H
theorem BN (hu:X.A.units < eB):OpR X (dI .Lt) (rLtT X.K):=by
  intro pins s σ H x y v u Q I rx ry h
  obtain ⟨a,b,ns,ms,rfl,rfl,ha,hb,q⟩:=h
  cases rx
  cases ry
  obtain ⟨its,r1,p1,_⟩:=I.tuple ha
  obtain ⟨its2,r2,p2,_⟩:=I.tuple hb
  have i1:fi its.toArray.toList ns:=intsAre_of r1
  have i2:fi its2.toArray.toList ms:=intsAre_of r2
  exact HT.lt_tupInts p1 p2 i1 i2 hu ⟨.bl (HT.lexLt ns ms),H,I,rfl,q⟩
def rCatT (K:ag):R2:=fun x y H Q=>∃ a b xs ys,x=.ref a/\y=.ref b/\SqT K H a xs/\SqT K H b ys/\xs≠[]/\xs.length + ys.length<=aJ /\
  (ys=[]->Q (.ref a) H)/\(ys≠[]->∀ p,H p=none->Q (.ref p) (upd H p (.tup (xs++ys))))
theorem df.nil_iff {xs:List V} {us:List aa} (r:df xs us):us=[]↔xs=[]:=by
  cases r with
  | nil=>simp
  | cons _ _=>simp
theorem EH:OpR X (ij .Add) (rCatT X.K):=by
  intro pins s σ H x y v u Q I rx ry h
  obtain ⟨a,b,xs,ys,rfl,rfl,ha,hb,hx,hz,q1,q2⟩:=h
  cases rx
  cases ry
  obtain ⟨its,r1,p1,_⟩:=I.tuple ha
  obtain ⟨its2,r2,p2,_⟩:=I.tuple hb
  refine HT.cat_tup p1 p2 (fun z=>hx (r1.nil_iff.mp z)) (fun z=>⟨.ref a,H,I,rfl,q1 (r2.nil_iff.mp z)⟩) (fun z=>?_) (by rw [<- r1.length,<- r2.length]; exact hz)
  refine ⟨.ref s.heap.objs.size,_,I.laid (t':=s.toks) (o:=.tup (xs++ys)) (fun b ob q=>aQ _ q) (aL _) ?_,rfl,q2 (fun w=>z (r2.nil_iff.mpr w)) _ (I.hok.fresh (aL _))⟩
  exact ⟨by rw [aI]; exact hz,_,r1.append r2,BM _ _⟩
end
end L2
namespace L2
open PySem PySem.Spec PyProof.Rows
def ixN (n:Nat) (i:Int):Option Nat:=if 0<=i then (if i < n then some i.toNat else none) else if -(n:Int)<=i then some (i + n).toNat else none
def atI {α:Type} (xs:List α) (i:Int):Option α:=(ixN xs.length i).bind fun j=>xs[j]?
theorem vC {n:Nat} {i:Int} {j:Nat} (h:ixN n i=some j):seqIndex? i n=some j/\j < n/\-(n:Int)<=i/\i < n:=by
  unfold ixN at h
  by_cases h0:0<=i
  · rw [if_pos h0] at h
    by_cases h1:i < n
    · rw [if_pos h1] at h
      have e:i.toNat=j:=dR h
      exact ⟨by rw [EI h0 h1,e],by omega,by omega,h1⟩
    · rw [if_neg h1] at h; cases h
  · rw [if_neg h0] at h
    by_cases h1:-(n:Int)<=i
    · rw [if_pos h1] at h
      have e:(i + n).toNat=j:=dR h
      exact ⟨by rw [BO (by omega) h1,e],by omega,h1,by omega⟩
    · rw [if_neg h1] at h; cases h
theorem vD {α:Type} {xs:List α} {i:Int} {v:α} (h:atI xs i=some v):∃ j,seqIndex? i xs.length=some j/\xs[j]?=some v/\j < xs.length/\-(xs.length:Int)<=i/\i < xs.length:=by
  unfold atI at h
  cases e:ixN xs.length i with
  | none=>rw [e] at h; cases h
  | some j =>
    rw [e] at h
    obtain ⟨h1,h2,h3,h4⟩:=vC e
    exact ⟨j,h1,h,h2,h3,h4⟩
theorem gy {α:Type} {xs:List α} {j:Nat} {v:α} (h:xs[j]?=some v):atI xs (j:Int)=some v:=by
  have hj:j < xs.length:=(aB.mp h).1
  have e:ixN xs.length (j:Int)=some j:=by
    unfold ixN
    rw [if_pos (by omega),if_pos (by omega)]; simp
  unfold atI; rw [e]; exact h
def EJ (b:dv):Prop:=∀ o i,wB b false o i=operate [o,i] (pE o i)
def IxR (X:Cx) (r:R2):Prop:=
  ∀ (value slice:dv) (pins:List (ae×Obj)) (s:aj) (σ:St) (H:Hp) (x y:V) (v u:aa) (Q:VK),Inv X pins σ H s->RelV x v->RelV y u->r x y H Q ->
    wB slice false v u=operate [v,u] (pE v u)->aZ (bD X.prog X.w) X.A (Aw value slice v u) (EP X pins σ Q) X.xe s
def MtR (X:Cx) (id:String) (r:V->List V->Hp->VK->Prop):Prop:=
  ∀ (pins:List (ae×Obj)) (s:aj) (σ:St) (H:Hp) (x:V) (xs:List V) (v:aa) (us:List aa) (Q:VK),Inv X pins σ H s->RelV x v->df xs us->r x xs H Q ->
    aZ (bD X.prog X.w) X.A (vx (.builtin id) (v :: us)) (EP X pins σ Q) X.xe s
section
variable {X:Cx} {a b:dv} {ta tb:TE} {pos:Pos}
theorem bN {r:R2} (hr:IxR X r) (ha:PE X a ta) (hb:PE X b tb) (hs:EJ b):PE X (.Subscript a b pos) (tOp r ta tb):=by
  intro pins s σ H Q I h
  exact HP (HI ha hb I h fun v u s2 x y H2 I2 rx ry q=>hr a b pins s2 σ H2 x y v u Q I2 rx ry q (hs _ _))
def HQ (K:ag):R2:=fun x y H Q=>∃ p xs i v,x=.ref p/\y=.int i/\SqL K H p xs/\atI xs i=some v/\Q v H
def HR (K:ag):R2:=fun x y H Q=>∃ p xs i v,x=.ref p/\y=.int i/\SqT K H p xs/\atI xs i=some v/\Q v H
def rIxS:R2:=fun x y H Q=>∃ z i c,x=.str z/\y=.int i/\z.length<=aJ/\atI z.cps.toList i=some c/\Q (.str ⟨#[c]⟩) H
theorem cU:IxR X (HQ X.K):=by
  intro value slice pins s σ H x y v u Q I rx ry h hs
  obtain ⟨p,xs,i,z,rfl,rfl,hq,he,q⟩:=h
  cases rx
  obtain ⟨t,rfl⟩:=ry
  obtain ⟨its,r,pl,hz⟩:=I.list hq
  obtain ⟨j,h1,h2,h3,h4,h5⟩:=vD he
  obtain ⟨w,ew,rw'⟩:=r.get h2
  have hl:=r.length
  have hn:=qJ
  have fin:EP X pins σ Q w s:=⟨z,H,I,rw',q⟩
  by_cases h0:0<=i
  · have hj:i.toNat=j:=by
      rw [EI h0 h5] at h1
      exact dR h1
    exact item_listR pl.isList h0 (by omega) (by rw [hj]; simpa using ew) fin hs
  · have hj:(i + (its.toArray.size:Int)).toNat=j:=by
      rw [BO (by omega) h4] at h1
      rw [aD,<- hl]
      exact dR h1
    exact BP (x:=w) pl.isList.typeIs JK.lookup
      (wpAny_getItem_list_neg (Q:=fun r s'=>r=w/\EP X pins σ Q r s') pl.isList (by omega) (by rw [aD] <;> omega) (by omega) (by rw [hj]; simpa using ew) ⟨rfl,fin⟩) hs
theorem cz:IxR X (HR X.K):=by
  intro value slice pins s σ H x y v u Q I rx ry h hs
  obtain ⟨p,xs,i,z,rfl,rfl,hq,he,q⟩:=h
  cases rx
  obtain ⟨t,rfl⟩:=ry
  obtain ⟨its,r,pl,hz⟩:=I.tuple hq
  obtain ⟨j,h1,h2,h3,h4,h5⟩:=vD he
  obtain ⟨w,ew,rw'⟩:=r.get h2
  have hl:=r.length
  have hn:=qJ
  have fin:EP X pins σ Q w s:=⟨z,H,I,rw',q⟩
  exact BP (x:=w) pl.typeIs slot_tuple_getitem.lookup
    (getItem_tuple (j:=j) (Q:=fun r s'=>r=w/\EP X pins σ Q r s') pl (by omega) (by omega) (by rw [aD,<- hl]; exact h1) (by simpa using ew) ⟨rfl,fin⟩) hs
theorem HS:IxR X rIxS:=by
  intro value slice pins s σ H x y v u Q I rx ry h hs
  obtain ⟨z,i,c,rfl,rfl,hz,he,q⟩:=h
  obtain ⟨t,rfl⟩:=rx
  obtain ⟨t',rfl⟩:=ry
  obtain ⟨j,h1,h2,h3,h4,h5⟩:=vD he
  have hl:z.cps.toList.length=z.length:=by simp [Str.length]
  rw [hl] at h1 h4 h5
  have hn:=qJ
  exact tail_any (HU s z t) slot_str_getitem.lookup (getItem_str (c:=c) (by
    have e1:decide (i < -(2 ^ 63:Int))=false:=decide_eq_false (by omega)
    have e2:decide (i ≥ 2 ^ 63)=false:=decide_eq_false (by omega)
    rw [e1,e2,HV]) (by rw [h1]; simpa using h2) ⟨.str ⟨#[c]⟩,H,I.tok _,⟨_,rfl⟩,q⟩) hs
theorem yh (its:List aa) (n j:Nat) (u:aa):dh (·.setIfInBounds j u) {cls:=.type "list",data:=.seq its.toArray n}={cls:=.type "list",data:=.seq (its.set j u).toArray n}:=by
  simp [dh]
theorem Inv.lst {pins:List (ae×Obj)} {σ:St} {H:Hp} {s:aj} {p:ae} {xs:List V} (I:Inv X pins σ H s) (h:H p=some (.lst xs)) :
    ∃ (its:List aa) (n:Nat),df xs its/\s.heap.get? p=some {cls:=.type "list",data:=.seq its.toArray n}/\xs.length<=aJ:=by
  obtain ⟨z,its,n,r,e⟩:=I.hok p _ h
  exact ⟨its,n,r,e,z⟩
theorem Inv.lstUpd {pins:List (ae×Obj)} {σ:St} {H:Hp} {s:aj} {p:ae} {xs ys:List V} {its its':List aa} {n n':Nat} {f:Obj->Obj} (I:Inv X pins σ H s) (h:H p=some (.lst xs))
    (ho:s.heap.get? p=some {cls:=.type "list",data:=.seq its.toArray n}) (hf:f {cls:=.type "list",data:=.seq its.toArray n}={cls:=.type "list",data:=.seq its'.toArray n'}) (r:df ys its') (hz:ys.length<=aJ) (t:Nat) :
    Inv X pins σ (upd H p (.lst ys)) {s with heap:=s.heap.update p f,toks:=t}:=by
  have e:(s.heap.update p f).get? p=some {cls:=.type "list",data:=.seq its'.toArray n'}:=by
    rw [oN f ho (by rw [hf] <;> rfl),hf]
  refine I.write (x:=p) (e:=p) (by rw [h]; trivial) (.inl rfl) (fun b u hb q=>(fj _ _ (fY hb)).trans q) ⟨_,e⟩ ?_
  exact ⟨hz,its',n',r,e⟩
def rSetL:V->V->V->Hp->(Hp->Prop)->Prop:=fun o i v H Q=>∃ p xs k j,o=.ref p/\i=.int k/\H p=some (.lst xs)/\ixN xs.length k=some j/\Q (upd H p (.lst (xs.set j v)))
theorem pZ:PSet X rSetL:=by
  intro pins s σ H o i v ov iv u Q I ro ri rv h
  obtain ⟨p,xs,k,j,rfl,rfl,hp,hj,q⟩:=h
  cases ro
  obtain ⟨t,rfl⟩:=ri
  obtain ⟨its,n,r,ho,hz⟩:=I.lst hp
  obtain ⟨h1,h2,h3,h4⟩:=vC hj
  have hl:=r.length
  have hn:=qJ
  have I':Inv X pins σ (upd H p (.lst (xs.set j v))) {s with heap:=s.heap.update p (dh (·.setIfInBounds j u))}:=
    I.lstUpd hp ho (yh its n j u) (r.set rv j) (by rw [EK]; exact hz) s.toks
  by_cases h0:0<=k
  · have hk:k.toNat=j:=by
      rw [EI h0 h4] at h1
      exact dR h1
    exact PySem.W.ki_setAt ho h0 (by omega) (by rw [aD,<- hl]; exact h4) (by rw [hk]; exact ⟨_,I',q⟩)
  · have hk:(k + (its.toArray.size:Int)).toNat=j:=by
      rw [BO (by omega) h3] at h1
      rw [aD,<- hl]
      exact dR h1
    exact PySem.W.ki_setBack ho (by omega) (by rw [aD,<- hl]; exact h3) (by omega) (by rw [hk]; exact ⟨_,I',q⟩)
theorem vE (lo hi:Option Int) (n:Nat):(kX lo hi none n).1=((HT.sIx n 0 lo:Nat):Int)/\(kX lo hi none n).2.1=((HT.sIx n n hi:Nat):Int)/\(kX lo hi none n).2.2=1:=by
  refine ⟨?_,?_,rfl⟩
  · cases lo with
    | none=>simp [kX,HT.sIx]
    | some i =>
      simp only [kX,HT.sIx,Bd,show (1:Int) > 0 by decide,if_true]
      by_cases h:i < 0
      · simp only [h,if_true] <;> omega
      · simp only [h,if_false] <;> omega
  · cases hi with
    | none=>simp [kX,HT.sIx]
    | some i =>
      simp only [kX,HT.sIx,Bd,show (1:Int) > 0 by decide,if_true]
      by_cases h:i < 0
      · simp only [h,if_true] <;> omega
      · simp only [h,if_false] <;> omega
theorem ue (its:List aa) (lo hi:Option Int):slicePick its.toArray lo hi none=((its.drop (HT.sIx its.length 0 lo)).take (HT.sIx its.length its.length hi - HT.sIx its.length 0 lo)).toArray:=by
  obtain ⟨h1,h2,h3⟩:=vE lo hi its.toArray.size
  unfold slicePick
  rw [h1,h2,h3]
  simp only [sliceRange_one,pick_run,aD] <;> rfl
def rSlL (K:ag):V->Option Int->Option Int->Hp->VK->Prop:=fun x lo hi H Q=>∃ a xs,x=.ref a/\SqL K H a xs/\∀ p,H p=none->Q (.ref p) (upd H p (.lst (lO xs lo hi)))
theorem oO:SlR X (rSlL X.K):=by
  intro pins s σ H x v vl vu lo hi sl Q I rx hs pl pu h
  obtain ⟨a,xs,rfl,hx,q⟩:=h
  cases rx
  obtain ⟨its,r,ht,hz⟩:=I.list hx
  have hlen:=r.length
  refine ⟨"list",_,JK.lookup,ht.isList.typeIs,?_⟩
  refine wpAny_getItem_list_slice ht.isList hs pl pu .none (by simp) ?_ (by rw [aD] <;> omega)
  rw [ue,<- hlen]
  refine ⟨.ref s.heap.objs.size,_,I.laid (t':=s.toks) (o:=.lst (lO xs lo hi)) (fun b ob q=>aQ _ q) (aL _) ?_,rfl,q _ (I.hok.fresh (aL _))⟩
  exact ⟨cT (n6 xs lo hi) hz,_,0,(r.drop (HT.sIx xs.length 0 lo)).take (HT.sIx xs.length xs.length hi - HT.sIx xs.length 0 lo),cB _ rfl⟩
theorem hJ:mY X (.builtin "len") (fun xs H Q=>∃ p ys,xs=[.ref p]/\(SqL X.K H p ys\/SqT X.K H p ys)/\Q (.int ys.length) H):=by
  intro pins s σ H xs us Q I r h
  obtain ⟨p,ys,rfl,hq,q⟩:=h
  obtain ⟨u,rfl,rx⟩:=vals1 r
  cases rx
  have hn:=qJ
  rcases hq with hq | hq
  · obtain ⟨its,r',pl,hz⟩:=I.list hq
    have hlen:=r'.length
    exact Calls.call_len_list pl.isList (by simp only [aD] <;> omega) ⟨.int ys.length,H,I.tok _,⟨s.toks + 1,by rw [aD,hlen]⟩,q⟩
  · obtain ⟨its,r',pl,hz⟩:=I.tuple hq
    have hlen:=r'.length
    exact len_tuple pl (by simp only [aD] <;> omega) ⟨.int ys.length,H,I.tok _,⟨s.toks + 1,by rw [aD,hlen]⟩,q⟩
theorem p0:mY X (.type "list") (fun xs H Q=>∃ p ys,xs=[.ref p]/\(SqL X.K H p ys\/SqT X.K H p ys)/\∀ l,H l=none->Q (.ref l) (upd H l (.lst ys))):=by
  intro pins s σ H xs us Q I r h
  obtain ⟨p,ys,rfl,hq,q⟩:=h
  obtain ⟨u,rfl,rx⟩:=vals1 r
  cases rx
  have fin:∀ (its:List aa),df ys its->ys.length<=aJ->∀ (h':cE) (c':Nat),(∀ b o',s.heap.get? b=some o'->h'.get? b=some o') ->
      h'.get? s.heap.objs.size=some {cls:=.type "list",dict:=none,data:=.seq its.toArray c',slots:=#[]}->EP X pins σ Q (.ref s.heap.objs.size) {s with heap:=h'}:=fun its r' hz h' c' kp e =>
    ⟨.ref s.heap.objs.size,_,I.laid (t':=s.toks) kp (aL _) (show eM X.prog X.w _ h' _ (.lst ys) from ⟨hz,its,c',r',e⟩),rfl,q _ (I.hok.fresh (aL _))⟩
  rcases hq with hq | hq
  · obtain ⟨its,r',pl,hz⟩:=I.list hq
    have hlen:=r'.length
    obtain ⟨o,ho,hc,n,hd⟩:=pl.isList
    exact call_list_seq p (.inl rfl) ho hc hd (fun h' c' kp e=>fin its r' hz h' c' kp e) (by simp only [aD] <;> omega)
  · obtain ⟨its,r',pl,hz⟩:=I.tuple hq
    have hlen:=r'.length
    obtain ⟨o,ho,hc,n,hd⟩:=pl
    exact call_list_seq p (.inr rfl) ho hc hd (fun h' c' kp e=>fin its r' hz h' c' kp e) (by simp only [aD] <;> omega)
theorem uf:mY X (.type "tuple") (fun xs H Q=>∃ p ys,xs=[.ref p]/\((SqL X.K H p ys/\∀ l,H l=none->Q (.ref l) (upd H l (.tup ys)))\/(SqT X.K H p ys/\Q (.ref p) H))):=by
  intro pins s σ H xs us Q I r h
  obtain ⟨p,ys,rfl,h⟩:=h
  obtain ⟨u,rfl,rx⟩:=vals1 r
  cases rx
  rcases h with ⟨hq,q⟩ | ⟨hq,q⟩
  · obtain ⟨its,r',pl,hz⟩:=I.list hq
    have hlen:=r'.length
    refine call_tuple_list pl.isList (fun h' kp=>?_) (by simp only [aD] <;> omega)
    have I1:Inv X pins σ H {s with heap:=h'}:=I.kept (t':=s.toks) kp
    have I2:Inv X pins σ (upd H h'.objs.size (.tup ys)) {s with heap:=h'.push {cls:=.type "tuple",data:=.seq its.toArray}}:=
      I1.laid (t':=s.toks) (fun b o e=>aQ _ e) (aL _) (show eM X.prog X.w _ _ _ (.tup ys) from ⟨hz,its,r',BM _ _⟩)
    exact ⟨.ref h'.objs.size,_,I2,rfl,q _ (I1.hok.fresh (aL _))⟩
  · obtain ⟨its,r',pl,hz⟩:=I.tuple hq
    exact call_tuple_same pl ⟨.ref p,H,I,rfl,q⟩
def tyV (K:ag) (T:String) (x:V) (H:Hp):Prop:=match x with
  | .str _=>T="str"
  | .int _=>T="int"
  | .ref p=>(T="list"/\∃ xs,SqL K H p xs)\/(T="tuple"/\∃ o,K.lookup p=some o/\o.cls=.type "tuple"/\o.dict=none) \/
      (T="dict"/\((∃ kvs,H p=some (.dK kvs))\/∃ kvs,H p=some (.dT kvs)))\/(T="set"/\∃ S n,H p=some (.set S n))
  | _=>False
theorem BQ {pins:List (ae×Obj)} {σ:St} {H:Hp} {s:aj} {T:String} {x:V} {v:aa} (I:Inv X pins σ H s) (r:RelV x v) (ty:tyV X.K T x H) :
    s.TypeIs v T/\∀ a,v=.ref a->∃ ob,s.heap.get? a=some ob/\ob.dict=none:=by
  cases x with
  | str z =>
    obtain ⟨t,rfl⟩:=r
    cases (show T="str" from ty)
    exact ⟨HU s z t,fun _ e=>nomatch e⟩
  | int i =>
    obtain ⟨t,rfl⟩:=r
    cases (show T="int" from ty)
    exact ⟨typeIs_int s i t,fun _ e=>nomatch e⟩
  | ref p =>
    cases r
    rcases ty with ⟨rfl,xs,hq⟩ | ⟨rfl,o,hk,hc,hd⟩ | ⟨rfl,hk⟩ | ⟨rfl,S,n,hk⟩
    · obtain ⟨its,_,pl,_⟩:=I.list hq
      refine ⟨pl.isList.typeIs,fun a e=>?_⟩
      cases e
      obtain ⟨o,n,e,c,hd,_⟩:=pl
      exact ⟨o,e,hd⟩
    · refine ⟨⟨o,I.kIn p o hk,hc⟩,fun a e=>?_⟩
      cases e
      exact ⟨o,I.kIn _ o hk,hd⟩
    · have z:∃ o,s.heap.get? p=some o/\o.ExactDict:=by
        rcases hk with ⟨kvs,hk⟩ | ⟨kvs,hk⟩
        · obtain ⟨_,_,_,_,o,_,_,e,ex,_⟩:=I.hok p _ hk
          exact ⟨o,e,ex⟩
        · obtain ⟨_,_,_,_,o,_,_,e,ex,_⟩:=I.hok p _ hk
          exact ⟨o,e,ex⟩
      obtain ⟨o,e,ex⟩:=z
      refine ⟨⟨o,e,ex.1⟩,fun a e2=>?_⟩
      cases e2
      exact ⟨o,e,ex.2.1⟩
    · obtain ⟨o,_,_,_,e,ex,_⟩:=I.hok p _ hk
      refine ⟨⟨o,e,ex.1⟩,fun a e2=>?_⟩
      cases e2
      exact ⟨o,e,ex.2.1⟩
  | _=>exact cS ty
def tBM0 (K:ag) (T:String) (r:V->List V->Hp->VK->Prop) (to:TE):TE:=fun σ H Q=>to σ H fun x H1=>tyV K T x H1/\r x [] H1 Q
def tBM (K:ag) (T:String) (r:V->List V->Hp->VK->Prop) (to:TE) (t:TA):TE:=fun σ H Q=>to σ H fun x H1=>tyV K T x H1/\t σ H1 fun xs H2=>r x xs H2 Q
variable {o e:dv} {es:List dv} {to:TE} {t:TA} {name:Str} {apos cpos:Pos} {T id:String} {r:V->List V->Hp->VK->Prop}
theorem HW (pa:PlainAttrs T) (slot:Slot T name id) (hty:typeOf (.builtin id)=pure (.type "method_descriptor")) (hm:MtR X id r) (ho:PE X o to)
    (hbase:kR o name X.env (fV o X.env)=fV o X.env:=by rfl) (hline:(apos.endLine == cpos.line)=true:=by rfl):PE X (.Call (.Attribute o name apos) [] [] cpos) (tBM0 X.K T r to):=by
  intro pins s σ H Q I h
  refine Be hbase hline (thn (ho pins s σ H _ I h) fun v s1 ⟨x,H1,I1,r1,ty,q1⟩=>?_)
  obtain ⟨h1,h2⟩:=BQ I1 r1 ty
  exact ⟨T,id,pa,slot,hty,h1,h2,m8 rfl (zi (hm pins s1 σ H1 x [] v [] Q I1 r1 .nil q1))⟩
theorem lY (pa:PlainAttrs T) (slot:Slot T name id) (hty:typeOf (.builtin id)=pure (.type "method_descriptor")) (hm:MtR X id r) (ho:PE X o to) (ha:PA X (e :: es) t)
    (hbase:kR o name X.env (fV o X.env)=fV o X.env:=by rfl)
    (hfew:((i9 cpos (cH (e :: es) X.env)).all (fun x=>!x.1) && (mH cpos (jd [] X.env)).all (fun x=>x.1.isSome)
      && decide ((e :: es).length + ([]:List JI).length + (if ([]:List JI).isEmpty then 0 else 1) < 30))=true:=by rfl)
    (hline:(apos.endLine == cpos.line)=true:=by rfl) (hs:cH (e :: es) X.env=(false,fV e X.env) :: cH es X.env:=by rfl) (hplain:(i9 cpos (cH es X.env)).any (·.1)=false:=by rfl) :
    PE X (.Call (.Attribute o name apos) (e :: es) [] cpos) (tBM X.K T r to t):=by
  intro pins s σ H Q I h
  refine wpAny_Call_method_late hbase hfew hline rfl (thn (ho pins s σ H _ I h) fun v s1 ⟨x,H1,I1,r1,ty,q1⟩=>?_)
  obtain ⟨h1,h2⟩:=BQ I1 r1 ty
  refine ⟨T,id,pa,slot,hty,h1,h2,?_⟩
  have hA:=ha cpos pins s1 σ H1 _ I1 q1
  rw [hs] at hA |-
  refine m8 (by show (false || (i9 cpos (cH es X.env)).any (·.1))=false; rw [hplain] <;> rfl) (yi ?_)
  exact thn hA fun us s2 ⟨vs,H2,I2,r2,q2⟩=>hm pins s2 σ H2 x vs v us Q I2 r1 r2 q2
end
end L2
namespace L2
open PySem PySem.Spec PyProof.Rows
def MtM (X:Cx) (id:String) (r:V->List V->Hp->VK->Prop):Prop:=
  ∀ (pins:List (ae×Obj)) (s:aj) (σ:St) (H:Hp) (x:V) (xs:List V) (v:aa) (us:List aa) (Q:VK),Inv X pins σ H s->RelV x v->df xs us->r x xs H Q ->
    aZ (bD X.prog X.w) X.A (vx (.builtin id) (v :: us)) (EP X pins σ Q) X.xe s
theorem df.one:∀ {x:V} {us:List aa},df [x] us->∃ u,us=[u]/\RelV x u
  | _,_,.cons r .nil=>⟨_,rfl,r⟩
theorem df.two:∀ {x y:V} {us:List aa},df [x,y] us->∃ u v,us=[u,v]/\RelV x u/\RelV y v
  | _,_,_,.cons r (.cons q .nil)=>⟨_,_,rfl,r,q⟩
theorem df.zero:∀ {us:List aa},df [] us->us=[]
  | _,.nil=>rfl
theorem df.dropLast {xs:List V} {us:List aa} (h:df xs us):df xs.dropLast us.dropLast:=by
  induction h with
  | nil=>exact .nil
  | cons r t ih =>
    cases t with
    | nil=>exact .nil
    | cons q t'=>exact .cons r ih
theorem df.eraseIdx:∀ {xs:List V} {us:List aa} (i:Nat),df xs us->df (xs.eraseIdx i) (us.eraseIdx i)
  | _,_,_,.nil=>.nil
  | _,_,0,.cons _ t=>t
  | _,_,i + 1,.cons r t=>.cons r (df.eraseIdx i t)
theorem df.reverse {xs:List V} {us:List aa} (h:df xs us):df xs.reverse us.reverse:=by
  induction h with
  | nil=>exact .nil
  | cons r t ih=>rw [BR,BR]; exact df.append ih (.cons r .nil)
theorem yj {α:Type} (l:List α):l.eraseIdx (l.length - 1)=l.dropLast:=by
  induction l with
  | nil=>rfl
  | cons a r ih =>
    cases r with
    | nil=>rfl
    | cons b r =>
      have e:(a :: b :: r).length - 1=((b :: r).length - 1) + 1:=by
        have h1:(a :: b :: r).length=r.length + 2:=rfl
        have h2:(b :: r).length=r.length + 1:=rfl
        omega
      rw [e,List.eraseIdx_cons_succ,ih]
      all_goals rfl
theorem uI {α:Type}:∀ (l:List α) (i:Nat),(l.eraseIdx i).length<=l.length
  | [],_=>aL _
  | _ :: _,0=>gi _
  | _ :: r,i + 1=>Nat.succ_le_succ (uI r i)
section
variable {X:Cx} {pins:List (ae×Obj)} {σ:St} {H:Hp} {s:aj} {l b:ae} {xs ys zs:List V}
theorem Inv.lset {its its':List aa} {n:Nat} {f:Array aa->Array aa} {t':Nat} (I:Inv X pins σ H s) (hH:H l=some (.lst xs))
    (e:s.heap.get? l=some {cls:=.type "list",data:=.seq its.toArray n}) (hf:f its.toArray=its'.toArray) (hv:df ys its') (hz:ys.length<=aJ) :
    Inv X pins σ (upd H l (.lst ys)) {s with heap:=s.heap.update l (dh f),toks:=t'}:=by
  have q:=PySem.IsL.update e f
  rw [hf] at q
  refine I.write (x:=l) (e:=l) (by rw [hH]; exact trivial) (.inl rfl) (fun b' u hb hu=>(fj s.heap (dh f) (fY hb)).trans hu) ⟨_,q⟩ ?_
  exact ⟨hz,its',_,hv,q⟩
theorem Inv.lnew {its:List aa} {t':Nat} (I:Inv X pins σ H s) (hv:df ys its) (hz:ys.length<=aJ) :
    Inv X pins σ (upd H s.heap.objs.size (.lst ys)) {s with heap:=s.heap.push {cls:=.type "list",data:=.seq its.toArray},toks:=t'}:=
  I.laid (fun _ _ q=>aQ _ q) (aL _) ⟨hz,its,0,hv,cB _ rfl⟩
theorem Inv.fresh (I:Inv X pins σ H s):H s.heap.objs.size=none:=I.hok.fresh (aL _)
theorem Inv.lstM (I:Inv X pins σ H s) (hH:H l=some (.lst xs)):xs.length<=aJ/\∃ (its:List aa) (n:Nat),df xs its/\xs.length=its.length/\s.heap.get? l=some {cls:=.type "list",data:=.seq its.toArray n}:=by
  obtain ⟨z,its,n,r,e⟩:=I.hok l _ hH
  exact ⟨z,its,n,r,r.length,e⟩
theorem BU {n:Nat} (h:n<=aJ):kB n=false:=by
  unfold kB
  exact decide_eq_false (by omega)
end
section
variable {X:Cx}
def EL:V->List V->Hp->VK->Prop:=fun x vs H Q=>∃ l xs y,x=.ref l/\vs=[y]/\H l=some (.lst xs)/\xs.length < aJ/\Q .non (upd H l (.lst (xs++[y])))
theorem gX:MtM X "list.append" EL:=by
  intro pins s σ H x vs v us Q I rx rv h
  obtain ⟨l,xs,y,rfl,rfl,hH,hz,q⟩:=h
  cases rx
  obtain ⟨u,rfl,ru⟩:=rv.one
  obtain ⟨z,its,n,r,hl,e⟩:=I.lstM hH
  refine pF F.slot_list_append ⟨_,e,rfl⟩ F.entry_list_append (F.args_list_append_2 _ _) (PySem.list_append l its.toArray n u (by rw [aD]; omega)) ⟨e,?_⟩
  refine ⟨.non,_,I.lset (its':=its++[u]) hH e (by simp) (r.append (.cons ru .nil)) ?_,rfl,q⟩
  rw [aI,yk]
  omega
def EM:V->List V->Hp->VK->Prop:=fun x vs H Q=>∃ l b xs zs,x=.ref l/\vs=[.ref b]/\H l=some (.lst xs)/\H b=some (.lst zs)/\xs.length + zs.length<=aJ/\Q .non (upd H l (.lst (xs++zs)))
theorem mt_extend:MtM X "list.extend" EM:=by
  intro pins s σ H x vs v us Q I rx rv h
  obtain ⟨l,b,xs,zs,rfl,rfl,hH,hB,hz,q⟩:=h
  cases rx
  obtain ⟨u,rfl,ru⟩:=rv.one
  cases ru
  obtain ⟨z,its,n,r,hl,e⟩:=I.lstM hH
  obtain ⟨z2,its2,n2,r2,hl2,e2⟩:=I.lstM hB
  have hsz:its.toArray.size + its2.toArray.size<=aJ:=by rw [aD,aD]; omega
  have hlong:¬ (!its.toArray.isEmpty && kB (its.toArray.size + its2.toArray.size))=true:=by
    rw [BU hsz,Bool.and_false]
    exact bU
  refine pF F.slot_list_extend ⟨_,e,rfl⟩ F.entry_list_extend (F.args_list_extend_2 _ _)
    (AutoSeq1.list_extend_list_list_0 l its.toArray n b its2.toArray n2 hlong (by rw [aD]; omega) (by omega)) ⟨e,e2,?_⟩
  refine ⟨.non,_,I.lset (its':=its++its2) hH e (by simp) (r.append r2) ?_,rfl,q⟩
  rw [aI]
  omega
def rPop:V->List V->Hp->VK->Prop:=fun x vs H Q=>∃ l xs y,x=.ref l/\vs=[]/\H l=some (.lst xs)/\xs[xs.length - 1]?=some y/\Q y (upd H l (.lst xs.dropLast))
theorem HX:MtM X "list.pop" rPop:=by
  intro pins s σ H x vs v us Q I rx rv h
  obtain ⟨l,xs,y,rfl,rfl,hH,hy,q⟩:=h
  cases rx
  have hus:=rv.zero
  subst hus
  obtain ⟨z,its,n,r,hl,e⟩:=I.lstM hH
  obtain ⟨u,hu,ru⟩:=r.get hy
  have hy':its.toArray[its.toArray.size - 1]?=some u:=by
    show its.toArray[its.length - 1]?=some u
    rw [<- xM,<- hl]
    exact hu
  refine pF F.slot_list_pop ⟨_,e,rfl⟩ F.entry_list_pop (F.args_list_pop_1 _) (MeetsSeq.list_pop_last l its.toArray n u hy' (by rw [aD]; omega)) ⟨e,?_⟩
  refine ⟨y,_,I.lset (its':=its.dropLast) hH e ?_ r.dropLast ?_,ru,q⟩
  · show its.toArray.eraseIdxIfInBounds (its.toArray.size - 1)=its.dropLast.toArray
    rw [aD,rO,yj]
  · rw [km]
    omega
def HY:V->List V->Hp->VK->Prop:=fun x vs H Q=>∃ l xs i k y,x=.ref l/\vs=[.int i]/\H l=some (.lst xs)/\-(2 ^ 63)<=i/\i < 2 ^ 63/\seqIndex? i xs.length=some k/\xs[k]?=some y/\Q y (upd H l (.lst (xs.eraseIdx k)))
theorem BV:MtM X "list.pop" HY:=by
  intro pins s σ H x vs v us Q I rx rv h
  obtain ⟨l,xs,i,k,y,rfl,rfl,hH,h1,h2,hk,hy,q⟩:=h
  cases rx
  obtain ⟨u,rfl,ru⟩:=rv.one
  obtain ⟨t,rfl⟩:=ru
  obtain ⟨z,its,n,r,hl,e⟩:=I.lstM hH
  obtain ⟨w,hw,rw'⟩:=r.get hy
  refine pF F.slot_list_pop ⟨_,e,rfl⟩ F.entry_list_pop (F.args_list_pop_2 _ _)
    (MeetsSeq.list_pop_at l its.toArray n i t k w (fitsIndex_both h1 h2) (by rw [aD,<- hl]; exact hk) (by rw [<- xM]; exact hw) (by rw [aD]; omega)) ⟨e,?_⟩
  refine ⟨y,_,I.lset (its':=its.eraseIdx k) hH e ?_ (r.eraseIdx k) ?_,rw',q⟩
  · show its.toArray.eraseIdxIfInBounds k=(its.eraseIdx k).toArray
    rw [rO]
  · have:=uI xs k
    omega
def rCat:R2:=fun x y H Q=>∃ l b xs zs,x=.ref l/\y=.ref b/\H l=some (.lst xs)/\H b=some (.lst zs)/\xs.length + zs.length<=aJ/\∀ p,H p=none->Q (.ref p) (upd H p (.lst (xs++zs)))
theorem BX:OpR X (ij .Add) rCat:=by
  intro pins s σ H x y v u Q I rx ry h
  obtain ⟨l,b,xs,zs,rfl,rfl,hH,hB,hz,q⟩:=h
  cases rx
  cases ry
  obtain ⟨z,its,n,r,hl,e⟩:=I.lstM hH
  obtain ⟨z2,its2,n2,r2,hl2,e2⟩:=I.lstM hB
  refine PySem.P.add_list e e2 ?_ (by rw [aD,aD]; omega)
  have ea:its.toArray++its2.toArray=(its++its2).toArray:=by simp
  rw [ea]
  exact ⟨.ref _,_,I.lnew (t':=s.toks) (r.append r2) (by rw [aI]; omega),rfl,q _ I.fresh⟩
end
section
variable {prog:aW} {w:bO} {A:bZ} {E:aa->aj->Prop} {s:aj}
end
section
variable {X:Cx}
end
end L2
namespace Att
open PySem PySem.W PySem.Calls PyProof.Rows
theorem ints_of_wellAll {P:Params} {h:cE}:∀ (ns:List Int) (vs:List aa),WellAll P h vs (ns.map WData.int)->fi vs ns:=by
  intro ns
  induction ns with
  | nil =>
    intro vs w
    rw [xK] at w
    cases w
    exact .nil
  | cons n ns ih =>
    intro vs w
    rw [cw] at w
    cases w with
    | cons a b =>
      cases a
      exact .cons _ _ (ih _ b)
theorem script_of {l:OpenLaw} {n:Nat} (hn:l.most=some n) {P:Params} {h:cE} {args:List WData} {vals:List aa}
    (hpre:l.row.toRowW.claim.pre args=true) (hwl:WellAll P h vals args) :
    ∃ a vs ns,vals=[Value.ref a]/\args=[WData.list (ns.map WData.int)]/\h.get? a=some {cls:=.type "list",data:=.seq vs.toArray}/\fi vs ns/\ns.length<=n:=by
  have hsh:WShape.hasAll [] args [.list .int]=true:=(pre_splitW hpre).1
  have hc:l.pre.holds [] {args:=args}=true:=(pre_splitW hpre).2
  obtain ⟨d,r,rfl,h1,h2⟩:=hasAllW_cons hsh
  obtain rfl:=hasAllW_nil h2
  obtain ⟨xs,rfl,h3⟩:=hasW_list h1
  obtain ⟨ns,rfl⟩:=items_int h3
  have hlen:ns.length<=n:=by
    unfold OpenLaw.pre at hc
    have h4:(WTm.not (.lt (.lit (.int (n:Int))) (.len (.arg 0)))).holds [] {args:=[.list (ns.map .int)]}=true:=by
      have h4:=(holds_andW hc).1
      rw [hn] at h4
      exact h4
    have h5:=condW_of h4 (w_not (w_lt w_lit (w_len_list (w_arg rfl))))
    rw [ah] at h5
    refine Nat.le_of_not_lt fun q=>?_
    have q':(n:Int) < ((ns.length:Nat):Int):=by omega
    first
      | (rw [decide_eq_true q'] at h5; exact absurd h5 (by decide))
      | (simp at h5; omega)
  cases hwl with
  | cons w1 w2 =>
    cases w2
    cases w1 with
    | list ho hall=>exact ⟨_,_,ns,rfl,rfl,ho,ints_of_wellAll ns _ hall,hlen⟩
theorem post_true (l:OpenLaw) (args:List WData):l.row.toRowW.claim.post args (.bool true) args=true:=
  postW_of (r:=l.row.toRowW) (X:=(true == true))
    (show JL [] (.bool true) .bool=true by first | rfl | decide | simp [JL,WShape.arms,WShape.armsAll])
    (show (WTm.eq .res (.lit (.bool true))).value [] {args:=args,res:=some (.bool true),after:=args}=some (.bool (true == true)) from w_eq_bool (w_res rfl) w_lit) rfl
section
variable {prog:aW} {w:bO} {A:bZ} {E:aa->aj->Prop} {s:aj} {K:Frag}
end
end Att
namespace L2
open PySem PySem.Spec PyProof.Rows
theorem uJ:∀ {vs:List aa} {ns:List Int},fi vs ns->df (ns.map V.int) vs
  | _,_,.nil=>.nil
  | _,_,.cons n t h=>.cons ⟨t,rfl⟩ (uJ h)
def Only (H:Hp):Prop:=∀ b,H b=none\/∃ o xs,H b=some (.frz o (.lst xs))
theorem BY {P:aW} {w:bO} {K:ag} {mg mb:Str->Option aa} {CX:CXT} {k:Nat} {fa a:ae} {fd:cu} {x:Str} {sp:Sp} {s₁:aj} {vs:List aa} {ns:List Int}
    (KX:K.In s₁.heap) (hns:s₁.heap.Ns aN mg) (hb:s₁.heap.Ns HA mb) (hbb:∀ x:Str,x≠"__name__"->mb x=fv x) (hlim:s₁.heap.NoLimit) (hg:s₁.gens=#[])
    (ha:s₁.heap.get? a=some {cls:=.type "list",data:=.seq vs.toArray}) (hi:fi vs ns) (hl:ns.length<=aJ) (hr:eA k ug)
    (F:∀ base:cE,K.In base->base.Ns aN mg->bX P w K mg base CX k fa fd [x] sp) (hbind:∀ (s:aj) (u:aa),t9 s fd ⟨[u],[]⟩ [(x,u)])
    (hsp:∀ H:Hp,Only H->SqL K H a (ns.map V.int)->sp [.ref a] H (fun v _=>v=.bl true) fun _ _ _=>False)
    (hCX:∀ H e s',CX [] H s₁ (fun _ _ _=>False) e s'->False) :
    nA (bD P w) ug (.call (.ref fa) ⟨[.ref a],[]⟩) (fun r s'=>r=.ok (.ret (.bool true))/\OldK s₁.heap s'.heap/\s'.os=s₁.os/\nr s'.gens) s₁:=by
  have rv:=uJ hi
  have lenV:=hi.length
  -- from an abstract heap in which nothing but the script may be tracked
  have core:∀ H:Hp,Only H->SqL K H a (ns.map V.int)->HOk P w H s₁.heap->(∀ b,H b≠none->b=a)->(H a≠none->K.lookup a=none) ->
      nA (bD P w) ug (.call (.ref fa) ⟨[.ref a],[]⟩) (fun r s'=>r=.ok (.ret (.bool true))/\OldK s₁.heap s'.heap/\s'.os=s₁.os/\nr s'.gens) s₁:=by
    intro H hO hS hok hA hK
    have base_of:∀ {b:ae} {o:Obj},s₁.heap.get? b=some o->H b=none->(vh s₁.heap H).get? b=some o:=fun e n=>Bm e n
    have noA:∀ {b:ae} {o:Obj} {es:Array DictEntry} {ep:Nat},s₁.heap.get? b=some o->o.data=.dict es ep->H b=none:=fun {b o es ep} e d=>by
      cases q:H b with
      | none=>rfl
      | some u =>
        have e':b=a:=hA b (by rw [q]; simp)
        subst e'
        rw [ha] at e; cases e
        have d':Data.seq vs.toArray _=Data.dict es ep:=d
        cases d'
    have nsK:∀ {b:ae} {m:Str->Option aa},s₁.heap.Ns b m->(vh s₁.heap H).Ns b m:=fun {b m} ⟨o,es,ep,e,d,r⟩=>⟨o,es,ep,base_of e (noA e d),d,r⟩
    have hKb:K.In (vh s₁.heap H):=fun b o e=>base_of (KX b o e) (by
      cases q:H b with
      | none=>rfl
      | some u =>
        have e':b=a:=hA b (by rw [q]; simp)
        subst e'
        rw [hK (by rw [q]; simp)] at e; cases e)
    have hM:Mod K mg (vh s₁.heap H):=⟨hKb,nsK hns,⟨mb,nsK hb,hbb⟩,let ⟨mc,h1,h2⟩:=hlim; ⟨mc,nsK h1,h2⟩⟩
    have e0:vz P w K mg (vh s₁.heap H) ug [] s₁ H:=⟨rfl,hM,fun b o e=>Es e,Nat.le_of_eq (Ak _ _),trivial,fun b hb=>absurd (show b∈([]:List ae) from hb) (by simp),hok,.of_eq hg⟩
    refine lW ((F _ hKb (nsK hns)).run ug [] s₁ H ⟨[.ref a],[]⟩ [.ref a] [.ref a] _ _ hr e0 (hbind s₁ (.ref a)) (.cons rfl .nil) (hsp H hO hS)) fun r s' h=>?_
    cases r with
    | error e=>exact (hCX H e s' h).elim
    | ok fl =>
      cases fl with
      | next=>exact cS h
      | brk=>exact cS h
      | cont=>exact cS h
      | ret u =>
        obtain ⟨v,H',os,bare,un,hok',r',q⟩:=h
        have q':v=.bl true:=q
        subst q'
        obtain rfl:u=Value.bool true:=r'
        refine ⟨rfl,OldK.of_keep fun b o e=>?_,os,bare⟩
        cases q:H b with
        | none=>exact un.keep b o e q (by intro z; exact absurd (show b∈([]:List ae) from z) (by simp)) (by simp)
        | some u =>
          rcases hO b with z | ⟨ob,xs,z⟩
          · rw [q] at z; cases z
          · have z2:=un.frzs b ob _ z
            obtain ⟨e1,_⟩:=hok b _ z
            obtain ⟨e2,_⟩:=hok' b _ z2
            rw [e] at e1; cases e1
            exact e2
  cases hk:K.lookup a with
  | some o =>
    -- the script is one of the module's own objects
    have e:=KX a o hk
    rw [ha] at e
    cases e
    refine core (fun _=>none) (fun _=>.inl rfl) (.inr ⟨_,vs.toArray,_,hk,rfl,rfl,rfl,by rw [aD,lenV]; exact hl,by simpa using rv⟩) (fun b u z=>by have z':(none:Option HO)=some u:=z; cases z') (fun b z=>absurd rfl z) fun z=>absurd rfl z
  | none =>
    refine core (fun b=>if b=a then some (.frz {cls:=.type "list",data:=.seq vs.toArray} (.lst (ns.map V.int))) else none) (fun b=>?_) (.inl (.inr ⟨{cls:=.type "list",data:=.seq vs.toArray},if_pos rfl⟩)) (fun b u z=>?_) (fun b z=>?_) fun _=>hk
    · by_cases hb:b=a
      · exact .inr ⟨_,_,if_pos hb⟩
      · exact .inl (if_neg hb)
    · by_cases hb:b=a
      · have z':=(if_pos hb).symm.trans z
        cases z'
        subst hb
        exact ⟨ha,by rw [ah]; exact hl,vs,_,rv,ha⟩
      · have z':=(if_neg hb).symm.trans z
        cases z'
    · by_cases hb:b=a
      · exact hb
      · exact absurd (if_neg hb) z
end L2
namespace L2
open PySem PySem.Spec PyProof.Rows
end L2
namespace L2
open PySem PySem.Spec PyProof.Rows
def gz (s:dP) (j:Nat):dP:=match s with
  | .ClassDef _ _ _ body _ _ _ _ _ _ _=>body.getD j (.Pass ⟨0,0,0,0⟩)
  | _=>.Pass ⟨0,0,0,0⟩
def bV (s:dP):Arguments:=match s with
  | .FunctionDef _ a _ _ _ _ _ _ _ _=>a
  | _=>{posonlyargs:=[],args:=[],vararg:=none,kwonlyargs:=[],kw_defaults:=[],kwarg:=none,defaults:=[]}
def bP (s:dP):List dP:=match s with
  | .FunctionDef _ _ b _ _ _ _ _ _ _=>b
  | _=>[]
def aF (s:dP):kS:=match s with
  | .FunctionDef _ _ _ _ _ _ sc _ _ _=>sc
  | _=>{kind:=.function,names:=[],isGenerator:=false,isCoroutine:=false}
abbrev CX0:CXT:=fun _ _ _ _ _ _=>False
abbrev E0:XK:=fun _ _ _=>False
theorem bS {X:Cx}:lN CX0 X E0:=fun _ _ _ _ _ _ _ h=>h.elim
structure Fun (K:ag) (x qual:Str) (st:dP) (f:ae) (fd:cu):Prop where
  ex:∃ (oc:aa) (od:Option ae) (kV doc pm:aa) (an:Option ae) (cdv ct:aa) (osl:Array (Option aa)),
    fd=aO x qual (bV st) (bP st) (aF st) .none kV doc pm an cdv ct/\K.lookup f=some ⟨oc,od,.func fd,osl⟩/\aK K cdv qual=true
  kp:aE K (.ref f)=true
section
variable {P:aW} {w:bO} {K:ag} {mg:Str->Option aa} {base:cE}
theorem Fun.ok {x qual:Str} {st:dP} {f:ae} {fd:cu} {N ps:List Str} {k:Nat} {sp:Sp} (F:Fun K x qual st f fd) (S:bY N ps (aF st)) (len:∀ vs H Q E,sp vs H Q E->vs.length=ps.length)
    (hbody:∀ (cdv:aa) (A:bZ) (outer:List Env) (s:aj) (H:Hp) (vs:List V) (Q:VK) (E:XK),eA k (A.deeper (qN qual (aF st) s.heap.objs.size f cdv))->sp vs H Q E ->
      ∃ t,PSs (qM CX0 P w K mg base N qual (aF st) f cdv A outer s H E).nox (bP st) t/\t {nx:=fun _ H'=>Q .non H',rt:=Q} (start N vs) H):bX P w K mg base CX0 (k + 1) f fd ps sp:=by
  obtain ⟨oc,od,kV,doc,pm,an,cdv,ct,osl,rfl,lk,hcd⟩:=F.ex
  refine Gx lk hcd S len fun A outer s H vs Q E hr hsp=>?_
  obtain ⟨t,h,q⟩:=hbody cdv A outer s H vs Q E hr hsp
  exact ⟨t,h.nox,q⟩
theorem Fun.binds {x qual:Str} {st:dP} {f:ae} {fd:cu} {ps:List Str} (F:Fun K x qual st f fd)
    (h:∀ (kV doc pm:aa) (an:Option ae) (cdv ct:aa) (us:List aa),us.length=ps.length->bindArgs (aO x qual (bV st) (bP st) (aF st) .none kV doc pm an cdv ct) ⟨us,[]⟩=pure (ps.zip us)):Binds K fd ps []:=by
  obtain ⟨oc,od,kV,doc,pm,an,cdv,ct,osl,rfl,lk,hcd⟩:=F.ex
  exact .all (h kV doc pm an cdv ct)
theorem gY {x qual:Str} {st:dP} {f:ae} {oc:aa} {od an:Option ae} {osl:Array (Option aa)} {kV doc pm cdv ct:aa} (l:K.lookup f=some ⟨oc,od,.func (aO x qual (bV st) (bP st) (aF st) .none kV doc pm an cdv ct),osl⟩)
    (c:aK K cdv qual=true) (k:aE K (.ref f)=true):Fun K x qual st f (aO x qual (bV st) (bP st) (aF st) .none kV doc pm an cdv ct):=⟨⟨oc,od,kV,doc,pm,an,cdv,ct,osl,rfl,l,c⟩,k⟩
end
theorem m6 {A:bZ} {k:Nat} (hr:eA k A):A.units + 1 < eB:=gE (Bf (by decide:1<=64) _) hr.units
section
variable {X:Cx}
theorem pv (i:Nat) {x:Str} {pos:Pos} (hN:X.N[i]?=some x:=by rfl) (hv:Vis X.env.scope x:=by first | exact Or.inl rfl | exact Or.inr (Or.inl rfl) | exact Or.inr (Or.inr rfl)) (hd:(x == ("__debug__":Str))=false:=by decide)
    (hcd:(x == ("__classdict__":Str))=false:=by decide):PE X (.Name x pos) (qE i):=HB hN hv hd hcd
end
theorem hW {A B:Prop} (h:B):if false=true then A else B:=by
  rw [if_neg bU]
  exact h
theorem iJ {A B:Prop} (h:A):if true=true then A else B:=by
  rw [if_pos rfl]
  exact h
theorem iK {c A B:Prop} [Decidable c] (h1:c->A) (h2:¬ c->B):if c then A else B:=by
  by_cases h:c
  · rw [if_pos h]
    exact h1 h
  · rw [if_neg h]
    exact h2 h
def bT (H H':Hp):Prop:=∀ b o,H b=some o->H' b=some o
theorem bT.refl (H:Hp):bT H H:=fun _ _ h=>h
theorem bT.trans {H H1 H2:Hp} (a:bT H H1) (b:bT H1 H2):bT H H2:=fun c o h=>b c o (a c o h)
theorem bT.free {H H':Hp} (e:bT H H') {l:ae} (h:H' l=Option.none):H l=Option.none:=by
  cases q:H l with
  | none=>rfl
  | some o =>
    rw [e l o q] at h
    cases h
end L2
namespace L2
open PySem PySem.Spec PyProof.Rows
section
variable {κ:Type} [DecidableEq κ]
def kY (kvs:List (κ×V)) (k:κ):Option V:=(kvs.find? fun kv=>decide (kv.1=k)).map (·.2)
def jD (kvs:List (κ×V)) (k:κ) (v:V):List (κ×V):=
  if (kvs.any fun kv=>decide (kv.1=k))=true then kvs.map (fun kv=>if kv.1=k then (kv.1,v) else kv) else kvs++[(k,v)]
theorem oa {p:κ×V} {r:List (κ×V)} {k:κ} (e:p.1=k):kY (p :: r) k=some p.2:=by simp [kY,jr,e]
theorem oh {p:κ×V} {r:List (κ×V)} {k:κ} (e:¬ p.1=k):kY (p :: r) k=kY r k:=by simp [kY,jr,e]
theorem kF (k:κ):∀ kvs:List (κ×V),(kvs.any fun kv=>decide (kv.1=k))=(kY kvs k).isSome
  | []=>rfl
  | p :: r=>by
    rw [wC]
    by_cases e:p.1=k
    · simp only [oa e,decide_eq_true e,Bool.true_or,Option.isSome_some]
    · rw [oh e,decide_eq_false e,Bool.false_or]; exact kF k r
theorem oj (kvs:List (κ×V)) (k:κ) (v:V):(jD kvs k v).length<=kvs.length + 1:=by
  unfold jD
  split
  · rw [ah]; omega
  · rw [aI,bj,cP]; omega
theorem BZ {kvs:List (κ×V)} {k:κ} (v:V) (h:kY kvs k=none):jD kvs k v=kvs++[(k,v)]:=by
  unfold jD
  rw [kF,h]
  exact if_neg (by decide)
theorem o4.isSome_eq {o:Option V} {u:Option aa} (r:o4 o u):o.isSome=u.isSome:=by
  cases o with
  | none=>cases u with
    | none=>rfl
    | some _=>exact (show False from r).elim
  | some _=>cases u with
    | none=>exact (show False from r).elim
    | some _=>rfl
theorem KV.val {kvs:List (κ×V)} {vs:List (κ×aa)} (r:KV kvs vs) (k:κ):o4 (kY kvs k) (nC vs k):=by
  unfold KV at r
  induction r with
  | nil=>exact True.intro
  | @cons p q ps qs h t ih =>
    obtain ⟨h1,h2⟩:=h
    by_cases e:p.1=k
    · have e':q.1=k:=h1.symm.trans e
      have b:nC (q :: qs) k=some q.2:=by simp [nC,jr,e']
      rw [oa e,b]; exact h2
    · have e':¬ q.1=k:=fun z=>e (h1.trans z)
      have b:nC (q :: qs) k=nC qs k:=by simp [nC,jr,e']
      rw [oh e,b]; exact ih
theorem KV.any {kvs:List (κ×V)} {vs:List (κ×aa)} (r:KV kvs vs) (k:κ):(kvs.any fun kv=>decide (kv.1=k))=vs.any fun kv=>decide (kv.1=k):=by
  unfold KV at r
  induction r with
  | nil=>rfl
  | cons h t ih=>rw [wC,wC,ih,h.1]
theorem KV.repl {kvs:List (κ×V)} {vs:List (κ×aa)} (r:KV kvs vs) (k:κ) {y:V} {u:aa} (ry:RelV y u) :
    KV (kvs.map fun kv=>if kv.1=k then (kv.1,y) else kv) (vs.map fun kv=>if kv.1=k then (kv.1,u) else kv):=by
  unfold KV at r |-
  induction r with
  | nil=>exact .nil
  | @cons p q ps qs h t ih =>
    rw [cw,cw]
    refine .cons ?_ ih
    obtain ⟨h1,h2⟩:=h
    by_cases e:p.1=k
    · rw [if_pos e,if_pos (h1.symm.trans e)]; exact ⟨h1,ry⟩
    · rw [if_neg e,if_neg (fun z=>e (h1.trans z))]; exact ⟨h1,h2⟩
theorem KV.put {kvs:List (κ×V)} {vs:List (κ×aa)} (r:KV kvs vs) (k:κ) {y:V} {u:aa} (ry:RelV y u):KV (jD kvs k y) (vF vs k u):=by
  unfold jD vF
  rw [r.any k]
  by_cases e:(vs.any fun kv=>decide (kv.1=k))=true
  · rw [if_pos e,if_pos e]; exact r.repl k ry
  · rw [if_neg e,if_neg e]; exact eU r ⟨rfl,ry⟩
theorem KV.length {kvs:List (κ×V)} {vs:List (κ×aa)} (r:KV kvs vs):kvs.length=vs.length:=bJ r
end
theorem wU {P:aW} {w:bO} {k:Key} {u:aa} (r:RelV (kV k) u):(fX P w).is k u=true:=by
  cases k with
  | inl i=>obtain ⟨t,e⟩:=(show ∃ t,u=Value.int i t from r); subst e; exact wJ P w i t
  | inr x=>obtain ⟨t,e⟩:=(show ∃ t,u=Value.str x t from r); subst e; exact wK P w x t
theorem uK {P:aW} {w:bO}:∀ {ks:List Key} {us:List aa},df (ks.map kV) us->ItemsAre (fX P w) ks us
  | [],_,r=>by rw [xK] at r; cases r; exact .nil
  | k :: ks,_,r=>by
    rw [cw] at r
    cases r with
    | cons h t=>exact .cons (wU h) (uK t)
abbrev KT (H:Hp):List (List Key×V)->List (List Key×ae×aa)->Prop:=aX fun p q=>p.1=q.1/\H q.2.1=some (.tup (p.1.map kV))/\RelV p.2 q.2.2
theorem KT.val {H:Hp} {kvs:List (List Key×V)} {xs:List (List Key×ae×aa)} (r:KT H kvs xs) (k:List Key):o4 (kY kvs k) ((yl xs k).map (·.2)):=by
  induction r with
  | nil=>exact True.intro
  | @cons p q ps qs h t ih =>
    obtain ⟨h1,_,h2⟩:=h
    by_cases e:p.1=k
    · have e':q.1=k:=h1.symm.trans e
      have b:yl (q :: qs) k=some q.2:=by simp [yl,jr,e']
      rw [oa e,b]; exact h2
    · have e':¬ q.1=k:=fun z=>e (h1.trans z)
      have b:yl (q :: qs) k=yl qs k:=by simp [yl,jr,e']
      rw [oh e,b]; exact ih
theorem KT.repl {H:Hp} {kvs:List (List Key×V)} {xs:List (List Key×ae×aa)} (r:KT H kvs xs) (k:List Key) {y:V} {u:aa} (ry:RelV y u) :
    KT H (kvs.map fun kv=>if kv.1=k then (kv.1,y) else kv) (xs.map (putAt k u)):=by
  induction r with
  | nil=>exact .nil
  | @cons p q ps qs h t ih =>
    rw [cw,cw]
    refine .cons ?_ ih
    obtain ⟨h1,h2,h3⟩:=h
    unfold putAt
    by_cases e:p.1=k
    · rw [if_pos e,if_pos (h1.symm.trans e)]; exact ⟨h1,h2,ry⟩
    · rw [if_neg e,if_neg (fun z=>e (h1.trans z))]; exact ⟨h1,h2,h3⟩
theorem KT.put {H:Hp} {kvs:List (List Key×V)} {xs:List (List Key×ae×aa)} (r:KT H kvs xs) (k:List Key) {b:ae} {y:V} {u:aa} (hb:H b=some (.tup (k.map kV))) (ry:RelV y u) :
    KT H (jD kvs k y) (storedH xs k b u):=by
  have e:(kvs.any fun kv=>decide (kv.1=k))=(yl xs k).isSome:=by
    rw [kF,(r.val k).isSome_eq,qy]
  unfold jD storedH
  rw [e]
  by_cases q:(yl xs k).isSome=true
  · rw [if_pos q,if_pos q]; exact r.repl k ry
  · rw [if_neg q,if_neg q]; exact eU r ⟨rfl,hb,ry⟩
theorem KT.keeps {H H':Hp} {kvs:List (List Key×V)} {xs:List (List Key×ae×aa)} (r:KT H kvs xs) (ht:∀ b ys,H b=some (.tup ys)->H' b=some (.tup ys)):KT H' kvs xs:=
  Paired.mapP r fun _ _ z=>⟨z.1,ht _ _ z.2.1,z.2.2⟩
section
variable {P:aW} {w:bO} {H:Hp} {h:cE} {a:ae}
theorem Gy {u:HO} (ok:HOk P w H h) (e:Rd H a u):eM P w H h a u:=e.ok ok
theorem zj {kvs:List (Key×V)} (ok:HOk P w H h) (e:Rd H a (.dK kvs)):kvs.length<=aJ/\(a == fu)=false/\∃ vs,KV kvs vs/\h.DictOf (fX P w) a vs:=
  show eM P w H h a (.dK kvs) from Gy ok e
theorem dk_of {kvs:List (Key×V)} (ok:HOk P w H h) (e:H a=some (.dK kvs)):kvs.length<=aJ/\(a == fu)=false/\∃ vs,KV kvs vs/\h.DictOf (fX P w) a vs:=zj ok (.inl e)
theorem vG {ks:List Key} (ok:HOk P w H h) (e:H a=some (.tup (ks.map kV))):(vg (fX P w)).is h ks a:=by
  obtain ⟨_,its,r,o,h1,h2,n,h3⟩:=(show eM P w H h a (.tup (ks.map kV)) from ok a _ e)
  exact ⟨o,its.toArray,n,h1,h2,h3,by simpa using uK r⟩
theorem zk {kvs:List (List Key×V)} (ok:HOk P w H h) (e:Rd H a (.dT kvs)):kvs.length<=aJ/\(a == fu)=false /\
    ∃ xs,KT H kvs xs/\h.DictOfH (vg (fX P w)) a xs:=by
  obtain ⟨z,y,xs,r,o,es,ep,h1,h2,h3,h4,h5⟩:=(show eM P w H h a (.dT kvs) from Gy ok e)
  refine ⟨z,y,xs,r,o,es,ep,h1,h2,h3,h4,fun x hx=>?_,h5⟩
  have all:∀ {l:List (List Key×V)} {m:List (List Key×ae×aa)},KT H l m->∀ x∈m,(vg (fX P w)).is h x.1 x.2.1:=by
    intro l m q
    induction q with
    | nil=>intro x hx; exact nomatch hx
    | @cons p q ps qs hq t ih =>
      intro x hx
      rcases ax.mp hx with e | hx
      · subst e
        exact vG ok (by rw [<- hq.1]; exact hq.2.1)
      · exact ih x hx
  exact all r x hx
theorem dt_of {kvs:List (List Key×V)} (ok:HOk P w H h) (e:H a=some (.dT kvs)):kvs.length<=aJ/\(a == fu)=false /\
    ∃ xs,KT H kvs xs/\h.DictOfH (vg (fX P w)) a xs:=zk ok (.inl e)
end
def p5 (H:Hp) (a:ae) (y:V) (r:Option V):Prop:=
  (∃ kvs k,Rd H a (.dK kvs)/\y=kV k/\r=kY kvs k)\/∃ kvs k b,Rd H a (.dT kvs)/\y=.ref b/\H b=some (.tup (k.map kV))/\r=kY kvs k
def rP (H:Hp) (a:ae) (y v:V) (H':Hp):Prop:=
  (∃ kvs k,H a=some (.dK kvs)/\y=kV k/\kvs.length < aJ/\H'=upd H a (.dK (jD kvs k v))) \/
  ∃ kvs k b,H a=some (.dT kvs)/\y=.ref b/\H b=some (.tup (k.map kV))/\kvs.length < aJ/\H'=upd H a (.dT (jD kvs k v))
theorem p5.k {H:Hp} {a:ae} {kvs:List (Key×V)} {k:Key} (e:H a=some (.dK kvs)):p5 H a (kV k) (kY kvs k):=.inl ⟨kvs,k,.inl e,rfl,rfl⟩
theorem rP.k {H:Hp} {a:ae} {kvs:List (Key×V)} {k:Key} {v:V} (e:H a=some (.dK kvs)) (hl:kvs.length < aJ):rP H a (kV k) v (upd H a (.dK (jD kvs k v))):=.inl ⟨kvs,k,e,rfl,hl,rfl⟩
section
variable {X:Cx} {pins:List (ae×Obj)} {σ:St} {H:Hp} {s:aj} {a:ae} {y v:V} {u r:aa} {o:Option V} {A:bZ} {E:aa->aj->Prop}
theorem Inv.big (I:Inv X pins σ H s):fu < s.heap.objs.size:=by
  have h:aN < s.heap.objs.size:=(I.mod.glob.keeps I.bk).lt
  exact om (by decide) h
theorem Ax {Q:aa->aj->Prop} (hu:A.units + 1 < eB) (I:Inv X pins σ H s) (g:p5 H a y (some v)) (ry:RelV y u) (h:∀ w' s',Inv X pins σ H s'->RelV v w'->Q w' s') :
    aZ (bD X.prog X.w) A (pE (.ref a) u) Q E s:=by
  rcases g with ⟨kvs,k,e,ey,l⟩ | ⟨kvs,k,b,e,ey,eb,l⟩
  · subst ey
    obtain ⟨z,hd,vs,rel,dd⟩:=zj I.hok e
    obtain ⟨w',hw,rw'⟩:=o4.some_of (v:=v) (o:=nC vs k) (by rw [l]; exact rel.val k)
    exact wpAny_getItem_of (wU ry) dd.mapOf hw (h w' _ (I.tok _) rw')
  · subst ey
    cases (show u=Value.ref b from ry)
    obtain ⟨z,hd,xs,rel,dd⟩:=zk I.hok e
    obtain ⟨w',hw,rw'⟩:=o4.some_of (v:=v) (o:=(yl xs k).map (·.2)) (by rw [l]; exact rel.val k)
    obtain ⟨p,hp,hp2⟩:=Option.map_eq_some_iff.mp hw
    refine wpAny_getItem_heap (tj hu) (vG I.hok eb) dd hp ?_
    rw [hp2]
    exact h w' _ (I.tok _) rw'
theorem d_in {Q:aa->aj->Prop} (hu:A.units + 1 < eB) (I:Inv X pins σ H s) (g:p5 H a y o) (ry:RelV y u) (h:∀ s',Inv X pins σ H s'->Q (.bool o.isSome) s') :
    aZ (bD X.prog X.w) A (dI .In u (.ref a)) Q E s:=by
  rcases g with ⟨kvs,k,e,ey,l⟩ | ⟨kvs,k,b,e,ey,eb,l⟩
  · subst ey
    obtain ⟨z,hd,vs,rel,dd⟩:=zj I.hok e
    refine wpAny_in_of (wU ry) hd dd.mapOf ?_
    rw [<- (rel.val k).isSome_eq,<- l]
    exact h _ (I.tok _)
  · subst ey
    cases (show u=Value.ref b from ry)
    obtain ⟨z,hd,xs,rel,dd⟩:=zk I.hok e
    refine wpAny_in_heap (tj hu) (vG I.hok eb) hd dd ?_
    have q:=(rel.val k).isSome_eq
    rw [qy] at q
    rw [<- q,<- l]
    exact h _ (I.tok _)
theorem zl {h':cE} {t':Nat} {ob:HO} (I:Inv X pins σ H s) (mu:Mut (H a)) (hs:rm a s.heap h') (he:∃ q,h'.get? a=some q) (new:eM X.prog X.w (upd H a ob) h' a ob) :
    Inv X pins σ (upd H a ob) {s with heap:=h',toks:=t'}:=
  I.write (x:=a) (e:=a) mu (.inl rfl) (fun b q hb z=>(hs.2 b hb).trans z) he new
theorem ym {P:aW} {w:bO} {H':Hp} {h':cE} {kvs:List (Key×V)} {vs:List (Key×aa)} (z:kvs.length<=aJ) (hd:(a == fu)=false) (rel:KV kvs vs) (dd:h'.DictOf (fX P w) a vs) :
    eM P w H' h' a (.dK kvs):=⟨z,hd,vs,rel,dd⟩
theorem Ay {H':Hp} {Q:Unit->aj->Prop} (hu:A.units + 1 < eB) (I:Inv X pins σ H s) (g:rP H a y v H') (ry:RelV y u) (rv:RelV v r) (h:∀ s',Inv X pins σ H' s'->Q () s') :
    aZ (bD X.prog X.w) A (setItem (.ref a) u r) Q E s:=by
  rcases g with ⟨kvs,k,e,ey,l,eH⟩ | ⟨kvs,k,b,e,ey,eb,l,eH⟩
  · subst ey eH
    obtain ⟨z,hd,vs,rel,dd⟩:=dk_of I.hok e
    have hz:vs.length<=aJ:=by rw [<- rel.length]; exact z
    have hl:(jD kvs k v).length<=aJ:=by have:=oj kvs k v; omega
    refine wpAny_setItem_pairs (hsz:=hz) (wU ry) dd fun h' dd' hs=>h _ ?_
    have he:∃ q,h'.get? a=some q:=let ⟨q,_,_,hq,_⟩:=dd'; ⟨q,hq⟩
    exact zl I (by rw [e]; exact True.intro) hs he (ym hl hd (rel.put k rv) dd')
  · subst ey eH
    cases (show u=Value.ref b from ry)
    obtain ⟨z,hd,xs,rel,dd⟩:=dt_of I.hok e
    have hz:xs.length<=aJ:=by rw [<- bJ rel]; exact z
    have hl:(jD kvs k v).length<=aJ:=by have:=oj kvs k v; omega
    refine wpAny_setItem_heap (hsz:=hz) (tj hu) (vG I.hok eb) dd fun h' dd' hs=>h _ ?_
    obtain ⟨q,es,ep,hq,h2,h3,h4,_,h5⟩:=dd'
    refine zl I (by rw [e]; exact True.intro) hs ⟨q,hq⟩ ⟨hl,hd,_,(rel.put k eb rv).keeps fun c ys ec=>?_,q,es,ep,hq,h2,h3,h4,h5⟩
    rw [aV (lU ec e (fun z=>nomatch z))]
    exact ec
end
section
variable {X:Cx} {pins:List (ae×Obj)} {σ:St} {H:Hp} {s:aj} {a:ae} {kvs:List (Key×V)} {k:Key} {u:aa} {A:bZ} {E:aa->aj->Prop}
end
def NoSl (i:dv):Prop:=∀ ov iv,wB i false ov iv=operate [ov,iv] (pE ov iv)
theorem EN {prog:aW} {w:bO} {A:bZ} {E:aa->aj->Prop} {s:aj} {env:Env} {value slice:dv} {pos:Pos} {T id:String} {Q:aa->aj->Prop}
    (hl:yg (.type T) "__getitem__"=pure (some (.builtin id))) (hs:NoSl slice)
    (h:aZ (bD prog w) A (fV value env) (fun o s₁=>aZ (bD prog w) A (fV slice env) (fun i s₂=>s₂.TypeIs o T/\aZ (bD prog w) A (pE o i) Q E s₂) E s₁) E s) :
    aZ (bD prog w) A (fV (.Subscript value slice pos) env) Q E s:=by
  refine HP (eP h (fun o s₁ h₁=>eP h₁ (fun i s₂ h₂=>?_) fun _ _ x=>x) fun _ _ x=>x)
  obtain ⟨hT,h₂⟩:=h₂
  unfold Aw
  refine ai ?_
  rw [getitemInPython_of_ne hT.not_modules]
  refine ai (wpAny_specialOf hT hl ?_)
  have fin:aZ (bD prog w) A (wB slice false o i) (fun r s₃=>aZ (bD prog w) A (letTemporaryGo value o r >>= fun _=>pure r) Q E s₃) E s₂:=by
    rw [hs o i]
    exact wpAny_operating (eP h₂ (fun r s₃ h₃=>ai (wpAny_letTemporaryGo (aY h₃))) fun _ _ x=>x)
  first
    | exact aY (ai fin)
    | exact ai (aY (ai fin))
    | exact ai fin
theorem wV {X:Cx} {pins:List (ae×Obj)} {σ:St} {H:Hp} {s:aj} {a:ae} {y:V} {o:Option V} (I:Inv X pins σ H s) (g:p5 H a y o):s.TypeIs (.ref a) "dict":=by
  rcases g with ⟨kvs,k,e,_,_⟩ | ⟨kvs,k,b,e,_,_,_⟩
  · obtain ⟨_,_,vs,_,dd⟩:=zj I.hok e
    exact dd.typeIs
  · obtain ⟨_,_,xs,_,dd⟩:=zk I.hok e
    exact dd.typeIs
def tDGet (td ty:TE):TE:=fun σ H Q=>td σ H fun x H1=>ty σ H1 fun y H2=>∃ a v,x=.ref a/\p5 H2 a y (some v)/\Q v H2
def tDIn (ty td:TE):TE:=fun σ H Q=>ty σ H fun y H1=>td σ H1 fun x H2=>∃ a o,x=.ref a/\p5 H2 a y o/\Q (.bl o.isSome) H2
def sDPut (td ty tv:TE):TS:=fun D σ H=>tv σ H fun v H1=>td σ H1 fun x H2=>ty σ H2 fun y H3=>∃ a H4,x=.ref a/\rP H3 a y v H4/\D.nx σ H4
section
variable {X:Cx} {o i e value:dv} {pos pos' tpos:Pos} {td ty tv:TE}
theorem p6 (hu:X.A.units + 1 < eB) (ho:PE X o td) (hi:PE X i ty) (hs:NoSl i):PE X (.Subscript o i pos) (tDGet td ty):=by
  intro pins s σ H Q I h
  refine EN PySem.F.slot_dict_getitem.lookup hs (thn (ho pins s σ H _ I h) fun u s1 ⟨x,H1,I1,rx,q1⟩=>thn (hi pins s1 σ H1 _ I1 q1) fun iv s2 ⟨y,H2,I2,ry,a,v,ex,g,q2⟩=>?_)
  subst ex
  obtain rfl:u=Value.ref a:=rx
  exact ⟨wV I2 g,Ax hu I2 g ry fun w' s3 I3 rw'=>⟨v,H2,I3,rw',q2⟩⟩
theorem B0 (hu:X.A.units + 1 < eB) (hi:PE X i ty) (ho:PE X o td):PC X .In i o (tDIn ty td):=by
  intro pins s σ H Q I h
  refine thn (hi pins s σ H _ I h) fun iv s1 ⟨y,H1,I1,ry,q1⟩=>thn (ho pins s1 σ H1 _ I1 q1) fun u s2 ⟨x,H2,I2,rx,a,ov,ex,g,q2⟩=>?_
  subst ex
  obtain rfl:u=Value.ref a:=rx
  exact d_in hu I2 g ry fun s3 I3=>⟨.bl ov.isSome,H2,I3,rfl,q2⟩
theorem mJ (hu:X.A.units + 1 < eB) (ho:PE X o td) (hi:PE X i ty) (hv:PE X value tv) (hs:rn value (some (.Subscript o i pos')) pos.line X.env=pure false) :
    PS X (.Assign [.Subscript o i pos'] value pos) (sDPut td ty tv):=by
  intro pins s σ H D I h
  refine wpAny_Assign_Subscript (thn (hv pins s σ H _ I h) fun r s1 ⟨v,H1,I1,rv,q1⟩=>thn (ho pins s1 σ H1 _ I1 q1) fun u s2 ⟨x,H2,I2,rx,q2⟩=>thn (hi pins s2 σ H2 _ I2 q2) fun iv s3 ⟨y,H3,I3,ry,a,H4,ex,g,q3⟩=>?_) hs
  subst ex
  obtain rfl:u=Value.ref a:=rx
  exact Ay hu I3 g ry rv fun s4 I4=>⟨σ,H4,I4,q3⟩
end
theorem B1 {P:aW} {w:bO} {H:Hp} (h:cE) (hb:fu < h.objs.size):eM P w H (h.push {cls:=.type "dict",data:=.dict #[]}) h.objs.size (.dK []):=
  ⟨bK _,beq_eq_false_iff_ne.mpr (fY (aU hb)),[],.nil,xO h⟩
def HZ:TE:=fun _ H Q=>∀ p,H p=none->Q (.ref p) (upd H p (.dK []))
section
variable {X:Cx} {pos:Pos}
theorem p7:PE X (.Dict [] [] pos) HZ:=fun pins s σ H Q I h =>
  wpAny_Dict_empty ⟨.ref s.heap.objs.size,_,I.laid (a:=s.heap.objs.size) (o:=.dK []) (t':=s.toks) (fun _ _ q=>aQ _ q) (aL _) (B1 s.heap I.big),rfl,h _ (I.hok.fresh (aL _))⟩
end
section
variable {X:Cx} {pins:List (ae×Obj)} {σ:St} {H:Hp} {s:aj} {a:ae} {y d:V} {u r:aa} {o:Option V} {A:bZ} {E:aa->aj->Prop}
end
section
variable {X:Cx} {o e f:dv} {apos cpos:Pos} {td ty tx:TE}
end
section
variable {X:Cx} {pins:List (ae×Obj)} {σ:St} {H:Hp} {s:aj} {a:ae} {kvs:List (Key×V)} {A:bZ} {E:aa->aj->Prop}
end
section
variable {X:Cx} {pins:List (ae×Obj)} {σ:St} {H:Hp} {s:aj} {a:ae} {y:V} {u:aa} {A:bZ} {E:aa->aj->Prop}
end
end L2
namespace L2
open PySem PySem.Spec PyProof.Rows
section
variable {X:Cx}
end
section
variable {κ:Type} [DecidableEq κ]
theorem EO {kvs:List (κ×V)} {k:κ} {v:V} (h:kY kvs k=some v):k∈kvs.map (·.1):=by
  have q:(kvs.any fun kv=>decide (kv.1=k))=true:=by
    rw [kF,h]
    all_goals rfl
  obtain ⟨p,hp,e⟩:=List.any_eq_true.mp q
  exact cN.mpr ⟨p,hp,of_decide_eq_true e⟩
theorem zm:∀ {l:List κ} {k:κ},l.Nodup->¬ k∈l->(l++[k]).Nodup
  | [],k,_,_=>by simp
  | a :: r,k,h,hk=>by
    obtain ⟨h1,h2⟩:=cM.mp h
    show (a :: (r++[k])).Nodup
    refine cM.mpr ⟨fun m=>?_,zm h2 fun m=>hk (ax.mpr (Or.inr m))⟩
    rcases b8.mp m with q | q
    · exact h1 q
    · exact hk (ax.mpr (Or.inl (aM.mp q).symm))
end
end L2
set_option maxHeartbeats 4000000
namespace L2
open PySem PySem.Spec PyProof.Rows
theorem eM.has {P:aW} {w:bO} {H:Hp} {h:cE} {a:ae} {o:HO} (x:eM P w H h a o):∃ ob,h.get? a=some ob:=by
  cases o with
  | lst xs=>obtain ⟨_,_,_,_,e⟩:=x; exact ⟨_,e⟩
  | tup xs=>obtain ⟨_,_,_,ob,e,_⟩:=x; exact ⟨_,e⟩
  | dK kvs=>obtain ⟨_,_,_,_,o,_,_,e,_⟩:=x; exact ⟨_,e⟩
  | dT kvs=>obtain ⟨_,_,_,_,o,_,_,e,_⟩:=x; exact ⟨_,e⟩
  | set S n=>obtain ⟨o,_,_,_,e,_⟩:=x; exact ⟨_,e⟩
  | ins C dx fs=>obtain ⟨_,_,_,e,_⟩:=x; exact ⟨_,e⟩
  | own y=>exact x
  | xd fs=>obtain ⟨_,⟨_,_,_,e,_⟩,_⟩:=x; exact ⟨_,e⟩
  | rng lo hi=>obtain ⟨_,_,_,e⟩:=x; exact ⟨_,e⟩
  | frz ob u=>obtain ⟨e,_⟩:=x; exact ⟨_,e⟩
  | tbl ps=>exact ⟨_,(show h.get? a=some _ from x)⟩
  | met f y=>exact ⟨_,(show h.get? a=some _ from x)⟩
  | ext φ=>obtain ⟨_,e,_⟩:=x; exact e
theorem HOk.has {P:aW} {w:bO} {H:Hp} {h:cE} (x:HOk P w H h) {b:ae} (n:H b≠none):∃ ob,h.get? b=some ob:=by
  cases z:H b with
  | none=>exact absurd z n
  | some u=>exact (x b u z).has
def FlD (B:cE) (l:List Env) (e:ae) (cls fl:aa) (h:cE):Prop:=
  B.StaysIn h/\B.get? e=none/\h.FunFrames B l/\∃ oe vs T oT ts,h.get? e=some oe/\oe.cls=cls/\oe.dict=none/\oe.data=.fields vs/\vs[1]?=some (.ref T)/\B.get? T=none/\T≠e/\h.get? T=some oT/\oT.data=.fields ts/\ts[3]?=some fl
theorem Az (o:Obj) (f:Array aa->Array aa):(o.mapFields f).dict=o.dict:=by
  obtain ⟨c,d,dt,sl⟩:=o
  cases dt <;> rfl
section
variable {M:Et} {A:bZ} {E:aa->aj->Prop} {s:aj} {B:cE} {env:Env} {outer l:List Env} {L e:ae} {cls fl:aa} {Q:Unit->aj->Prop}
theorem wW {oe:Obj} {vs:Array aa} {head:aa} {nx:Bool} (hfr:A.frames=some (env :: outer)) (hl:s.heap.FunFrames B (env :: outer)) (hf:env.frame=some L) (he:s.heap.get? e=some oe) (hB:B.StaysIn s.heap) (hn:B.get? e=none)
    (hd:oe.data=.fields vs) (hz:1 < vs.size) (hdc:oe.dict=none) (k:∀ h',FlD B (env :: outer) e oe.cls (qH L) h'->s.heap.UpToSlots h'->Q () {s with heap:=h'}) :
    aZ M A (do let a <- frameOf env; let pl <- entryPlaceOf L nx; let b <- vH head a .none (qH L) .none pl; setField (.ref e) 1 b) Q E s:=by
  have ef:e∉(env :: outer).filterMap (·.frame):=fun hm=>by
    obtain ⟨_,o,ho,q⟩:=hl.mem hm
    rw [he] at ho
    cases ho
    exact q vs hd
  refine ai (wpAny_frameOf_fun hfr hl hf fun h1 g1=>ai (wpAny_entryPlaceOf fun pl hpl=>?_))
  unfold vH newFields
  refine ai (iW ?_ (hpl.sizeOk5 _ _ _ _ _))
  have e1:h1.get? e=some oe:=(g1.2.1 e ef).trans he
  have b1:B.StaysIn h1:=fun b o z=>(g1.2.1 b fun hm=>by rw [(hl.mem hm).1] at z; cases z).trans (hB b o z)
  have ne:h1.objs.size≠e:=nI (aT e1)
  generalize hob:({cls:=.type "traceback",dict:=none,data:=.fields ([head,.ref L,.none,qH L,.none]++(if pl.isEmpty then cO 6 Value.none else pl)).toArray}:Obj)=ob
  have e2:(h1.push ob).get? e=some oe:=aQ _ e1
  have t2:(h1.push ob).get? h1.objs.size=some ob:=cB h1 (by rw [<- hob]; rfl)
  refine yn e2 hd hz (k _ ?_ ?_)
  · have d3:=qQ hd (·.setIfInBounds 1 (Value.ref h1.objs.size))
    have keep:∀ b o,b≠e->h1.get? b=some o->((h1.push ob).update e (qz (·.setIfInBounds 1 (Value.ref h1.objs.size)))).get? b=some o:=fun b o q z=>by
      rw [fj _ _ (fY q)]
      exact aQ _ z
    refine ⟨fun b o z=>keep b o (fun q=>by rw [q,hn] at z; cases z) (b1 b o z),hn,hl.of_keeps fun b o z q=>?_,_,_,h1.objs.size,ob,_,oN _ e2 (zo d3),Obj.cls_mapFields _ _,(Az _ _).trans hdc,d3,by simp [hz],b1.fresh,ne,?_,by rw [<- hob],?_⟩
    · obtain ⟨sl,w⟩:=g1.2.2 b o z
      exact ⟨_,keep b _ (fun y=>by rw [y,he] at z; cases z; exact q vs hd) w,rfl⟩
    · rw [fj _ _ (fY ne)]
      exact t2
    · first | (simp; done) | (rcases hpl with rfl | ⟨_,_,_,_,_,_,_,rfl⟩ <;> simp)
  · intro b o z q
    obtain ⟨sl,w⟩:=g1.2.2 b o z
    refine ⟨sl,?_⟩
    rw [fj _ _ (fun y=>by rw [<- y,he] at z; cases z; exact q vs hd)]
    exact aQ _ w
theorem rY {T:ae} {oT:Obj} {ts:Array aa} {h:cE} (hT:h.get? T=some oT) (hdT:oT.data=.fields ts) {b:ae} {o:Obj} (hb:h.get? b=some o) (q:∀ vs,o.data≠.fields vs):b≠T:=fun y=>by
  rw [y,hT] at hb
  cases hb
  exact q ts hdT
theorem zp (hfr:A.frames=some (env :: outer)) (hf:env.frame=some L) (x:FlD B (env :: outer) e cls .none s.heap) (k:∀ h',FlD B (env :: outer) e cls (qH L) h'->s.heap.UpToSlots h'->Q () {s with heap:=h'}) :
    aZ M A (Bg (.ref e) env) Q E s:=by
  obtain ⟨hB,hn,hl,oe,vs,T,oT,ts,he,rfl,hdc,hd,h1,nT,Te,hT,dT,h3⟩:=x
  unfold Bg
  simp only [hf]
  refine ai (kW he hd h1 ?_)
  rw [if_pos (show (Value.ref T != Value.none)=true from by simp)]
  refine ai (kW hT dT h3 ?_)
  rw [if_neg (show ¬ ((Value.none == qH L)=true) from by simp [qH])]
  refine ai (yn hT dT (kZ.mp h3).1 ?_)
  have ot:∀ b,b≠T->(s.heap.update T (qz (·.setIfInBounds 3 Value.none))).get? b=s.heap.get? b:=fun b hb=>fj _ _ (fY hb)
  refine wW (s:={s with heap:=s.heap.update T (qz (·.setIfInBounds 3 Value.none))}) hfr (hl.of_keeps fun b o z q=>⟨o,(ot b (rY hT dT z q)).trans z,rfl⟩) hf ((ot e (fY Te)).trans he)
    (fun b o z=>(ot b fun y=>by rw [y,nT] at z; cases z).trans (hB b o z)) hn hd (kZ.mp h1).1 hdc fun h' y1 y2=>k h' y1 fun b o z q=>y2 b o ((ot b (rY hT dT z q)).trans z) q
theorem p8 (x:FlD B l e cls fl s.heap) (k:∀ h',FlD B l e cls .none h'->s.heap.UpToSlots h'->Q () {s with heap:=h'}):aZ M A (setFlight (.ref e) none) Q E s:=by
  obtain ⟨hB,hn,hl,oe,vs,T,oT,ts,he,hc,hdc,hd,h1,nT,Te,hT,dT,h3⟩:=x
  have z3:3 < ts.size:=(kZ.mp h3).1
  have ot:∀ b,b≠T->(s.heap.update T (qz (·.setIfInBounds 3 ((none:Option ae).elim Value.none fun f=>qH f)))).get? b=s.heap.get? b:=fun b hb=>fj _ _ (fY hb)
  unfold setFlight
  refine ai (kW he hd h1 ?_)
  rw [if_pos (show (Value.ref T != Value.none)=true from by simp)]
  refine yn hT dT z3 (k _ ⟨fun b o z=>(ot b fun y=>by rw [y,nT] at z; cases z).trans (hB b o z),hn,hl.of_keeps fun b o z q=>⟨o,(ot b (rY hT dT z q)).trans z,rfl⟩,oe,vs,T,_,_,(ot e (fY Te)).trans he,hc,hdc,hd,h1,nT,Te,oN _ hT (zo (qQ dT _)),qQ dT _,by simp [z3]⟩
    fun b o z q=>⟨o.slots,(ot b (rY hT dT z q)).trans z⟩)
theorem FlD.tail (x:FlD B (env :: outer) e cls fl s.heap):FlD B outer e cls fl s.heap:=by
  obtain ⟨a,b,⟨_,_,c⟩,d⟩:=x
  exact ⟨a,b,c,d⟩
theorem FlD.there {h:cE} (x:FlD B l e cls fl h):∃ ob,h.get? e=some ob/\ob.cls=cls:=by
  obtain ⟨_,_,_,oe,_,_,_,_,he,hc,_⟩:=x
  exact ⟨oe,he,hc⟩
theorem AA (hfr:A.frames=some (env :: outer)) (hf:env.frame=some L) (x:FlD B (env :: outer) e cls .none s.heap) (k:∀ h',FlD B outer e cls .none h'->s.heap.UpToSlots h'->Q () {s with heap:=h'}):aZ M A (xJ env (.ref e)) Q E s:=by
  unfold xJ
  refine ai (zp hfr hf x fun h1 x1 u1=>p8 (s:={s with heap:=h1}) x1 fun h2 x2 u2=>k h2 (FlD.tail (s:={s with heap:=h2}) x2) (u1.trans u2))
theorem ER {h:cE} {args:List aa} (hfr:A.frames=some (env :: outer)) (hf:env.frame=some L) (hB:B.StaysIn h) (hl:h.FunFrames B (env :: outer)) (x:Gz h s.heap e cls args)
    (k:∀ h',FlD B outer e cls .none h'->s.heap.UpToSlots h'->Q () {s with heap:=h'}):aZ M A (xJ env (.ref e)) Q E s:=by
  obtain ⟨t,he,htn,ht⟩:=x.there
  have en:B.get? e=none:=by
    cases q:B.get? e with
    | none=>rfl
    | some o=>have z:=hB e o q; rw [x.new] at z; cases z
  unfold xJ Bg
  simp only [hf]
  refine ai (ai (kW (x:=Value.none) he rfl rfl ?_))
  rw [if_neg (show ¬ ((Value.none != Value.none)=true) by decide)]
  exact wW hfr (hl.of_keeps fun b o z _=>⟨o,x.keeps b o z,rfl⟩) hf he (fun b o z=>x.keeps b o (hB b o z)) en rfl (show 1 < 6 by decide) rfl fun h1 x1 u1=>p8 (s:={s with heap:=h1}) x1 fun h2 x2 u2=>k h2 (FlD.tail (s:={s with heap:=h2}) x2) (u1.trans u2)
end
def Fly (B:cE) (stk:List Env) (ea C:ae) (h:cE):Prop:=FlD B stk ea (.ref C) .none h
def CXo (P:aW) (w:bO):CXT:=fun outer H s E e s' =>
  ∃ (ea C:ae) (H':Hp) (B:cE),e=.ref ea/\E (.ref C) none H'/\s'.os=s.os/\nr s'.gens/\Un (frs outer) [] H H' s.heap s'.heap/\HOk P w H' s'.heap/\Fly B outer ea C s'.heap /\
    ∀ b o,(H' b≠none\/∃ o',s.heap.get? b=some o')->b∉frs outer->s'.heap.get? b=some o->B.get? b=some o
theorem Un.left {fs stk:List ae} {H₀ H:Hp} {h₀ h h' B:cE} (u:Un fs [] H₀ H h₀ h) (hB:B.StaysIn h') (cov:∀ b o,(H b≠none\/∃ o',h₀.get? b=some o')->b∉stk->h.get? b=some o->B.get? b=some o)
    (hst:∀ b o,h₀.get? b=some o->b∈stk->b∈fs) (sl:∀ b∈fs,∀ o,h.get? b=some o->∃ sl,h'.get? b=some {o with slots:=sl}):Un fs [] H₀ H h₀ h' where
  keep:=fun b o e n hb hx=>hB b o (cov b o (.inr ⟨o,e⟩) (fun z=>hb (hst b o e z)) (u.keep b o e n hb hx))
  slot:=fun b o e n hb hx=>by
    obtain ⟨s1,e1⟩:=u.slot b o e n hb hx
    obtain ⟨s2,e2⟩:=sl b hb _ e1
    exact ⟨s2,e2⟩
  free:=u.free
  there:=fun b o e hx=>by
    obtain ⟨o',e'⟩:=u.there b o e hx
    by_cases hb:b∈stk
    · obtain ⟨s2,e2⟩:=sl b (hst b o e hb) _ e'
      exact ⟨_,e2⟩
    · exact ⟨o',hB b o' (cov b o' (.inr ⟨o,e⟩) hb e')⟩
  tups:=u.tups
  frzs:=u.frzs
  tbls:=u.tbls
theorem HOk.left {P:aW} {w:bO} {H:Hp} {h h' B:cE} (ok:HOk P w H h) (hB:B.StaysIn h') (cov:∀ b o,H b≠none->h.get? b=some o->B.get? b=some o):HOk P w H h':=fun a o e =>
  (ok a o e).stay (fun b u hb q=>hB b u (cov b u (by
    rcases hb with z | z
    · rw [z,e]; simp
    · rw [z]; simp) q)) (fun _ q=>q) (fun _ _ q=>q)
section
variable {X:Cx} {pins:List (ae×Obj)} {σ:St} {H:Hp} {s:aj} {E E':XK}
theorem Inv.oldfs (I:Inv X pins σ H s):∀ b o,X.s₀.heap.get? b=some o->b∈frs X.stack->b∈X.fs:=fun b o e hb=>by
  rcases ax.mp (I.stkSub b hb) with z | z
  · exact absurd (bE (aT e) I.ok.above) (by rw [z]; exact gU _)
  · exact z
theorem Inv.ntr (I:Inv X pins σ H s):∀ b,H b≠none->b∉frs X.stack:=fun b hn z=>hn (I.stkFree b z)
theorem Inv.slotsOf (I:Inv X pins σ H s) {h':cE} (sm:s.heap.UpToSlots h'):∀ b∈X.fs,∀ o,s.heap.get? b=some o->∃ sl,h'.get? b=some {o with slots:=sl}:=fun b hb o e=>by
  obtain ⟨_,o',ho',hd⟩:=I.funs.mem hb
  rw [e] at ho'
  cases ho'
  exact sm b o e hd
structure rA (X:Cx) (E:XK):Prop where
  stk:X.stack=X.env :: X.outer
  fr:X.env.frame=some X.env.locals
  ex:X.ex=[]
  xe:X.xe=fun e s'=>aZ (bD X.prog X.w) X.A (xJ X.env e) (fun _ s''=>CXo X.prog X.w X.outer X.H₀ X.s₀ E e s'') (fun e' s''=>CXo X.prog X.w X.outer X.H₀ X.s₀ E e' s'') s'
theorem dZ {P:aW} {w:bO} {K:ag} {mg:Str->Option aa} {base:cE} {N:List Str} {qual:Str} {scope:kS} {f:ae} {cd:aa} {A:bZ} {outer:List Env} :
    rA (qM (CXo P w) P w K mg base N qual scope f cd A outer s H E) E:=⟨rfl,rfl,rfl,rfl⟩
theorem rA.raises (hb:rA X E) (I:Inv X pins σ H s) {h':cE} {e C:ae} {vs:List aa} (hx:Gz s.heap h' e (.ref C) vs) (q:E (.ref C) none H):X.xe (.ref e) {s with heap:=h'}:=by
  rw [hb.xe]
  have hfr:X.A.frames=some (X.env :: X.outer):=by rw [I.ok.frames,hb.stk]
  have hin:∀ env∈X.stack,∀ a,env.frame=some a->a∈frs X.stack:=fun env he a ha=>qx.mpr ⟨env,he,ha⟩
  have fl:s.heap.FunFrames (mX s.heap (frs X.stack)) (X.env :: X.outer):=by
    have z:=PySem.W.funFrames_hide I.stack hin
    rw [hb.stk] at z |-
    exact z
  have ub:Un X.fs [] X.H₀ H X.s₀.heap s.heap:=by
    have z:=I.base
    rw [hb.ex] at z
    exact z
  have keepB:∀ b o,b∉frs X.stack->s.heap.get? b=some o->(mX s.heap (frs X.stack)).get? b=some o:=fun b o n e=>xE _ e n
  refine ER (B:=mX s.heap (frs X.stack)) (h:=s.heap) hfr hb.fr (fun b o z=>xT _ z) fl hx fun h'' x1 x4=>?_
  have sm:s.heap.UpToSlots h'':=(JM hx.keeps).trans x4
  refine ⟨e,C,H,_,rfl,q,I.os,I.bare,ub.left (stk:=frs X.stack) x1.1 (fun b o _ n e=>keepB b o n e) I.oldfs (I.slotsOf sm),I.hok.left x1.1 (fun b o n e=>keepB b o (I.ntr b n) e),x1,?_⟩
  intro b o c n e1
  have nb:b∉frs X.stack:=by
    rcases c with c | ⟨o',c⟩
    · exact I.ntr b c
    · exact fun z=>n (I.oldfs b o' c z)
  obtain ⟨o1,e2⟩:∃ o1,s.heap.get? b=some o1:=by
    rcases c with c | ⟨o',c⟩
    · exact I.hok.has c
    · exact ub.there b o' c (by simp)
  have e3:h''.get? b=some o1:=x1.1 b o1 (keepB b o1 nb e2)
  have e4:h''.get? b=some o:=e1
  rw [e3] at e4
  cases e4
  exact keepB b _ nb e2
theorem rA.passes (hb:rA X E) (hE:∀ c d H,E' c d H->E c d H):lN (CXo X.prog X.w) X E':=fun pins σ H s e s' I h=>by
  obtain ⟨ea,C,H',B,rfl,q,os,bare,un,hok,fl,cov⟩:=h
  have J:Inv X pins σ H' s':=I.call' (ch:=[]) os un hok bare (fun b z=>absurd z (by simp))
  rw [hb.xe]
  have hfr:X.A.frames=some (X.env :: X.outer):=by rw [I.ok.frames,hb.stk]
  have ub:Un X.fs [] X.H₀ H' X.s₀.heap s'.heap:=by
    have z:=J.base
    rw [hb.ex] at z
    exact z
  have ui:Un X.fs [] X.H₀ H X.s₀.heap s.heap:=by
    have z:=I.base
    rw [hb.ex] at z
    exact z
  have cov1:∀ b o,(H' b≠none\/∃ o',X.s₀.heap.get? b=some o')->b∉frs X.stack->s'.heap.get? b=some o->B.get? b=some o:=fun b o c n e =>
    cov b o (c.imp_right fun ⟨o',z⟩=>ui.there b o' z (by simp)) n e
  have fl':FlD B (X.env :: X.outer) ea (.ref C) .none s'.heap:=by
    rw [<- hb.stk]
    exact fl
  refine AA hfr hb.fr fl' fun h'' x1 x2=>?_
  refine ⟨ea,C,H',B,rfl,hE _ _ _ q,J.os,J.bare,ub.left (stk:=frs X.stack) x1.1 cov1 J.oldfs (J.slotsOf x2),J.hok.left x1.1 (fun b o n e=>cov1 b o (.inl n) (J.ntr b n) e),x1,?_⟩
  intro b o c n e1
  have nb:b∉frs X.stack:=by
    rcases c with c | ⟨o',c⟩
    · exact J.ntr b c
    · exact fun z=>n (J.oldfs b o' c z)
  obtain ⟨o1,e2⟩:∃ o1,s'.heap.get? b=some o1:=by
    rcases c with c | ⟨o',c⟩
    · exact J.hok.has c
    · exact ub.there b o' c (by simp)
  have e3:h''.get? b=some o1:=x1.1 b o1 (cov1 b o1 c nb e2)
  have e4:h''.get? b=some o:=e1
  rw [e3] at e4
  cases e4
  exact cov1 b _ c nb e2
end
section
variable {X:Cx} {E:XK} {x:Str} {C:ae} {np cpos pos:Pos} {e₀:dv} {rest:List dv} {ta:TA} {K:ag} {h:cE}
theorem ES {bmB:List aa} {newId:String} (X:K.In h) (q:dM K C bmB newId=true) :
    ∃ bm N nm q bs hdct sn sub ab col dd k0 k1 k2 k3 k5 mN,h.get? C=some (excClassObj nm q C N bs bm hdct sn sub ab col dd k0 k1 k2 k3 k5 newId)/\h.Ns N mN/\mN "__init__"=none/\OwnTail h bmB bm:=by
  unfold dM at q
  split at q
  · rename_i dd cd sl ho
    split at q
    · rename_i C' bm k0 k1 k2 k3 n k5 hm hs
      simp only [eX,beq_iff_eq,Bool.not_eq_true'] at q
      obtain ⟨⟨⟨⟨⟨rfl,rfl⟩,hdel⟩,ht⟩,hok⟩,hni⟩:=q
      obtain ⟨nm,bs,mro,ns,qn,hd,sn,sub,ab,col,del⟩:=cd
      dsimp only at hm hdel hok hni
      subst hm hdel
      have e:sl=#[k0,k1,k2,k3,some (.builtin n),k5]:=by
        obtain ⟨l⟩:=sl
        have hs':l=[k0,k1,k2,k3,some (.builtin n),k5]:=hs
        rw [hs']
      subst e
      exact ⟨bm,ns,nm,qn,bs,hd,sn,sub,ab,col,dd,k0,k1,k2,k3,k5,_,X _ _ ho,.of_isNs (PySem.W.isNs_of_in X hok),PySem.W.nsMap_none_of_in X hok hni,PySem.W.tail_of_in X ht⟩
    · cases q
  · cases q
def pG:List aa:=[.type "ValueError",.type "Exception",.type "BaseException",.type "object"]
def H9 (C:ae) (E:XK) (ta:TA):TS:=fun _ σ H=>ta σ H fun vs H1=>vs.length<=aJ/\E (.ref C) none H1
theorem kH (hb:rA X E) (hc:X.calm=true) (hg:Gl X x) (hm:X.mg x=some (.ref C)) (hx:dM X.K C pG "ValueError.__new__"=true) (ha:PA X (e₀ :: rest) ta)
    (hd:(x == ("__debug__":Str))=false:=by decide) (he:cH (e₀ :: rest) X.env=(false,fV e₀ X.env) :: cH rest X.env:=by rfl) (hpl:(i9 cpos (cH rest X.env)).any (·.1)=false:=by rfl) :
    PS X (.Raise (some (.Call (.Name x np) (e₀ :: rest) [] cpos)) none pos) (H9 C E ta):=by
  intro pins s σ H D I h
  obtain ⟨bm,N,nm,q,bs,hdct,sn,sub,ab,col,dd,k0,k1,k2,k3,k5,mN,hC,hN,hni,T⟩:=ES I.ok.mod.kin hx
  have base:pG.contains (.type "BaseException")=true:=F.excBase_ValueError.hasBase
  refine wpAny_Raise_call_subT (C:=C) (nm:=nm) (q:=q) (N:=N) (bs:=bs) (bm:=bm) (hdct:=hdct) (sn:=sn) (sub:=sub) (ab:=ab) (col:=col) (dd:=dd) (k0:=k0) (k1:=k1) (k2:=k2) (k3:=k3) (k5:=k5)
    F.excBase_ValueError (mN:=mN) (T.hasType base) (I.ok.hd hc) (by rw [he]; show (false || (i9 cpos (cH rest X.env)).any (·.1))=false; rw [hpl]; rfl) hni (pV I hg hm ⟨rfl,?_⟩ hd)
  have h1:=ha cpos pins s σ H _ I h
  rw [he] at h1 |-
  refine yi (eP h1 (fun us s2 z=>?_) fun _ _ y=>y)
  obtain ⟨vs,H1,I1,r,hl,q1⟩:=z
  exact ⟨rfl,by rw [<- r.length]; exact hl,I1.bk _ _ hC,hN.keeps I1.bk,T.keeps I1.bk,fun h' e hm=>hb.raises I1 hm q1⟩
end
section
variable {X:Cx} {pins:List (ae×Obj)} {σ:St} {H:Hp} {s:aj} {T:ae->St->Hp->Prop}
def vI (X:Cx) (pins:List (ae×Obj)) (H:Hp) (B h:cE):Prop:=
  ∀ b o,(H b≠none\/(b∉X.ex/\∃ o',X.s₀.heap.get? b=some o')\/∃ p∈X.pn++pins,p.1=b)->b∉frs X.stack->h.get? b=some o->B.get? b=some o
def tryW (X:Cx) (pins:List (ae×Obj)) (T:ae->St->Hp->Prop):aa->aj->Prop:=fun e s' =>
  ∃ ea C B σ H,e=.ref ea/\Inv X pins σ H s'/\Fly B X.stack ea C s'.heap/\vI X pins H B s'.heap/\T C σ H
abbrev Cx.tr (X:Cx) (pins:List (ae×Obj)) (T:ae->St->Hp->Prop):Cx:={X with xe:=tryW X pins T,pn:=X.pn++pins}
theorem Inv.tr (I:Inv X pins σ H s) (T:ae->St->Hp->Prop):Inv (X.tr pins T) [] σ H s:=
  ⟨⟨I.ok.mod,I.ok.kind,I.ok.glob,I.ok.blt,I.ok.above,I.ok.inj,I.ok.has,I.ok.cab,I.ok.hd,I.ok.frames,I.ok.stk,I.ok.exf,I.ok.bs,I.ok.bsz,I.ok.noex,I.ok.exfs,I.ok.funs,I.ok.frf⟩,I.os,I.bare,I.base,I.loc,I.cell,I.free,I.freeC,
    fun p hp=>I.pin p (by simpa using hp),I.hok,I.len⟩
theorem Inv.untr {pins':List (ae×Obj)} (I:Inv (X.tr pins T) pins' σ H s):Inv X pins σ H s:=
  ⟨⟨I.ok.mod,I.ok.kind,I.ok.glob,I.ok.blt,I.ok.above,I.ok.inj,I.ok.has,I.ok.cab,I.ok.hd,I.ok.frames,I.ok.stk,I.ok.exf,I.ok.bs,I.ok.bsz,I.ok.noex,I.ok.exfs,I.ok.funs,I.ok.frf⟩,I.os,I.bare,I.base,I.loc,I.cell,I.free,I.freeC,
    fun p hp=>I.pin p (fZ _ hp),I.hok,I.len⟩
theorem zq {h h':cE} {c:ae} {v:Option aa} (x:h.IsCell c v) (sm:h.UpToSlots h'):h'.IsCell c v:=by
  obtain ⟨o,ho,hd⟩:=x
  obtain ⟨sl,e⟩:=sm c o ho (fun vs q=>by rw [hd] at q; cases q)
  exact ⟨_,e,hd⟩
theorem Inv.landed {B h':cE} (I:Inv X pins σ H s) (hB:B.StaysIn h') (cov:vI X pins H B s.heap) (sm:s.heap.UpToSlots h'):Inv X pins σ H {s with heap:=h'}:=by
  refine ⟨I.ok,I.os,I.bare,⟨fun b o e n hb hx=>?_,fun b o e n hb hx=>?_,I.base.free,fun b o e hx=>?_,I.base.tups,I.base.frzs,I.base.tbls⟩,?_,fun x c e=>?_,I.free,I.freeC,fun p hp=>?_,I.hok.left hB (fun b o n e=>cov b o (.inl n) (I.ntr b n) e),I.len⟩
  · exact hB b o (cov b o (.inr (.inl ⟨hx,o,e⟩)) (fun z=>hb (I.oldfs b o e z)) (I.base.keep b o e n hb hx))
  · obtain ⟨s1,e1⟩:=I.base.slot b o e n hb hx
    obtain ⟨s2,e2⟩:=I.slotsOf sm b hb _ e1
    exact ⟨s2,e2⟩
  · obtain ⟨o',e'⟩:=I.base.there b o e hx
    by_cases hb:b∈frs X.stack
    · obtain ⟨s2,e2⟩:=I.slotsOf sm b (I.oldfs b o e hb) _ e'
      exact ⟨_,e2⟩
    · exact ⟨o',hB b o' (cov b o' (.inr (.inl ⟨hx,o,e⟩)) hb e')⟩
  · obtain ⟨m,hn,hl⟩:=I.loc
    refine ⟨m,sm.ns hn,fun i x v e1 e2 e3=>?_⟩
    obtain ⟨u,r,l⟩:=hl i x v e1 e2 e3
    refine ⟨u,r,?_⟩
    rcases l with l | ⟨k,c,e,l⟩
    · exact .inl l
    · exact .inr ⟨k,c,e,zq l sm⟩
  · obtain ⟨v,q⟩:=I.cell x c e
    exact ⟨v,zq q sm⟩
  · obtain ⟨e,n,l,f,d⟩:=I.pin p hp
    exact ⟨hB _ _ (cov p.1 p.2 (.inr (.inr ⟨p,hp,rfl⟩)) (fun z=>(ax.mp (I.stkSub _ z)).elim l f) e),n,l,f,d⟩
theorem vI.land {B h':cE} (I:Inv X pins σ H s) (hB:B.StaysIn h') (cov:vI X pins H B s.heap):vI X pins H B h':=fun b o c n e=>by
  obtain ⟨o1,e1⟩:∃ o1,s.heap.get? b=some o1:=by
    rcases c with c | ⟨hx,o',c⟩ | ⟨p,hp,rfl⟩
    · exact I.hok.has c
    · exact I.base.there b o' c hx
    · exact ⟨_,(I.pin p hp).1⟩
  have e2:=hB b o1 (cov b o1 c n e1)
  rw [e] at e2
  cases e2
  exact cov b _ c n e1
abbrev Cx.hdl (X:Cx) (ea:ae):Cx:={X with A:=X.A.mark (some (.ref ea)),calm:=false,xe:=fun _ _=>False}
theorem Inv.hdl (I:Inv X pins σ H s) (ea:ae):Inv (X.hdl ea) pins σ H s:=
  ⟨⟨I.ok.mod,I.ok.kind,I.ok.glob,I.ok.blt,I.ok.above,I.ok.inj,I.ok.has,I.ok.cab,fun z=>rZ z,I.ok.frames,I.ok.stk,I.ok.exf,I.ok.bs,I.ok.bsz,I.ok.noex,I.ok.exfs,I.ok.funs,I.ok.frf⟩,I.os,I.bare,I.base,I.loc,I.cell,I.free,I.freeC,
    I.pin,I.hok,I.len⟩
theorem Inv.unhdl {ea:ae} (ok:X.Ok) (I:Inv (X.hdl ea) pins σ H s):Inv X pins σ H s:=⟨ok,I.os,I.bare,I.base,I.loc,I.cell,I.free,I.freeC,I.pin,I.hok,I.len⟩
abbrev TH:=ae->TS
def PHs (X:Cx) (hs:List r9) (th:TH):Prop:=
  ∀ (pins:List (ae×Obj)) (s:aj) (σ:St) (H:Hp) (D:kU) (ea C:ae) (B:cE),Inv X pins σ H s->Fly B X.stack ea C s.heap->vI X pins H B s.heap->th C D σ H ->
    aZ (bD X.prog X.w) X.A (handleBy (.ref ea) X.env hs) (SP X pins D) X.xe s
def thNil:TH:=fun _ _ _ _=>False
theorem ET:PHs X [] thNil:=fun _ _ _ _ _ _ _ _ _ _ _ h=>h.elim
def zr (CX:CXT) (X:Cx) (E:St->XK):Prop:=∀ (pins:List (ae×Obj)) (σ:St) (H:Hp) (s:aj) (e:aa) (s':aj),Inv X pins σ H s->CX X.stack H s (E σ) e s'->X.xe e s'
def tryE (T:ae->St->Hp->Prop):St->XK:=fun σ c _ H=>∃ C,c=.ref C/\T C σ H
theorem yo:zr (CXo X.prog X.w) (X.tr pins T) (tryE T):=fun pins' σ H s e s' I h=>by
  obtain ⟨ea,C,H',B,rfl,⟨C',hC,q⟩,os,bare,un,hok,fl,cov⟩:=h
  cases hC
  have J:Inv (X.tr pins T) pins' σ H' s':=I.call' (ch:=[]) os un hok bare (fun b z=>absurd z (by simp))
  refine ⟨ea,C,B,σ,H',rfl,J.untr,fl,fun b o c n e=>cov b o ?_ n e,q⟩
  rcases c with c | ⟨c1,o',c2⟩ | ⟨p,hp,rfl⟩
  · exact .inl c
  · exact .inr (I.base.there b o' c2 c1)
  · exact .inr ⟨_,(I.pin p (fZ _ hp)).1⟩
def Ia (sp:Sp) (E:St->XK) (t:TA):TE:=fun σ H Q=>t σ H fun vs H1=>sp vs H1 Q (E σ)
variable {CX:CXT} {k:Nat} {f:ae} {fd:cu} {ps:List Str} {sp:Sp} {E:St->XK} {x:Str} {p pos:Pos} {e:dv} {es:List dv} {t:TA}
theorem B2 (F:bX X.prog X.w X.K X.mg X.base CX k f fd ps sp) (hr:eA k X.A) (hg:Gl X x) (hm:X.mg x=some (.ref f)) (hk:aE X.K (.ref f)=true) (hb:Binds X.K fd ps []) (hx:zr CX X E) (ha:PA X (e :: es) t)
    (hdb:(x == ("__debug__":Str))=false:=by decide) (he:cH (e :: es) X.env=(false,fV e X.env) :: cH es X.env:=by rfl) (hpl:(i9 pos (cH es X.env)).any (·.1)=false:=by rfl) :
    PE X (.Call (.Name x p) (e :: es) [] pos) (Ia sp E t):=by
  intro pins s σ H Q I h
  refine iA (pV I hg hm ?_ hdb)
  refine kE (h₀:=X.base) I.ok.mod.kin hk (thn (ha pos pins s σ H _ I h) fun us s1 z=>?_) he hpl
  obtain ⟨vs,H1,I1,r,q⟩:=z
  refine ⟨I1.kIn,?_⟩
  have hl:(us++[]).length=ps.length:=by
    rw [dC,<- r.length]
    exact F.len _ _ _ _ q
  have hb1:=hb s1 us I1.kIn hl
  rw [dC] at hb1
  refine yb (lW (F.run X.A X.stack s1 H1 ⟨us,[]⟩ us vs Q (E σ) hr I1.env0 hb1 r q) fun r s' hq=>?_)
  cases r with
  | error e=>exact hx pins σ H1 s1 e s' I1 hq
  | ok fl =>
    cases fl with
    | ret u=>exact I1.after hq
    | next=>exact cS hq
    | brk=>exact cS hq
    | cont=>exact cS hq
end
theorem Fun.okX {P:aW} {w:bO} {K:ag} {mg:Str->Option aa} {base:cE} {x qual:Str} {st:dP} {f:ae} {fd:cu} {N ps:List Str} {k:Nat} {sp:Sp} (F:Fun K x qual st f fd) (S:bY N ps (aF st)) (len:∀ vs H Q E,sp vs H Q E->vs.length=ps.length)
    (hbody:∀ (cdv:aa) (A:bZ) (outer:List Env) (s:aj) (H:Hp) (vs:List V) (Q:VK) (E:XK),eA k (A.deeper (qN qual (aF st) s.heap.objs.size f cdv))->sp vs H Q E ->
      ∃ t,PSs (qM (CXo P w) P w K mg base N qual (aF st) f cdv A outer s H E) (bP st) t/\t {nx:=fun _ H'=>Q .non H',rt:=Q} (start N vs) H):bX P w K mg base (CXo P w) (k + 1) f fd ps sp:=by
  obtain ⟨oc,od,kV,doc,pm,an,cdv,ct,osl,rfl,lk,hcd⟩:=F.ex
  exact Gx lk hcd S len fun A outer s H vs Q E hr hsp=>hbody cdv A outer s H vs Q E hr hsp
end L2
namespace L2
open PySem PySem.Spec PyProof.Rows
theorem vJ {prog:aW} {w:bO} {A:bZ} {R:HL->aj->Prop} {s:aj} {elt target iter:dv} {ifs:List dv} {scope:kS} {pos:Pos} {it acc:aa} {env:Env} (J:Nat->aj->Prop)
    (turn:∀ n s,J n s->aZ (bD prog w) A (pyNext it) (fun r s1=>match r with
      | none=>R (.ok .next) s1
      | some v=>aZ (bD prog w) A (pO target it v) (fun _ s2=>aZ (bD prog w) A (vn target env v) (fun _ s3 =>
          aZ (bD prog w) A (forIn ifs true fun c r=>if r=true then do let ok <- Bn c env (fV c env); pure (ForInStep.yield ok) else pure (ForInStep.yield r)) (fun ok s4 =>
            if ok=true then aZ (bD prog w) A (fV elt env) (fun x s5=>aZ (bD prog w) A (vx (.builtin "list.append") [acc,x]) (fun _ s6=>∃ m,m < n/\J m s6) (fun _ _=>False) s5) (fun _ _=>False) s4
            else ∃ m,m < n/\J m s4) (fun _ _=>False) s3) (fun _ _=>False) s2) (fun _ _=>False) s1) (fun _ _=>False) s)
    (n:Nat) (h:J n s):nA (bD prog w) A (.compLoop (.ListComp elt [⟨target,iter,ifs,0⟩] scope pos) 0 it acc env) R s:=by
  refine codeAny_loop rfl J (fun n s hI=>?_) n h
  show aZ _ A ((compTurn (.ListComp elt [⟨target,iter,ifs,0⟩] scope pos) 0 it acc env).onRaise
    (fun x=>do Bg x env; theTreesLotGoes x)) _ _ s
  refine wpAny_noted ?_
  rw [compTurn_list]
  refine ai (Am (ai (eP (turn n s hI) (fun r s1 h1=>?_) fun _ _ z=>z.elim)))
  cases r with
  | none=>exact aY h1
  | some v =>
    refine ai (eP h1 (fun _ s2 h2=>?_) fun _ _ z=>z.elim)
    refine ai (eP h2 (fun _ s3 h3=>?_) fun _ _ z=>z.elim)
    refine ai (eP h3 (fun ok s4 h4=>?_) fun _ _ z=>z.elim)
    cases ok with
    | false=>exact aY ⟨rfl,h4⟩
    | true =>
      refine ai (ai (eP h4 (fun x s5 h5=>?_) fun _ _ z=>z.elim))
      exact ai (eP h5 (fun _ s6 h6=>aY (aY ⟨rfl,h6⟩)) fun _ _ z=>z.elim)
theorem wX {env:Env}:∀ {names:List (Str×kg)} {x:Str},
    (names.map fun (n,k)=>if (k == NameKind.free && env.scope.kind == .function && env.kindOf n == some .cell) then (n,NameKind.cell) else (n,k)).lookup x=some .local->names.lookup x=some .local
  | [],_,h=>by simp at h
  | (n,k) :: r,x,h=>by
    have ih:=@wX env r x
    rw [cw] at h
    dsimp only at h
    by_cases hc:(k == NameKind.free && env.scope.kind == .function && env.kindOf n == some .cell)=true
    · rw [if_pos hc] at h
      cases hx:x == n with
      | true=>simp [cD,hx] at h
      | false =>
        simp only [cD,hx] at h |-
        exact ih h
    · rw [if_neg hc] at h
      cases hx:x == n with
      | true =>
        simp only [cD,hx] at h |-
        exact h
      | false =>
        simp only [cD,hx] at h |-
        exact ih h
theorem vK {env:Env}:∀ {names:List (Str×kg)} {x:Str},
    ((names.map fun (n,k)=>if (k == NameKind.free && env.scope.kind == .function && env.kindOf n == some .cell) then (n,NameKind.cell) else (n,k)).lookup x=some .cell \/
     (names.map fun (n,k)=>if (k == NameKind.free && env.scope.kind == .function && env.kindOf n == some .cell) then (n,NameKind.cell) else (n,k)).lookup x=some .free)->names.lookup x=some .cell\/names.lookup x=some .free
  | [],_,h=>by simp at h
  | (n,k) :: r,x,h=>by
    have ih:=@vK env r x
    rw [cw] at h
    dsimp only at h
    by_cases hc:(k == NameKind.free && env.scope.kind == .function && env.kindOf n == some .cell)=true
    · rw [if_pos hc] at h
      have hk:k=.free:=by
        have z:=(pk.mp (pk.mp hc).1).1
        exact eq_of_beq z
      cases hx:x == n with
      | true =>
        simp only [cD,hx]
        rw [hk]
        exact .inr rfl
      | false =>
        simp only [cD,hx] at h |-
        exact ih h
    · rw [if_neg hc] at h
      cases hx:x == n with
      | true =>
        simp only [cD,hx] at h |-
        exact h
      | false =>
        simp only [cD,hx] at h |-
        exact ih h
def oo (env:Env):List (Str×kg)->List (Str×ae)->List (Str×ae)
  | [],cs=>cs
  | (n,k) :: r,cs=>oo env r (if k=.free then (match env.cells.lookup n with | some c=>(n,c) :: cs | none=>cs) else cs)
theorem wY {env:Env}:∀ (names:List (Str×kg)) (cs:List (Str×ae)),(∀ y∈names,y.2=.free->∃ c,env.cells.lookup y.1=some c) ->
    (forIn names cs fun x r=>(do
      if (x.2 == NameKind.free)=true then do
        let c <- cellOf env x.1
        pure (ForInStep.yield ((x.1,c) :: r))
      else pure (ForInStep.yield r):Sem (ForInStep (List (Str×ae)))))=(pure (oo env names cs):Sem (List (Str×ae)))
  | [],cs,_=>rfl
  | (n,k) :: r,cs,h=>by
    have ih:=fun cs'=>wY r cs' (fun y hy=>h y (af _ hy))
    rw [List.forIn_cons]
    by_cases hk:k=.free
    · subst hk
      obtain ⟨c,hc⟩:=h _ aC rfl
      have e1:cellOf env n=pure c:=by
        unfold cellOf
        rw [show env.cells.lookup n=some c from hc]
      have e2:oo env ((n,.free) :: r) cs=oo env r ((n,c) :: cs):=by
        show oo env r (if NameKind.free=.free then (match env.cells.lookup n with | some c=>(n,c) :: cs | none=>cs) else cs)=_
        rw [if_pos rfl,show env.cells.lookup n=some c from hc]
      rw [e2,<- ih]
      simp [e1]
    · have e2:oo env ((n,k) :: r) cs=oo env r cs:=by
        show oo env r (if k=.free then _ else cs)=_
        rw [if_neg hk]
      rw [e2,<- ih]
      have e3:(k == NameKind.free)=false:=by
        cases k <;> first | rfl | exact absurd rfl hk
      simp [e3]
theorem wZ {env:Env}:∀ {names:List (Str×kg)} {cs:List (Str×ae)} {n:Str} {c:ae},(∀ n c,cs.lookup n=some c->env.cells.lookup n=some c)->(oo env names cs).lookup n=some c->env.cells.lookup n=some c
  | [],_,_,_,h,e=>h _ _ e
  | (m,k) :: r,cs,n,c,h,e=>by
    refine wZ (names:=r) (fun n' c' e'=>?_) e
    by_cases hk:k=.free
    · rw [if_pos hk] at e'
      cases hm:env.cells.lookup m with
      | none =>
        rw [hm] at e'
        exact h _ _ e'
      | some d =>
        rw [hm] at e'
        dsimp only at e'
        rw [cD] at e'
        split at e'
        · rename_i z
          rw [eq_of_beq z,hm]
          exact e'
        · exact h _ _ e'
    · rw [if_neg hk] at e'
      exact h _ _ e'
theorem uL {env:Env}:∀ (names:List (Str×kg)) (cs:List (Str×ae)) (n:Str),(∃ c,cs.lookup n=some c)->∃ c,(oo env names cs).lookup n=some c
  | [],_,_,h=>h
  | (m,k) :: r,cs,n,h=>by
    refine uL r _ n ?_
    by_cases hk:k=.free
    · rw [if_pos hk]
      cases hm:env.cells.lookup m with
      | none=>exact h
      | some d =>
        dsimp only
        rw [cD]
        split
        · exact ⟨_,rfl⟩
        · exact h
    · rw [if_neg hk]
      exact h
theorem w5 {env:Env}:∀ {names:List (Str×kg)} {cs:List (Str×ae)} {n:Str},(n,NameKind.free)∈names->(∃ c,env.cells.lookup n=some c)->∃ c,(oo env names cs).lookup n=some c
  | [],_,_,h,_=>by cases h
  | (m,k) :: r,cs,n,h,hc=>by
    rcases ax.mp h with e | e
    · obtain ⟨e1,e2⟩:=Prod.mk.inj e
      subst e1 e2
      obtain ⟨c,hc⟩:=hc
      refine uL r _ n ⟨c,?_⟩
      rw [if_pos rfl,hc]
      dsimp only
      rw [cD,beq_self_eq_true]
    · exact w5 (names:=r) e hc
structure jv (X:Cx) (scope:kS) (NN:List Str):Prop where
  nocell:∀ y∈scope.names,y.2≠.cell
  kind:scope.kind=.function
  names:∀ y∈scope.names,y.2=.local->scope.names.lookup y.1=some .local
  far:∀ y∈scope.names,y.2=.free->X.env.kindOf y.1=some .cell\/X.env.kindOf y.1=some .free
  len:NN.length=X.N.length
  apart:∀ (i:Nat) (n:Str),NN[i]?=some n->scope.names.lookup n≠some .local/\(X.N[i]?=some n\/scope.names.lookup n=none)
theorem jv.closed {X:Cx} {scope:kS} (hf:∀ y∈scope.names,y.2≠.free) (hc:∀ y∈scope.names,y.2≠.cell) (hk:scope.kind=.function) (hn:∀ y∈scope.names,y.2=.local->scope.names.lookup y.1=some .local)
    (ha:∀ n∈X.N,scope.names.lookup n≠some .local):jv X scope X.N where
  nocell:=hc
  kind:=hk
  names:=hn
  far:=fun y hy e=>absurd e (hf y hy)
  len:=rfl
  apart:=fun i n e=>⟨ha n (bQ e),.inl e⟩
theorem jv.open {X:Cx} {scope:kS} {NN N:List Str} {sc:kS} (hN:X.N=N) (hsc:X.env.scope=sc) (hc:∀ y∈scope.names,y.2≠.cell) (hk:scope.kind=.function) (hn:∀ y∈scope.names,y.2=.local->scope.names.lookup y.1=some .local)
    (hf:∀ y∈scope.names,y.2=.free->sc.names.lookup y.1=some .cell) (hl:NN.length=N.length) (ha:∀ p∈NN.zip N,scope.names.lookup p.1≠some .local/\(p.2=p.1\/scope.names.lookup p.1=none)):jv X scope NN where
  nocell:=hc
  kind:=hk
  names:=hn
  far:=fun y hy e=>.inl (by have z:=hf y hy e; rw [<- hsc] at z; exact z)
  len:=by rw [hN]; exact hl
  apart:=fun i n e=>by
    have lt:i < N.length:=by rw [<- hl]; exact (aB.mp e).1
    have e2:N[i]?=some N[i]:=aA lt
    have z:=ha (n,N[i]) (bQ (i:=i) (by rw [vL]; exact ⟨e,e2⟩))
    refine ⟨z.1,?_⟩
    rcases z.2 with z | z
    · left
      rw [hN,e2]
      exact congrArg some z
    · exact .inr z
abbrev cxC (X:Cx) (scope:kS) (NL:List Str) (fp:List ae) (s₂:aj) (H₂:Hp) (C:ae):Cx:=
  {X with N:=NL,s₀:=s₂,H₀:=H₂,env:=compEnvC scope (oo X.env scope.names []) C X.env,outer:=X.stack,ex:=fp,fn:=fun _=>false,pn:=[],xe:=fun _ _=>False}
def PTs (X:Cx) (ifs:List dv) (t:TT):Prop:=
  ∀ (pins:List (ae×Obj)) (s:aj) (σ:St) (H:Hp) (Q:Bool->Hp->Prop),Inv X pins σ H s->t σ H Q ->
    aZ (bD X.prog X.w) X.A (forIn ifs true fun c r=>if r=true then do let ok <- Bn c X.env (fV c X.env); pure (ForInStep.yield ok) else pure (ForInStep.yield r)) (TP X pins σ Q) X.xe s
def w6:TT:=fun _ H Q=>Q true H
theorem mK {X:Cx}:PTs X [] w6:=fun pins s σ H Q I h=>wpAny_tests_nil ⟨H,I,h⟩
def tu (n:Nat) (wi:TI) (g:TG) (tc:TT) (te:TE):TE:=fun σ H Q=>wi σ H fun J H1=>∃ W:Nat->Nat->List V->Hp->Prop,(∃ m,W 0 m [] H1)/\∀ i m ys H,W i m ys H->ys.length < aJ /\
  ((J.stop i H/\∀ p,H p=none->Q (.ref p) (upd H p (.lst ys))) \/
   (J.go i H/\∃ N:List V->Hp->Prop,(∀ ys' H',N ys' H'->∃ m',m' < m/\W (i + 1) m' ys' H')/\∀ x H',J.yld i H x H'->g x (cO n none++σ) H' fun σ2 H2=>σ2.drop n=σ/\tc σ2 H2 fun b H3 =>
      if b=true then te σ2 H3 fun y H4=>N (ys++[y]) H4 else N ys H3))
section
variable {X:Cx}
theorem w8 {σ σ2:St} {n:Nat} (h:σ2.drop n=σ) (i:Nat) (v:V) (e:(cO n none++σ)[i]?=some (some v)):σ2[i]?=some (some v):=by
  by_cases hi:i < n
  · rw [dy (by simpa using hi),m5,if_pos hi] at e
    cases e
  · rw [dJ (by simpa using hi),j6] at e
    rw [<- h,Bh] at e
    rw [show n + (i - n)=i by omega] at e
    exact e
theorem w9 {elt target iter:dv} {ifs:List dv} {scope:kS} {NN:List Str} {pos pos':Pos} {wi:TI} {g:TG} {tc:TT} {te:TE} {use:Option (aa->Sem Unit)} {Qv:aa->aj->Prop} (own:List Str) (ok:jv X scope NN) (hc:X.calm=true) (hi:PI X target iter wi)
    (hg:∀ fp s₂ H₂ C,PG (cxC X scope (own++NN) fp s₂ H₂ C) target g) (ht:∀ fp s₂ H₂ C,PTs (cxC X scope (own++NN) fp s₂ H₂ C) ifs tc) (he:∀ fp s₂ H₂ C,PE (cxC X scope (own++NN) fp s₂ H₂ C) elt te)
    (hs:∀ x,nv iter X.env x=pure x) {pins:List (ae×Obj)} {s:aj} {σ:St} {H:Hp} {Q:VK} (I:Inv X pins σ H s) (h:tu own.length wi g tc te σ H Q)
    (hfin:∀ (s4:aj) (C D:ae) (H':Hp) (m:Str->Option aa),s4.heap.Ns C m->Inv X pins σ H' s4->H' C=none->C≠X.env.locals->X.s₀.heap.objs.size<=C->(∀ x c,X.env.cells.lookup x=some c->c≠C)->(∀ p∈X.pn++pins,p.1≠C)->Q (.ref D) H' ->
      compPost (bD X.prog X.w) X.A X.xe use Qv (.ref D) C (.ok .next) s4) :
    aZ (bD X.prog X.w) X.A (comprehension (.ListComp elt [⟨target,iter,ifs,0⟩] scope pos) scope X.env pos' (newList []) false (fV iter X.env) use) Qv X.xe s:=by
  have hfr:∀ y∈scope.names,y.2=.free->∃ c,X.env.cells.lookup y.1=some c:=fun y hy e=>I.ok.has _ (ok.far y hy e)
  have okclos:closureFor scope X.env=pure (oo X.env scope.names []):=by
    unfold closureFor
    rw [<- wY scope.names [] hfr]
    simp
  have oksub:∀ n c,(oo X.env scope.names []).lookup n=some c->X.env.cells.lookup n=some c:=fun n c e=>wZ (fun n c e=>by simp at e) e
  have okfar:∀ n,(scope.names.lookup n=some .cell\/scope.names.lookup n=some .free)->(∃ c,(oo X.env scope.names []).lookup n=some c)/\(X.env.kindOf n=some .cell\/X.env.kindOf n=some .free):=fun n e=>by
    rcases e with e | e
    · exact absurd rfl (ok.nocell _ (gr e))
    · have m:=gr e
      exact ⟨w5 m (hfr _ m rfl),ok.far _ m rfl⟩
  refine wpAny_comprehension_free (use:=use) rfl hs okclos ok.kind ok.names (thn (hi pins s σ H _ I h) fun xv s1 h1=>thn h1 fun itv s2 h2=>?_)
  obtain ⟨it,fp,tn,J,H2,e,I2,T,st2,f2,W,⟨m0,w0⟩,turn⟩:=h2
  subst e
  have fpLt:∀ b∈fp,b < s2.heap.objs.size:=fun b hb=>by
    obtain ⟨o,e,_⟩:=T.obj _ _ st2 b hb
    exact aT e
  refine iW (wpAny_newFunctionEnv ok.nocell (by intro y hy; simp at hy) (fun h1 hns hsb=>?_) ok.kind)
  dsimp only at hns hsb |-
  generalize hP:s2.heap.push {cls:=.type "list",dict:=none,data:=.seq ([]:List aa).toArray}=P at hns hsb |-
  have hC:P.objs.size=s2.heap.objs.size + 1:=by rw [<- hP,uA]
  have hDC:s2.heap.objs.size≠P.objs.size:=by rw [hC]; exact aU (sX _)
  have leC:s2.heap.objs.size<=P.objs.size:=by rw [hC]; exact gi _
  have old:∀ b o,s2.heap.get? b=some o->h1.get? b=some o:=fun b o e =>
    hsb.extBut b o (by rw [hC]; exact aU (jO (aT e))) (aQ _ (hP ▸ aQ _ e))
  have accAt:h1.get? s2.heap.objs.size=some {cls:=.type "list",data:=.seq ([]:List aa).toArray 0}:=hsb.extBut _ _ hDC (aQ _ (hP ▸ cB _ rfl))
  -- the block's context is well made
  have okC:(cxC X scope (own++NN) fp s2 H2 P.objs.size).Ok:=by
    refine ⟨I.ok.mod,ok.kind,I.ok.glob,I.ok.blt,by show s2.heap.objs.size<=P.objs.size; omega,fun y z c a b=>I.ok.inj y z c (oksub _ _ a) (oksub _ _ b),fun y hy=>(okfar y (vK hy)).1,fun y c z _=>rZ z,I.ok.hd,I.ok.frames,.inl rfl,
      fun b hb=>⟨fun z=>?_,fun y c e=>(f2 b hb).2.2.2.2.1 y c (oksub _ _ e)⟩,I2.bs,cT I.ok.bsz I2.sz,fun b o e hb=>?_,fun b hb z=>?_,I2.stack,I2.stkFree⟩
    · exact aU (bE (fpLt b hb) leC) z
    · rcases (f2 b hb).2.2.2.1 with q | q
      · exact I.ok.noex b o e q
      · exact absurd (bE (aT e) (cT I.ok.bsz q)) (gU _)
    · rcases ax.mp (I2.stkSub b z) with q | q
      · exact (f2 b hb).2.1 q
      · exact (f2 b hb).2.2.1 q
  have fpOk:∀ {H':Hp} {o:Obj},(∀ b∈fp,H' b=none)->∀ b∈fp,vw (cxC X scope (own++NN) fp s2 H2 P.objs.size) [(s2.heap.objs.size,o)] H' b:=fun {H' o} hn b hb=>by
    have lt:=fpLt b hb
    refine ⟨hn b hb,fun z=>?_,fun z=>okC.exfs b hb z,.inl hb,fun y c e=>(okC.exf b hb).2 y c e,fun p hp z=>?_⟩
    · exact aU (bE lt leC) z
    · have hp':p=(s2.heap.objs.size,o):=by simpa using hp
      subst hp'
      exact aU lt (Eq.symm z)
  have cellNe:∀ y c,(oo X.env scope.names []).lookup y=some c->c < s2.heap.objs.size:=fun y c e=>by
    obtain ⟨v,q⟩:=I2.cell y c (oksub _ _ e)
    exact q.lt
  have start:Inv (cxC X scope (own++NN) fp s2 H2 P.objs.size) [] (cO own.length none++σ) H2 {s2 with heap:=h1,toks:=s2.toks + ([]:List (Str×aa)).length}:=by
    refine ⟨okC,rfl,I2.bare,Un.kept old,⟨_,hns,fun i y v e1 e2 e3=>?_⟩,fun y c e=>?_,I2.hok.fresh (by show s2.heap.objs.size<=P.objs.size; omega),fun y c e=>I2.freeC y c (oksub _ _ e),fun p hp=>absurd (show p∈([]:List (ae×Obj)) from by simpa using hp) (by simp),I2.hok.kept old,?_⟩
    · by_cases hi:i < own.length
      · rw [dy (by simpa using hi),m5,if_pos hi] at e2
        cases e2
      · have e1n:NN[i - own.length]?=some y:=by
          have z:(own++NN)[i]?=some y:=e1
          rw [dJ (by omega)] at z
          exact z
        rw [dJ (by simpa using hi),j6] at e2
        obtain ⟨ap1,ap2⟩:=ok.apart _ y e1n
        rcases e3 with e3 | e3
        · exact absurd (wX e3) ap1
        · obtain ⟨⟨c,hcl⟩,kc⟩:=okfar y (vK e3)
          have e1':X.N[i - own.length]?=some y:=by
            rcases ap2 with z | z
            · exact z
            · rcases vK e3 with q | q <;> (rw [z] at q; cases q)
          obtain ⟨m,hn,hl⟩:=I2.loc
          obtain ⟨u,r,l⟩:=hl (i - own.length) y v e1' e2 (.inr kc)
          refine ⟨u,r,.inr ⟨e3,c,hcl,?_⟩⟩
          rcases l with ⟨l,_⟩ | ⟨_,c',e',q⟩
          · rcases kc with kc | kc <;> (rw [l] at kc; cases kc)
          · rw [oksub _ _ hcl] at e'
            cases e'
            exact q.keeps old
    · obtain ⟨v,q⟩:=I2.cell y c (oksub _ _ e)
      exact ⟨v,q.keeps old⟩
    · show (cO own.length none++σ).length=(own++NN).length
      rw [aI,aI,j6,I2.len,ok.len]
  have nDC:s2.heap.objs.size≠P.objs.size:=hDC
  have nDf:s2.heap.objs.size∉frs X.stack:=fun z=>by
    rcases ax.mp (I2.stkSub _ z) with q | q
    · exact aU I2.lt (Eq.symm q)
    · exact I2.nofs (aL _) q
  have loop:∀ s₃:aj,s₃={s2 with heap:=h1,toks:=s2.toks + ([]:List (Str×aa)).length} ->
      nA (bD X.prog X.w) X.A (.compLoop (.ListComp elt [⟨target,iter,ifs,0⟩] scope pos) 0 (.ref it) (.ref s2.heap.objs.size) (compEnvC scope (oo X.env scope.names []) P.objs.size X.env))
        (compPost (bD X.prog X.w) X.A X.xe use Qv (.ref s2.heap.objs.size) P.objs.size) s₃:=by
    rintro s₃ rfl
    refine vJ (fun n s'=>∃ (i:Nat) (ys:List V) (H':Hp) (its:List aa) (k:Nat),Inv (cxC X scope (own++NN) fp s2 H2 P.objs.size) [] (cO own.length none++σ) H' s'/\tn i s'.heap/\(∀ b∈fp,H' b=none)/\H' s2.heap.objs.size=none/\df ys its /\
      s'.heap.get? s2.heap.objs.size=some {cls:=.type "list",data:=.seq its.toArray k}/\W i n ys H') ?_ m0
      ⟨0,[],H2,[],0,start,T.keep _ _ _ st2 (fun b _ o e=>old b o e),fun b hb=>(f2 b hb).1,I2.hok.fresh (aL _),.nil,accAt,w0⟩
    rintro n s3 ⟨i,ys,H3,its,k,I3,st3,fr3,nD,rv,hD,w3⟩
    have Ip:Inv (cxC X scope (own++NN) fp s2 H2 P.objs.size) [(s2.heap.objs.size,{cls:=.type "list",data:=.seq its.toArray k})] (cO own.length none++σ) H3 s3:=I3.pins_of fun p hp=>by
      have hp':p=(s2.heap.objs.size,{cls:=.type "list",data:=.seq its.toArray k}):=by simpa using hp
      subst hp'
      exact ⟨hD,nD,nDC,nDf,fun v z=>by cases z⟩
    obtain ⟨hl,hw⟩:=turn i n ys H3 w3
    rcases hw with ⟨stop,fin⟩ | ⟨go,N,hN,step⟩
    · refine thn (T.done (cxC X scope (own++NN) fp s2 H2 P.objs.size) rfl rfl rfl hc i _ s3 _ H3 _ Ip (fpOk fr3) st3 stop) fun r s4 z=>?_
      obtain ⟨hr,I4⟩:=z
      subst hr
      obtain ⟨m,hn,_⟩:=I4.loc
      have hD4:s4.heap.get? s2.heap.objs.size=some {cls:=.type "list",data:=.seq its.toArray k}:=(I4.pin _ (bC _ aC)).1
      obtain ⟨h',eh'⟩:∃ h',h'=s4.heap:=⟨_,rfl⟩
      have sb':∀ b o,b≠P.objs.size->s4.heap.get? b=some o->h'.get? b=some o:=fun b o hb e=>by rw [eh']; exact e
      have oldNe:∀ b o,s2.heap.get? b=some o->b≠P.objs.size/\b≠s2.heap.objs.size:=fun b o e=>by
        have lt:=aT e
        exact ⟨aU (bE lt leC),aU lt⟩
      have trNe:∀ b u,H3 b=some u->b≠P.objs.size/\b≠s2.heap.objs.size:=fun b u e=>by
        refine ⟨fun z=>?_,fun z=>?_⟩
        · have q:H3 P.objs.size=none:=I4.free
          rw [<- z,e] at q
          cases q
        · rw [z,nD] at e
          cases e
      have un:Un (frs X.stack) fp H2 (upd H3 s2.heap.objs.size (.lst ys)) s2.heap h':=by
        have B:=I4.base
        refine ⟨fun b o e q hb hx=>sb' b o (oldNe b o e).1 (B.keep b o e q hb hx),fun b o e q hb hx=>?_,fun b o e q hx=>?_,fun b o e hx=>?_,fun b xs e=>?_,fun b o u e=>?_,fun b ps e=>?_⟩
        · obtain ⟨sl,e1⟩:=B.slot b o e q hb hx
          exact ⟨sl,sb' _ _ (oldNe b o e).1 e1⟩
        · rw [aV (oldNe b o e).2]
          exact B.free b o e q hx
        · obtain ⟨o',e1⟩:=B.there b o e hx
          exact ⟨o',sb' _ _ (oldNe b o e).1 e1⟩
        · have q:=B.tups b xs e
          rw [aV (trNe _ _ q).2]
          exact q
        · have q:=B.frzs b o u e
          rw [aV (trNe _ _ q).2]
          exact q
        · obtain ⟨more,q⟩:=B.tbls b ps e
          refine ⟨more,?_⟩
          rw [aV (trNe _ _ q).2]
          exact q
      have hok:HOk X.prog X.w (upd H3 s2.heap.objs.size (.lst ys)) h':=fun b u e=>by
        by_cases hb:b=s2.heap.objs.size
        · subst hb
          rw [ao] at e
          cases e
          exact ⟨kT hl,its,k,rv,sb' _ _ nDC hD4⟩
        · rw [aV hb] at e
          refine (I4.hok b u e).stay (fun c v hc q=>sb' c v ?_ q) (fun c q=>?_) fun c xs q=>?_
          · rcases hc with z | z
            · rw [z]
              exact (trNe _ _ e).1
            · exact (trNe _ _ z).1
          · rw [aV (trNe _ _ q).2]
            exact q
          · rw [aV (trNe _ _ q).2]
            exact q
      have J:=I2.call' (s':={s4 with heap:=h'}) (ch:=fp) I4.os un hok I4.bare fun b hb=>⟨(f2 b hb).2.2.2.1,(f2 b hb).2.1,(f2 b hb).2.2.2.2.1,(f2 b hb).2.2.2.2.2⟩
      subst eh'
      refine hfin s4 P.objs.size s2.heap.objs.size (upd H3 s2.heap.objs.size (.lst ys)) m hn J ?_ ?_ ?_ (fun y c e=>?_) (fun q hq=>?_) (fin _ nD)
      · rw [aV nDC.symm]
        exact I4.free
      · exact nI (bE I2.lt leC)
      · exact cT I2.sz leC
      · obtain ⟨v,z⟩:=I2.cell y c e
        exact aU (bE z.lt leC)
      · exact aU (bE (aT (I2.pin q hq).1) leC)
    · refine thn (T.item (cxC X scope (own++NN) fp s2 H2 P.objs.size) rfl rfl rfl hc i _ s3 _ H3 _ Ip (fpOk fr3) st3 go) fun r s4 z=>?_
      obtain ⟨u,hr,h4⟩:=z
      subst hr
      refine thn h4 fun _ s5 z=>?_
      obtain ⟨x,H5,I5,r5,y5,st5,fr5⟩:=z
      have I5':=I5.pinned (fpOk fr5) (T.obj _ _ st5)
      refine thn (hg fp s2 H2 P.objs.size _ s5 _ H5 x u _ I5' r5 (step x H5 y5)) fun _ s6 z=>?_
      obtain ⟨σ6,H6,I6,hσ,q6⟩:=z
      refine thn (ht fp s2 H2 P.objs.size _ s6 σ6 H6 _ I6 q6) fun okb s7 z=>?_
      obtain ⟨H7,I7,q7⟩:=z
      have pinD:∀ {H8:Hp} {s8:aj},Inv (cxC X scope (own++NN) fp s2 H2 P.objs.size) ([(s2.heap.objs.size,{cls:=.type "list",data:=.seq its.toArray k})]++qI fp s5.heap) σ6 H8 s8 ->
          s8.heap.get? s2.heap.objs.size=some {cls:=.type "list",data:=.seq its.toArray k}/\H8 s2.heap.objs.size=none:=fun I8=>by
        have z:=I8.pin (s2.heap.objs.size,{cls:=.type "list",data:=.seq its.toArray k}) (bC _ (fZ _ aC))
        exact ⟨z.1,z.2.1⟩
      have pinF:∀ {H8:Hp} {s8:aj},Inv (cxC X scope (own++NN) fp s2 H2 P.objs.size) ([(s2.heap.objs.size,{cls:=.type "list",data:=.seq its.toArray k})]++qI fp s5.heap) σ6 H8 s8 ->
          tn (i + 1) s8.heap/\∀ b∈fp,H8 b=none:=fun {H8 s8} I8=>by
        refine ⟨T.keep _ _ _ st5 fun b hb o e=>(I8.pin (b,o) (bC _ (bC _ (mB hb e)))).1,fun b hb=>?_⟩
        obtain ⟨o,e,_⟩:=T.obj _ _ st5 b hb
        exact (I8.pin (b,o) (bC _ (bC _ (mB hb e)))).2.1
      have len6:(cO own.length none++σ).length=σ6.length:=by rw [I6.len,start.len]
      cases okb with
      | false =>
        have q7':N ys H7:=q7
        obtain ⟨m',lt,w'⟩:=hN _ _ q7'
        obtain ⟨d1,d2⟩:=pinD I7
        obtain ⟨p1,p2⟩:=pinF I7
        have J7:Inv (cxC X scope (own++NN) fp s2 H2 P.objs.size) [] σ6 H7 s7:=I7.pins_of (fun p hp=>absurd hp (by simp))
        exact ⟨m',lt,i + 1,ys,H7,its,k,J7.weak len6 (w8 hσ),p1,p2,d2,rv,d1,w'⟩
      | true =>
        refine thn (he fp s2 H2 P.objs.size _ s7 σ6 H7 _ I7 q7) fun v8 s8 z=>?_
        obtain ⟨y,H8,I8,r8,n8⟩:=z
        obtain ⟨m',lt,w'⟩:=hN _ _ n8
        obtain ⟨d1,d2⟩:=pinD I8
        obtain ⟨p1,p2⟩:=pinF I8
        refine append_at (hsz:=by rw [aD,<- rv.length]; exact kT hl) d1 fun h9 sb hD9=>?_
        have J8:Inv (cxC X scope (own++NN) fp s2 H2 P.objs.size) [] σ6 H8 s8:=I8.pins_of (fun p hp=>absurd hp (by simp))
        have J9:Inv (cxC X scope (own++NN) fp s2 H2 P.objs.size) [] σ6 H8 {s8 with heap:=h9}:=J8.turned (t':=s8.toks) (it:=s2.heap.objs.size) (fun b o hb e=>sb.extBut b o hb e) d2 nDC (.inr (aL _)) (fun y c e=>aU (cellNe y c e)) (fun p hp=>absurd hp (by simp))
        refine ⟨m',lt,i + 1,ys++[y],H8,its++[v8],k + 1,J9.weak len6 (w8 hσ),T.keep _ _ _ p1 (fun b hb o e=>sb.extBut b o (aU (fpLt b hb)) e),p2,d2,rv.append (.cons r8 .nil),?_,w'⟩
        show h9.get? _=_
        rw [hD9,List.push_toArray]
  exact codeAny_compStart_list (loop _ rfl) (T.self X.A 0 _ _ _ (T.keep _ _ _ st2 (fun b _ o e=>old b o e)) (loop _ rfl))
theorem p9 {elt target iter:dv} {ifs:List dv} {scope:kS} {NN:List Str} {pos:Pos} {wi:TI} {g:TG} {tc:TT} {te:TE} (own:List Str) (ok:jv X scope NN) (hc:X.calm=true) (hi:PI X target iter wi)
    (hg:∀ fp s₂ H₂ C,PG (cxC X scope (own++NN) fp s₂ H₂ C) target g) (ht:∀ fp s₂ H₂ C,PTs (cxC X scope (own++NN) fp s₂ H₂ C) ifs tc) (he:∀ fp s₂ H₂ C,PE (cxC X scope (own++NN) fp s₂ H₂ C) elt te)
    (hs:∀ x,nv iter X.env x=pure x:=by intro _; rfl):PE X (.ListComp elt [⟨target,iter,ifs,0⟩] scope pos) (tu own.length wi g tc te):=by
  intro pins s σ H Q I h
  rw [eval_ListComp]
  refine w9 (use:=none) own ok hc hi hg ht he hs I h fun s4 C D H' m hn J n1 n2 n3 n4 n5 q=>?_
  exact ⟨m,hn,fun h' sb=>⟨.ref D,H',J.turned (t':=s4.toks) (it:=C) (fun b o hb e=>sb.extBut b o hb e) n1 n2 (.inr n3) n4 n5,rfl,q⟩⟩
theorem zt {elt target iter:dv} {ifs:List dv} {scope:kS} {NN:List Str} {pos pos' spos:Pos} {wi:TI} {g:TG} {tc:TT} {te:TE} {i:Nat} {x:Str} (own:List Str) (ok:jv X scope NN) (hc:X.calm=true) (hN:X.N.Nodup) (hx0:X.N[i]?=some x) (hx:Loc X.env.scope x) (hi:PI X target iter wi)
    (hg:∀ fp s₂ H₂ C,PG (cxC X scope (own++NN) fp s₂ H₂ C) target g) (ht:∀ fp s₂ H₂ C,PTs (cxC X scope (own++NN) fp s₂ H₂ C) ifs tc) (he:∀ fp s₂ H₂ C,PE (cxC X scope (own++NN) fp s₂ H₂ C) elt te)
    (hs:∀ x,nv iter X.env x=pure x:=by intro _; rfl) (hf:X.fn x=true\/X.env.scope.names.lookup x=some .local:=by first | exact .inl rfl | exact .inr rfl | assumption)
    (hsw:rn (.ListComp elt [⟨target,iter,ifs,0⟩] scope pos) (some (.Name x pos')) spos.line X.env=pure true:=by rfl):PS X (.Assign [.Name x pos'] (.ListComp elt [⟨target,iter,ifs,0⟩] scope pos) spos) (Ew (tu own.length wi g tc te) (zb i)):=by
  intro pins s σ H D I h
  rw [exec_Assign_Name_used _ _ _ _ hsw]
  refine ai (Am (ai ?_))
  show aZ _ X.A (do let _ <- comprehension (.ListComp elt [⟨target,iter,ifs,0⟩] scope pos) scope X.env _ (newList []) false (fV iter X.env) (some (vn (.Name x pos') X.env))) _ _ s
  refine ai (eP (w9 (use:=some (vn (.Name x pos') X.env)) (Qv:=fun _ s'=>SP X pins D .next s') own ok hc hi hg ht he hs I h fun s4 C DD H' m hn J n1 n2 n3 n4 n5 q=>?_) (fun _ s' hq=>aY (aY hq)) fun _ _ e=>e)
  show aZ _ X.A (vn (.Name x pos') X.env (.ref DD)) _ _ s4
  refine JG (uw J hN hx0 hx (show RelV (.ref DD) (.ref DD) from rfl) (fun s' J' z=>?_) hf)
  obtain ⟨a,sb,ha⟩:=z
  have na:C≠a:=by
    rcases ha with ha | ha
    · rw [ha]
      exact n2
    · exact (n4 x a ha).symm
  refine ⟨m,hn.at' fun o e=>sb.extBut C o na e,fun h' sb2=>⟨_,H',J'.turned (t':=s'.toks) (it:=C) (fun b o hb e=>sb2.extBut b o hb e) n1 n2 (.inr n3) n4 n5,q⟩⟩
end
section
variable {K:ag} {a:ae} {xs:List V} {n:Nat} {g:TG} {tc:TT} {te:TE} {σ:St} {H:Hp} {Q:VK}
theorem oP (Pv:Nat->List V->Hp->Prop) (h0:Pv 0 [] H) (hl:∀ i ys H,i<=xs.length->Pv i ys H->SqL K H a xs/\ys.length < aJ)
    (hs:∀ i x ys H,xs[i]?=some x->Pv i ys H->g x (cO n none++σ) H fun σ2 H2=>σ2.drop n=σ/\tc σ2 H2 fun b H3=>if b=true then te σ2 H3 fun y H4=>Pv (i + 1) (ys++[y]) H4 else Pv (i + 1) ys H3)
    (hd:∀ ys H,Pv xs.length ys H->∀ p,H p=none->Q (.ref p) (upd H p (.lst ys))) :
    ∃ W:Nat->Nat->List V->Hp->Prop,(∃ m,W 0 m [] H)/\∀ i m ys H,W i m ys H->ys.length < aJ/\(((Itl K a).stop i H/\∀ p,H p=none->Q (.ref p) (upd H p (.lst ys))) \/
      ((Itl K a).go i H/\∃ N:List V->Hp->Prop,(∀ ys' H',N ys' H'->∃ m',m' < m/\W (i + 1) m' ys' H')/\∀ x H',(Itl K a).yld i H x H'->g x (cO n none++σ) H' fun σ2 H2=>σ2.drop n=σ/\tc σ2 H2 fun b H3 =>
        if b=true then te σ2 H3 fun y H4=>N (ys++[y]) H4 else N ys H3)):=by
  refine ⟨fun i m ys H=>m=xs.length - i/\i<=xs.length/\Pv i ys H,⟨xs.length,by simp,bK _,h0⟩,?_⟩
  rintro i m ys H ⟨rfl,hi,p⟩
  obtain ⟨q,z⟩:=hl i ys H hi p
  refine ⟨z,?_⟩
  by_cases hlt:i < xs.length
  · refine .inr ⟨⟨xs,xs[i],q,by simp [hlt]⟩,Pv (i + 1),fun ys' H' p'=>⟨xs.length - (i + 1),by omega,rfl,hlt,p'⟩,fun x H' y=>?_⟩
    obtain ⟨e,y⟩:=y
    subst e
    exact hs i x ys _ (y xs q) p
  · have e:i=xs.length:=by omega
    subst e
    exact .inl ⟨⟨xs,q,aL _⟩,hd ys H p⟩
theorem B3 (Pv:Nat->List V->Hp->Prop) (h0:Pv 0 [] H) (hl:∀ i ys H,i<=xs.length->Pv i ys H->SqT K H a xs/\ys.length < aJ)
    (hs:∀ i x ys H,xs[i]?=some x->Pv i ys H->g x (cO n none++σ) H fun σ2 H2=>σ2.drop n=σ/\tc σ2 H2 fun b H3=>if b=true then te σ2 H3 fun y H4=>Pv (i + 1) (ys++[y]) H4 else Pv (i + 1) ys H3)
    (hd:∀ ys H,Pv xs.length ys H->∀ p,H p=none->Q (.ref p) (upd H p (.lst ys))) :
    ∃ W:Nat->Nat->List V->Hp->Prop,(∃ m,W 0 m [] H)/\∀ i m ys H,W i m ys H->ys.length < aJ/\(((Itt K a).stop i H/\∀ p,H p=none->Q (.ref p) (upd H p (.lst ys))) \/
      ((Itt K a).go i H/\∃ N:List V->Hp->Prop,(∀ ys' H',N ys' H'->∃ m',m' < m/\W (i + 1) m' ys' H')/\∀ x H',(Itt K a).yld i H x H'->g x (cO n none++σ) H' fun σ2 H2=>σ2.drop n=σ/\tc σ2 H2 fun b H3 =>
        if b=true then te σ2 H3 fun y H4=>N (ys++[y]) H4 else N ys H3)):=by
  refine ⟨fun i m ys H=>m=xs.length - i/\i<=xs.length/\Pv i ys H,⟨xs.length,by simp,bK _,h0⟩,?_⟩
  rintro i m ys H ⟨rfl,hi,p⟩
  obtain ⟨q,z⟩:=hl i ys H hi p
  refine ⟨z,?_⟩
  by_cases hlt:i < xs.length
  · refine .inr ⟨⟨xs,xs[i],q,by simp [hlt]⟩,Pv (i + 1),fun ys' H' p'=>⟨xs.length - (i + 1),by omega,rfl,hlt,p'⟩,fun x H' y=>?_⟩
    obtain ⟨e,y⟩:=y
    subst e
    exact hs i x ys _ (y xs q) p
  · have e:i=xs.length:=by omega
    subst e
    exact .inl ⟨⟨xs,q,aL _⟩,hd ys H p⟩
end
end L2
namespace PySem
theorem vM:yg (.type "list") "keys"=pure none:=by rw [typeLookup_type,builtinLookup_eq_fast]; kernel_rfl
theorem xa:entryFor table "dict.update.loop"=some iV.«dict.update.loop»:=entryFor_of_tree (by kernel_rfl)
section
variable {prog:aW} {w:bO} {A:bZ} {E:aa->aj->Prop} {s:aj}
theorem EU {a:ae} {xs:Array aa} {k:Nat} {sl:Array (Option aa)} {Q:Option aa->aj->Prop} (hx:s.heap.get? a=some {cls:=.type "list",dict:=none,data:=.seq xs k,slots:=sl}) (hA:A.handled=none)
    (h:∀ h' tk,(∀ b o,s.heap.get? b=some o->h'.get? b=some o)->Q none {s with heap:=h',toks:=tk}):aZ (bD prog w) A (getAttr? (.ref a) "keys") Q E s:=by
  obtain ⟨hp,g,d,tk,os⟩:=s
  have hT:∀ tk',(⟨hp,g,d,tk',os⟩:aj).TypeIs (.ref a) "list":=fun _=>⟨_,hx,rfl⟩
  have f1:=sub_AttributeError
  have f3:=F.slot_list_getattribute.lookup
  have f4:=F.slot_list_getattribute.bind (.ref a)
  have f5:=am_list_getattr_none
  unfold getAttr? getAttrBy? getAttrBy
  have go:∀ (u:Tok) (tk:Nat) (Q:aa->aj->Prop) (E:aa->aj->Prop),(∀ h' tk' e,Heap.NewAttrErr hp h' e (.ref a) "keys"->E (.ref e) ⟨h',g,d,tk',os⟩)->aZ (bD prog w) A (vx (Value.builtin "list.__getattribute__") [.ref a,.str "keys" u]) Q E ⟨hp,g,d,tk,os⟩:=fun u tk Q E k1 =>
    pF F.slot_list_getattribute (hT _) am_entry_list_getattribute (F.args_list_getattribute_2 _ _) (meets_getattribute_miss_list a xs k sl "keys" _ vM (by decide +kernel)) ⟨hx,hA,fun h' tk' e hx'=>k1 h' tk' e hx'⟩
  repeat (any_goals (first | assumption | exact hT _ | refine go _ _ _ _ (fun h' tk' e hx'=>?_) | wp_step))
  obtain ⟨t',u',he⟩:=hx'.there
  repeat (any_goals (first | assumption | wp_step))
  exact h _ _ hx'.keeps
def yp {prog:aW} {w:bO} {K:Type} [DecidableEq K] (knd:KeyKind prog w K) (h:cE) (p:K×aa) (x:aa):Prop:=
  ∃ (a:ae) (kv:aa) (o:Obj) (n:Nat),x=.ref a/\h.get? a=some o/\o.cls=.type "tuple"/\o.data=.seq #[kv,p.2] n/\knd.is p.1 kv=true
variable {K:Type} [DecidableEq K] {knd:KeyKind prog w K}
theorem B4 {a:ae} {o:Obj} {n:Nat} {k v:aa} {Q:List aa->aj->Prop} (ho:s.heap.get? a=some o) (hc:o.cls=.type "tuple") (hd:o.data=.seq #[k,v] n) (h:Q [k,v] s):aZ (bD prog w) A (sh (.ref a)) Q E s:=by
  unfold sh
  have hT:s.TypeIs (.ref a) "tuple":=⟨o,ho,hc⟩
  refine ai (BL hT ?_)
  rw [if_pos (by decide)]
  refine ai (wpAny_seqItems ho hd (aY ?_))
  exact h
theorem zu {R:HL->aj->Prop} {it l d:ae} {items:Array aa} {result:aa} (hA:A.handled=none) (hl:l≠d) (hi:it≠d) (hil:it≠l):∀ (ps:List (K×aa)) (i:Nat) (kvs:List (K×aa)) (s:aj) (t:Tok) (z:Int),
    s.heap.IsListIter it l i->s.heap.IsList l items->s.heap.DictOf knd d kvs->aX (fun p x=>yp knd s.heap p x/\x≠.ref d/\x≠.ref it) ps (items.toList.drop i)->kvs.length + ps.length<=aJ ->
    (∀ h' tk,h'.DictOf knd d (ps.foldl (fun m p=>vF m p.1 p.2) kvs)->(∀ b o,b≠d->b≠it->s.heap.get? b=some o->h'.get? b=some o)->R (.ok (.ret result)) {s with heap:=h',toks:=tk}) ->
    nA (bD prog w) A (.builtin "dict.update.loop" ⟨[.ref d,.ref it,.int z t,result],[]⟩) R s
  | [],i,kvs,s,t,z,hit,hls,hd,hp,hz,h=>by
    have hnil:items.toList.drop i=[]:=by
      have e:=hp.length
      exact List.length_eq_zero_iff.mp e.symm
    have hx:items[i]?=none:=by
      have e:=List.drop_eq_nil_iff.mp hnil
      simp only [gp] at e
      exact Array.getElem?_eq_none e
    refine pQ xa ?_
    unfold iV.«dict.update.loop»
    dsimp only
    refine ai (Ei hA hit hls hx fun h' eb=>?_)
    dsimp only
    refine ai ?_
    unfold Builtin.Dict.addKeywords
    refine aY ?_
    refine aY (h h' _ (hd.extBut eb hi.symm) fun b o _ hb e=>eb b o hb e)
  | p :: ps,i,kvs,s,t,z,hit,hls,hd,hp,hz,h=>by
    cases e0:items.toList.drop i with
    | nil =>
      rw [e0] at hp
      cases hp
    | cons x r =>
      rw [e0] at hp
      cases hp with
      | cons h1 h2 =>
        obtain ⟨⟨a,kv,o,n,rfl,ho,hc,hdt,hk⟩,nd,ni⟩:=h1
        have hx:items[i]?=some (.ref a):=by
          have e:=congrArg (fun l=>l[0]?) e0
          simpa using e
        have hr:items.toList.drop (i + 1)=r:=by
          have e:=congrArg List.tail e0
          simpa using e
        refine pQ xa ?_
        unfold iV.«dict.update.loop»
        dsimp only
        refine ai (Bv hit hls hx fun h1' hit' sb=>?_)
        dsimp only
        refine ai (eV (ai (wpAny_tryCatch ?_)))
        have nai:a≠it:=fun q=>ni (by rw [q])
        have nad:a≠d:=fun q=>nd (by rw [q])
        refine B4 (s:={s with heap:=h1'}) ((sb.2 a nai).trans ho) hc hdt ?_
        dsimp only
        refine eV (wpAny_dictSet_pairs (s:={s with heap:=h1'}) hk (hd.extBut sb.extBut hi.symm) (fun h2' hd2 sb2=>?_) (by simp only [bj] at hz; omega))
        refine aY ⟨Bi _ (by decide +kernel),?_⟩
        have keep:∀ b ob,b≠d->b≠it->s.heap.get? b=some ob->h2'.get? b=some ob:=fun b ob nb1 nb2 e=>sb2.extBut b ob nb1 (sb.extBut b ob nb2 e)
        refine zu (items:=items) hA hl hi hil ps (i + 1) (vF kvs p.1 p.2) {s with heap:=h2',toks:=s.toks + 1} _ _ ?_ ?_ hd2 ?_ ?_ ?_
        · obtain ⟨oi,ei,ci,di⟩:=hit'
          exact ⟨oi,sb2.extBut it oi hi ei,ci,di⟩
        · obtain ⟨ol,el,cl⟩:=hls
          exact ⟨ol,keep l ol hl hil.symm el,cl⟩
        · rw [hr]
          clear e0 hr h hz hd hit hit' hls
          induction h2 with
          | nil=>exact .nil
          | cons q1 q2 ih =>
            refine .cons ?_ ih
            obtain ⟨⟨a',kv',o',n',rfl,ho',hc',hdt',hk'⟩,nd',ni'⟩:=q1
            exact ⟨⟨a',kv',o',n',rfl,keep a' o' (fun q=>nd' (by rw [q])) (fun q=>ni' (by rw [q])) ho',hc',hdt',hk'⟩,nd',ni'⟩
        · have hs:(vF kvs p.1 p.2).length<=kvs.length + 1:=by
            unfold vF
            split
            · rw [ah]
              omega
            · simp
          simp only [bj] at hz
          omega
        · intro h' tk hd' k'
          exact h h' tk hd' fun b ob nb1 nb2 e=>k' b ob nb1 nb2 (keep b ob nb1 nb2 e)
theorem EV {l:ae} {items:Array aa} {k:Nat} {sl:Array (Option aa)} {ps:List (K×aa)} {Q:aa->aj->Prop} (hA:A.handled=none) (hx:s.heap.get? l=some {cls:=.type "list",dict:=none,data:=.seq items k,slots:=sl})
    (hp:aX (yp knd s.heap) ps items.toList) (hz:ps.length<=aJ)
    (h:∀ h' tk,h'.DictOf knd s.heap.objs.size (ps.foldl (fun m p=>vF m p.1 p.2) [])->(∀ b o,s.heap.get? b=some o->h'.get? b=some o)->Q (.ref s.heap.objs.size) {s with heap:=h',toks:=tk}) :
    aZ (bD prog w) A (vx (.type "dict") [.ref l]) Q E s:=by
  refine callType_codes (Q₁:=fun obj s1=>obj=.ref s.heap.objs.size/\s1={s with heap:=s.heap.push {cls:=.type "dict",data:=.dict #[]}}) F.kt_called_dict (F.kt_typeCall_dict_1 _) F.entry_dict_init (kt_code_dict_new _ ⟨rfl,rfl⟩) ?_
  rintro obj s1 ⟨rfl,rfl⟩
  have hnew:(s.heap.push {cls:=.type "dict",data:=.dict #[]}).DictOf knd s.heap.objs.size []:=xO s.heap
  have up:∀ b o,s.heap.get? b=some o->(s.heap.push {cls:=.type "dict",data:=.dict #[]}).get? b=some o:=fun b o e=>aQ _ e
  have hlt:=aT hx
  refine ⟨hnew.typeIs,F.args_dict_init_2 _ _,?_⟩
  unfold iV.«dict.__init__»
  refine ai ?_
  unfold Builtin.Dict.selfAndRest
  refine ai (wpAny_notOrdered_dict hnew.typeIs ?_)
  show aZ _ _ (pure (s.heap.objs.size,[Value.ref l])) _ _ _
  refine aY ?_
  show aZ _ _ (rQ "dict.__init__" s.heap.objs.size (.ref l) [] .none) _ _ _
  unfold rQ
  have hT:({s with heap:=s.heap.push {cls:=.type "dict",data:=.dict #[]}}:aj).TypeIs (.ref l) "list":=⟨_,up _ _ hx,rfl⟩
  refine ai (BL hT ?_)
  rw [if_pos (by decide)]
  refine ai (EU (s:={s with heap:=s.heap.push {cls:=.type "dict",data:=.dict #[]}}) (up _ _ hx) hA fun h1 tk1 k1=>?_)
  rw [if_pos (by rfl)]
  refine ai (yq (ai ?_))
  have hl1:h1.IsList l items:=⟨_,k1 _ _ (up _ _ hx),rfl,k,rfl⟩
  refine JH (s:={s with heap:=h1,toks:=tk1}) hl1 ?_
  have sz1:s.heap.objs.size < h1.objs.size:=by
    obtain ⟨o,_,_,e,_⟩:=hnew
    exact aT (k1 _ _ e)
  have up2:∀ b o,s.heap.get? b=some o->(h1.push {cls:=.type "list_iterator",data:=.fields #[.ref l,.int 0 0]}).get? b=some o:=fun b o e=>aQ _ (k1 _ _ (up _ _ e))
  refine aY ⟨Bi _ (by decide +kernel),?_⟩
  refine zu (A:=A.in1) (knd:=knd) (items:=items) hA (l:=l) (aU hlt) (nI sz1) (nI (om hlt sz1)) ps 0 [] _ _ _ ?_ ?_ ?_ ?_ ?_ ?_
  · exact ⟨_,cB _ rfl,rfl,rfl⟩
  · exact hl1.push _
  · obtain ⟨o,es,ep,e,r⟩:=hnew
    exact ⟨o,es,ep,aQ _ (k1 _ _ e),r⟩
  · rw [uM]
    clear h hz
    generalize items.toList=xs at hp
    induction hp with
    | nil=>exact .nil
    | cons q1 q2 ih =>
      refine .cons ?_ ih
      obtain ⟨a,kv,o,n,rfl,ho,hc,hd,hk⟩:=q1
      have la:=aT ho
      refine ⟨⟨a,kv,o,n,rfl,up2 _ _ ho,hc,hd,hk⟩,fun q=>?_,fun q=>?_⟩
      · injection q with q
        exact aU la q
      · injection q with q
        exact aU (om la sz1) q
  · simpa using hz
  · intro h' tk hd k'
    refine ⟨rfl,h h' tk hd fun b o e=>k' b o ?_ ?_ (up2 b o e)⟩
    · exact aU (aT e)
    · exact aU (om (aT e) sz1)
end
end PySem
namespace L2
open PySem PySem.Spec PyProof.Rows
section
variable {X:Cx}
theorem uN {n:Nat} (h:n < 2 ^ 64):n.log2 < 9000:=by
  by_cases z:n=0
  · subst z
    decide
  · exact om ((Nat.log2_lt z).mpr h) (by decide)
def GG (_ j:Int):Prop:=0 < j/\j < 2 ^ 64
theorem tw:OpR X (ij .FloorDiv) (rI GG fun i j=>.int (i / j)):=opI fun i j _ _ _ _ _ hc q=>by
  have h1:(0:Int) < j:=hc.1
  have h2:j < 2 ^ 64:=hc.2
  have h3:j.natAbs < 2 ^ 64:=by omega
  exact Bz (by omega) (by rw [vy i (by omega)]; exact q) (.inl (uh (uN h3)))
def CDivM (_ j:Int):Prop:=j≠0/\j.natAbs < 2 ^ 64
theorem B5:OpR X (ij .FloorDiv) (rI CDivM fun i j=>.int (i.fdiv j)):=opI fun _ _ _ _ _ _ _ hc q=>Bz hc.1 q (.inl (uh (uN hc.2)))
theorem EW:OpR X (ij .Mult) (rI IntMulOk fun i j=>.int (i * j)):=opI fun _ _ _ _ _ _ _ hc q=>mul_int q hc
theorem lE:mY X (.builtin "isinstance") (fun xs H Q=>∃ x n t b,xs=[x,.ty n]/\qL X.K H x t/\gx X.K t (.type n)=some b/\Q (.bl b) H):=by
  intro pins s σ H xs us Q I r h
  obtain ⟨x,n,t,b,rfl,ty,e,q⟩:=h
  obtain ⟨u,w',rfl,rx,rt⟩:=vals2 r
  cases (show w'=Value.type n from rt)
  exact Av I rx ty e fun tk=>⟨.bl b,H,I.tok _,rfl,q⟩
def sj (H:Hp):List (Key×V)->List V->Prop:=aX fun (p:Key×V) x=>∃ a,x=V.ref a/\H a=some (.tup [kV p.1,p.2])
theorem B6 {P:aW} {w:bO} {H:Hp} {h:cE} (ok:HOk P w H h):∀ {ps:List (Key×V)} {vs:List V} {us:List aa},sj H ps vs->df vs us->∃ qs:List (Key×aa),KV ps qs/\aX (yp (fX P w) h) qs us:=by
  intro ps vs us r
  unfold sj at r
  induction r generalizing us with
  | nil =>
    intro v
    cases v
    exact ⟨[],.nil,.nil⟩
  | @cons p x ps vs q1 q2 ih =>
    intro v
    cases v with
    | cons r1 r2 =>
      obtain ⟨a,rfl,ha⟩:=q1
      obtain ⟨qs,k1,k2⟩:=ih r2
      cases r1
      obtain ⟨_,its,rv,o,ho,hc,n,hd⟩:=(show eM P w H h a (.tup [kV p.1,p.2]) from ok a _ ha)
      obtain ⟨ku,vu,rfl,rk,rw'⟩:=vals2 rv
      exact ⟨(p.1,vu) :: qs,.cons ⟨rfl,rw'⟩ k1,.cons ⟨a,ku,o,n,rfl,ho,hc,hd,wU rk⟩ k2⟩
theorem EX {ps:List (Key×V)} {qs:List (Key×aa)} (r:KV ps qs):∀ {m:List (Key×V)} {n:List (Key×aa)},KV m n->KV (ps.foldl (fun m p=>jD m p.1 p.2) m) (qs.foldl (fun m p=>vF m p.1 p.2) n):=by
  unfold KV at r
  induction r with
  | nil =>
    intro m n k
    exact k
  | @cons p q ps qs h t ih =>
    intro m n k
    obtain ⟨h1,h2⟩:=h
    rw [t5,t5,<- h1]
    exact ih (k.put p.1 h2)
theorem xb (ps:List (Key×V)):∀ m:List (Key×V),(ps.foldl (fun m p=>jD m p.1 p.2) m).length<=m.length + ps.length:=by
  induction ps with
  | nil =>
    intro m
    exact aL _
  | cons p ps ih =>
    intro m
    rw [t5,bj]
    have h1:=ih (jD m p.1 p.2)
    have h2:=oj m p.1 p.2
    omega
theorem yt (hc:X.calm=true):mY X (.type "dict") (fun xs H Q=>∃ p vs ps,xs=[V.ref p]/\H p=some (.lst vs)/\sj H ps vs/\ps.length<=aJ/\∀ d,H d=none->Q (.ref d) (upd H d (.dK (ps.foldl (fun m p=>jD m p.1 p.2) [])))):=by
  intro pins s σ H xs us Q I r h
  obtain ⟨p,vs,ps,rfl,hp,pi,hz,q⟩:=h
  obtain ⟨u,rfl,ru⟩:=vals1 r
  cases ru
  obtain ⟨_,its,n,rv,ho⟩:=(show eM X.prog X.w H s.heap p (.lst vs) from I.hok p _ hp)
  obtain ⟨qs,k1,k2⟩:=B6 I.hok pi rv
  refine EV (knd:=fX X.prog X.w) (I.ok.hd hc) ho k2 (by rw [<- k1.length]; exact hz) fun h' tk hd kk=>?_
  have hf:=EX k1 (m:=[]) (n:=[]) .nil
  have hl:=xb ps []
  refine ⟨.ref s.heap.objs.size,_,I.laid (a:=s.heap.objs.size) (o:=.dK (ps.foldl (fun m p=>jD m p.1 p.2) [])) (t':=tk) kk (aL _) ?_,rfl,q _ (I.hok.fresh (aL _))⟩
  exact ym (by simp only [cP] at hl; omega) (beq_eq_false_iff_ne.mpr (fY (aU I.big))) hf hd
end
end L2
namespace Att
open PySem PySem.W PySem.Calls PyProof.Rows
theorem weight_mem:∀ (xs:List WData) (x:WData),x∈xs->kI x<=tD xs
  | [],_,h=>by cases h
  | y :: r,x,h=>by
    unfold tD
    rcases ax.mp h with e | e
    · subst e
      omega
    · have:=weight_mem r x e
      omega
theorem bits_of_lay {ns:List Int} (h:WData.layableAll [WData.list (ns.map WData.int)]=true):∀ n∈ns,eY n<=1048576:=fun n hn=>by
  have h1:(WData.list (ns.map WData.int)).layable=true:=(layW_cons h).1
  unfold WData.layable at h1
  have h2:kI (WData.list (ns.map WData.int))<=2 ^ 20:=of_decide_eq_true (pk.mp h1).2
  have h3:=weight_mem (ns.map WData.int) (WData.int n) (cN.mpr ⟨n,hn,rfl⟩)
  have h4:kI (WData.list (ns.map WData.int))=tD (ns.map WData.int):=by
    rw [kI]
  have h5:kI (WData.int n)=eY n:=by
    rw [kI]
    rfl
  have e:(2:Nat) ^ 20=1048576:=by decide
  omega
theorem attach_callB {l:OpenLaw} {n:Nat} {q:aW} {loose:List Str} {XP:(Str->Option aa)->cE->Prop} {YP:bO->cE->Prop} {d:DefRec}
    (hn:l.most=some n) (hdf:d.params.defaults=[])
    (vx:∀ (w:bO) (s₀ s₁:aj) (mg mb:Str->Option aa) (fa:ae) (a:ae) (vs:List aa) (ns:List Int),
      Ground q loose [] XP w s₀ mg mb s₁.heap->YP w s₁.heap->mg d.name=some (.ref fa) ->
      s₁.heap.get? a=some {cls:=.type "list",data:=.seq vs.toArray}->fi vs ns->ns.length<=n->(∀ x∈ns,eY x<=1048576)->s₁.gens=#[] ->
      nA (bD l.prog w) ug (.call (.ref fa) ⟨[.ref a],[]⟩) (fun r s'=>r=.ok (.ret (.bool true))/\OldK s₁.heap s'.heap/\s'.os=s₁.os/\nr s'.gens) s₁) :
    WalkO q loose XP YP l.row.toRowW d [] (fun f vs=>AB f vs):=by
  intro w s₀ s₁ mg mb G Y fa o pm cd doc dV kV ho hd hcd hD hmg hg args vals as hpre hlay hrd hwl hlo
  obtain rfl:dV=.none:=Dflts.none hD hdf
  obtain rfl:kV=.none:=Dflts.noKw hD
  obtain ⟨a,vs,ns,rfl,rfl,hobj,hints,hlen⟩:=script_of hn hpre hwl
  refine enter_call (lW (vx w s₀ s₁ mg mb fa a vs ns G Y hmg hobj hints hlen (bits_of_lay hlay) hg) fun r s' hq=>?_)
  obtain ⟨rfl,h2,h3,h4⟩:=hq
  exact ⟨.inl ⟨.bool true,.bool true,[],rfl,fun _=>rfl,.bool true,post_true l _,fun _=>⟨List.Pairwise.nil,fun _ hm=>(nomatch hm)⟩⟩,h2,h3,h4⟩
end Att
namespace L2
open PySem PySem.Spec PyProof.Rows
theorem walk_ofB {l:rR} {n k:Nat} {q:aW} {loose:List Str} {XP:(Str->Option aa)->cE->Prop} {YP:bO->cE->Prop} {d:DefRec} {K:Params->ag} {CX:bO->CXT} {sp:bO->Sp} {x:Str}
    (hn:l.most=some n) (hn2:n<=aJ) (hdf:d.params.defaults=[]) (hr:eA k ug)
    (hY:∀ (w:bO) (h:cE),YP w h->(K w.params).In h)
    (F:∀ (w:bO) (mg:Str->Option aa) (fa:ae) (h:cE),(K w.params).In h->h.Ns aN mg->mg d.name=some (.ref fa) ->
      ∃ fd:cu,(∀ (s:aj) (u:aa),t9 s fd ⟨[u],[]⟩ [(x,u)]) /\
        ∀ base:cE,(K w.params).In base->base.Ns aN mg->bX l.prog w (K w.params) mg base (CX w) k fa fd [x] (sp w))
    (hsp:∀ (w:bO) (H:Hp) (a:ae) (ns:List Int),ns.length<=n->(∀ x∈ns,eY x<=1048576)->SqL (K w.params) H a (ns.map V.int)->sp w [.ref a] H (fun v _=>v=.bl true) fun _ _ _=>False)
    (hCX:∀ (w:bO) (H:Hp) (s:aj) (e:aa) (s':aj),CX w [] H s (fun _ _ _=>False) e s'->False) :
    Ek q loose XP YP l.row.toRowW d [] (fun f vs=>AB f vs):=by
  refine Att.attach_callB hn hdf fun w s₀ s₁ mg mb fa a vs ns G Y hmg hobj hints hlen hbits hg=>?_
  have KX:=hY w _ Y
  obtain ⟨fd,hb,hF⟩:=F w mg fa _ KX G.T.g hmg
  exact BY KX G.T.g G.T.b G.T.builtins G.T.nolimit hg hobj hints (cT hlen hn2) hr hF hb (fun H hO hS=>hsp w H a ns hlen hbits hS) fun H e s'=>hCX w H s₁ e s'
end L2
namespace PySem
open SeqAt MeetsSeq MeetsSeq2 MeetsSeq3 SeqRoads2
open AutoSeq1 (wpAny_loadPart')
def lQ (prog:aW) (w:bO) (A:bZ) (s:aj) (y x:aa):Prop:=
  ∀ (E:aa->aj->Prop) (Q:Bool->aj->Prop),Q true s->aZ (bD prog w) A (eqBool y x) Q E s
def RcIn (prog:aW) (w:bO) (A:bZ) (s:aj) (y x:aa):Prop:=
  ∀ (E:aa->aj->Prop) (Q:aa->aj->Prop),Q (.bool true) s->aZ (bD prog w) A (qO .Eq y x) Q E s
section
variable {prog:aW} {w:bO} {A:bZ} {s:aj}
theorem lQ.of_at {y x:aa} (h:EqAt A s y x true):lQ prog w A s y x:=fun E Q q=>h prog w E Q q
theorem lQ.self (v:aa):lQ prog w A s v v:=lQ.of_at (EqAt.same v)
theorem lQ.refs {l b:ae} (h:RcIn prog w A s (.ref l) (.ref b)):lQ prog w A s (.ref l) (.ref b):=by
  by_cases e:l=b
  · rw [e]
    exact lQ.self _
  · intro E Q q
    unfold eqBool
    refine eV (wpAny_ite_split (fun z=>?_) (fun _=>?_))
    · exact absurd (by have z':=eq_of_beq z; injection z') e
    · exact ai (h E _ (iU q))
theorem EY (l b:ae) (xs ys:Array aa) (n m:Nat) (dd de:Option ae) (sl sm:Array (Option aa)) (hsz:xs.size=ys.size):∀ k i:Nat,xs.size - i=k ->
    MeetsIn prog w (iV.«list.__eq__.loop» ⟨[.ref l,.ref b,qH i,qH 2],[]⟩) (fun A R s =>
      s.heap.get? l=some {cls:=.type "list",dict:=dd,data:=.seq xs n,slots:=sl}/\s.heap.get? b=some {cls:=.type "list",dict:=de,data:=.seq ys m,slots:=sm} /\
      (∀ j (h1:j < xs.size) (h2:j < ys.size),lQ prog w A.in1 s xs[j] ys[j])/\R (.ok (.ret (.bool true))) s):=by
  intro k
  induction k with
  | zero =>
    intro i hk A R s q
    obtain ⟨hp,g,d,tk,os⟩:=s
    obtain ⟨q1,q2,q3,q4⟩:=q
    have a1:xs[((i:Nat):Int).toNat]?=none:=by simp; omega
    have a2:ys[((i:Nat):Int).toNat]?=none:=by simp; omega
    wp_walk using dQ q1,dQ q2
    rw [a1,a2]
    wp_walk using dQ q1,dQ q2
    show R (.ok (.ret (.bool (xs.size == ys.size)))) _
    rw [hsz,beq_self_eq_true]
    exact q4
  | succ k ih =>
    intro i hk A R s q
    obtain ⟨hp,g,d,tk,os⟩:=s
    obtain ⟨q1,q2,q3,q4⟩:=q
    have l1:i < xs.size:=by omega
    have l2:i < ys.size:=by omega
    have a1:xs[((i:Nat):Int).toNat]?=some xs[i]:=by simp [l1]
    have a2:ys[((i:Nat):Int).toNat]?=some ys[i]:=by simp [l2]
    have e1:((i:Int) + 1)=((i + 1:Nat):Int):=by push_cast; rfl
    wp_walk using dQ q1,dQ q2
    rw [a1,a2]
    refine ai (q3 i l1 l2 _ _ ?_)
    wp_walk
    rw [e1]
    refine ⟨plainId_quiet plain_eq_loop _,pQ entry_eq_loop ?_⟩
    rw [xP plain_eq_loop _]
    exact ih (i + 1) (by omega) A R _ ⟨q1,q2,q3,q4⟩
theorem EZ (l b:ae) (xs ys:Array aa) (n m:Nat) (dd de:Option ae) (sl sm:Array (Option aa)) (hsz:xs.size=ys.size) :
    MeetsIn prog w (iV.«list.__eq__» ⟨[.ref l,.ref b],[]⟩) (fun A R s =>
      s.heap.get? l=some {cls:=.type "list",dict:=dd,data:=.seq xs n,slots:=sl}/\s.heap.get? b=some {cls:=.type "list",dict:=de,data:=.seq ys m,slots:=sm} /\
      (∀ j (h1:j < xs.size) (h2:j < ys.size),lQ prog w A.in1 s xs[j] ys[j])/\R (.ok (.ret (.bool true))) s):=by
  intro A R s q
  obtain ⟨hp,g,d,tk,os⟩:=s
  obtain ⟨q1,q2,q3,q4⟩:=q
  have f1:=AutoSeq1.sub_list_list
  have f2:¬ (xs.size != ys.size)=true:=by simp [hsz]
  wp_walk using dQ q1,dQ q2
  refine ⟨plainId_quiet plain_eq_loop _,pQ entry_eq_loop ?_⟩
  rw [xP plain_eq_loop _]
  exact EY l b xs ys n m dd de sl sm hsz _ 0 rfl A R _ ⟨q1,q2,q3,q4⟩
theorem RcIn.lists {l b:ae} {xs ys:Array aa} (hl:s.heap.IsList l xs) (hb:s.heap.IsList b ys) (hsz:xs.size=ys.size) (hu:A.units < eB)
    (he:∀ j (h1:j < xs.size) (h2:j < ys.size),lQ prog w A.in1 s xs[j] ys[j]):RcIn prog w A s (.ref l) (.ref b):=fun E Q q=>by
  obtain ⟨⟨c1,dd,t1,sl⟩,o1,rfl,n,rfl⟩:=id hl
  obtain ⟨⟨c2,de,t2,sm⟩,o2,rfl,m,rfl⟩:=id hb
  refine xQ (op:=.Eq) ⟨_,o1,rfl⟩ ⟨_,o2,rfl⟩ F.slot_list_eq (B7 F.slot_list_eq ⟨_,o1,rfl⟩ F.entry_list_eq (F.args_list_eq_2 _ _) (EZ l b xs ys n m dd de sl sm hsz) ⟨o1,o2,he,?_⟩) hu
  exact ⟨fun z=>(nomatch z),q⟩
variable {K:Type} [DecidableEq K] {knd:KeyKind prog w K}
theorem pairs_at {es:List DictEntry} {kvs:List (K×aa)} (h:Pairs knd es kvs):∀ {i:Nat} {e:DictEntry},es[i]?=some e->∃ kv,kvs[i]?=some kv/\knd.is kv.1 e.key=true/\e.val=kv.2:=by
  induction h with
  | nil =>
    intro i e q
    simp at q
  | cons a b _ ih =>
    intro i e q
    cases i with
    | zero =>
      simp at q
      subst q
      exact ⟨_,rfl,a,b⟩
    | succ i =>
      obtain ⟨kv,z⟩:=ih (i:=i) (by simpa using q)
      exact ⟨kv,by simpa using z.1,z.2⟩
theorem B8 {nm:String} {d b:ae} {kvs kws:List (K×aa)} {Q:Bool->aj->Prop} {E:aa->aj->Prop} (hd:(d == fu)=false) (hb:(b == fu)=false) (m1:s.heap.DictOf knd d kvs) (m2:s.heap.DictOf knd b kws)
    (hl:kvs.length=kws.length) (he:∀ kv∈kvs,∃ v',nC kws kv.1=some v'/\lQ prog w A s kv.2 v') (q:Q true s):aZ (bD prog w) A (sy nm d b) Q E s:=by
  obtain ⟨o1,es,ep,h1,x1,t1,k1,p1,n1⟩:=id m1
  obtain ⟨o2,fs,fp,h2,x2,t2,k2,p2,n2⟩:=id m2
  have z1:es.size=kvs.length:=by rw [<- p1.length,gp]
  have z2:fs.size=kws.length:=by rw [<- p2.length,gp]
  unfold sy
  unfold Builtin.Dict.showsAll
  rw [if_neg (by rw [hd]; exact bU),if_neg (by rw [hb]; exact bU)]
  refine ai (aY (ai (aY ?_)))
  refine ai (nF h1 t1 (ai (nF h2 t2 ?_)))
  rw [if_neg (by rw [z1,z2,hl]; simp)]
  refine ai (wpAny_dictEpoch h1 t1 (ai ?_))
  rw [GH]
  simp only [GJ,Nat.sub_zero,B9,Nat.div_one]
  refine o6 _ (fun rest r s'=>s'=s/\r.1=none/\∃ i,rest=List.range' i (es.size - i)/\i<=es.size) _ ?_ ?_ _ _ ⟨rfl,rfl,0,by simp,bK _⟩
  · rintro x rest ⟨r1,r2⟩ s' ⟨rfl,e1,i,hr,hi⟩
    have lt:i < es.size:=by
      rcases iZ i es.size with z | z
      · exact z
      · rw [Nat.sub_eq_zero_of_le z] at hr
        simp at hr
    obtain ⟨rfl,hrest⟩:x=i/\rest=List.range' (i + 1) (es.size - (i + 1)):=by
      rw [show es.size - i=(es.size - (i + 1)) + 1 by omega,List.range'_succ] at hr
      injection hr with a1 a2
      exact ⟨a1,a2⟩
    obtain ⟨kv,y1,y2,y3⟩:=pairs_at p1 (i:=x) (e:=es[x]) (by simp [lt])
    obtain ⟨kk,y4,y5⟩:=k1 es[x] (Array.getElem_mem lt)
    have y6:kk=kv.1:=knd.inj _ _ _ y4 y2
    subst y6
    obtain ⟨v',g1,g2⟩:=he kv (bQ y1)
    obtain ⟨o3,fs',fp',a1,_,a2,a3,hf⟩:=m2.mapOf
    rw [h2] at a1
    cases a1
    rw [t2] at a2
    cases a2
    rw [<- hf kv.1,findBy_of_findIdx?] at g1
    refine ai (nF h1 t1 ?_)
    rw [Array.getElem?_eq_getElem lt]
    dsimp only
    refine ai (eV (ai ?_))
    rw [y5]
    refine wpAny_dictFind_of y2 h2 t2 k2 ?_
    cases hj:fs.findIdx? fun e=>knd.is kv.1 e.key with
    | none =>
      rw [hj] at g1
      cases g1
    | some j =>
      rw [hj] at g1
      dsimp only at g1 |-
      refine ai (nF h2 t2 ?_)
      cases hx:fs[j]? with
      | none =>
        simp [hx] at g1
      | some fe =>
        have g3:fe.val=v':=by simpa [hx] using g1
        dsimp only
        refine eV ?_
        rw [y3,g3]
        refine g2 _ _ ?_
        rw [if_neg (by decide)]
        refine ai (wpAny_dictEpoch h1 t1 ?_)
        rw [if_neg (by simp)]
        exact aY ⟨rfl,rfl,x + 1,hrest,lt⟩
  · rintro ⟨r1,r2⟩ s' ⟨rfl,e1,_⟩
    have e1:r1=none:=e1
    subst e1
    exact aY q
theorem AC (d b:ae) (hd:(d == fu)=false) (hb:(b == fu)=false) :
    MeetsIn prog w (iV.«dict.__eq__» ⟨[.ref d,.ref b],[]⟩) (fun A R s=>∃ kvs kws,s.heap.DictOf knd d kvs/\s.heap.DictOf knd b kws/\kvs.length=kws.length /\
      (∀ kv∈kvs,∃ v',nC kws kv.1=some v'/\lQ prog w A.in1 s kv.2 v')/\R (.ok (.ret (.bool true))) s):=
  .of_wp fun A R s h=>by
    obtain ⟨kvs,kws,m1,m2,hl,he,q⟩:=h
    unfold iV.«dict.__eq__»
    show aZ _ _ (qR "__eq__" ⟨[.ref d,.ref b],[]⟩ >>= _) _ _ s
    refine ai ?_
    unfold qR
    unfold Builtin.Dict.notOrdered
    rw [if_neg (by decide)]
    refine ai (aY ?_)
    show aZ _ _ (pure (Value.ref d,Value.ref b)) _ _ s
    refine aY ?_
    dsimp only
    refine ai (wpAny_isInstance m2.typeIs isSubtype_dict_dict ?_)
    rw [if_neg (by decide)]
    refine ai (aY (ai (aY (ai (B8 hd hb m1 m2 hl he ?_)))))
    exact aY ⟨_,rfl,q⟩
theorem RcIn.dicts {d b:ae} {kvs kws:List (K×aa)} (hd:(d == fu)=false) (hb:(b == fu)=false) (m1:s.heap.DictOf knd d kvs) (m2:s.heap.DictOf knd b kws) (hl:kvs.length=kws.length) (hu:A.units < eB)
    (he:∀ kv∈kvs,∃ v',nC kws kv.1=some v'/\lQ prog w A.in1 s kv.2 v'):RcIn prog w A s (.ref d) (.ref b):=fun E Q q =>
  xQ (op:=.Eq) m1.typeIs m2.typeIs F.slot_dict_eq (B7 F.slot_dict_eq m1.typeIs F.entry_dict_eq (F.args_dict_eq_2 _ _) (AC (knd:=knd) d b hd hb) ⟨kvs,kws,m1,m2,hl,he,⟨fun z=>(nomatch z),q⟩⟩) hu
end
end PySem
namespace L2
open PySem PySem.Spec PyProof.Rows PySem.SeqAt
def sc0:V->Prop
  | .int _=>True
  | .str _=>True
  | .bl _=>True
  | .non=>True
  | _=>False
def TEq (H:Hp):Nat->V->V->Prop
  | 0,x,y=>sc0 x/\x=y
  | n + 1,x,y=>(sc0 x/\x=y)\/(∃ p q xs ys,x=.ref p/\y=.ref q/\H p=some (.lst xs)/\H q=some (.lst ys)/\aX (TEq H n) xs ys) \/
      ∃ p q xs ys,x=.ref p/\y=.ref q/\H p=some (.tup xs)/\H q=some (.tup ys)/\aX (TEq H n) xs ys
def DEq (H:Hp):Nat->V->V->Prop
  | 0,x,y=>∃ n,n<=20/\TEq H n x y
  | n + 1,x,y=>(∃ n,n<=20/\TEq H n x y)\/(∃ p q xs ys,x=.ref p/\y=.ref q/\H p=some (.lst xs)/\H q=some (.lst ys)/\aX (DEq H n) xs ys) \/
      ∃ p q kvs kws,x=.ref p/\y=.ref q/\H p=some (.dK kvs)/\H q=some (.dK kws)/\aX (fun (a b:Key×V)=>a.1=b.1/\DEq H n a.2 b.2) kvs kws
section
variable {P:aW} {w:bO} {H:Hp} {s:aj}
theorem kC {R:V->V->Prop}:∀ {xs ys:List V} {us vs:List aa},aX R xs ys->df xs us->df ys vs->us.length=vs.length/\∀ j (h1:j < us.length) (h2:j < vs.length),∃ x y,R x y/\RelV x us[j]/\RelV y vs[j]
  | _,_,_,_,.nil,.nil,.nil=>⟨rfl,fun j h1=>absurd h1 (kJ _)⟩
  | _,_,_,_,.cons r rs,.cons a as,.cons b bs=>by
    obtain ⟨e,z⟩:=kC rs as bs
    refine ⟨by rw [bj,bj,e],fun j h1 h2=>?_⟩
    cases j with
    | zero=>exact ⟨_,_,r,a,b⟩
    | succ j=>exact z j (oq h1) (oq h2)
theorem zv {A:bZ} {x:V} {u v:aa} (h:sc0 x) (ru:RelV x u) (rv:RelV x v):EqAt A s u v true:=by
  cases x with
  | non=>cases ru; cases rv; exact EqAt.same _
  | bl b=>cases ru; cases rv; exact EqAt.same _
  | int i =>
    obtain ⟨t,rfl⟩:=ru
    obtain ⟨t',rfl⟩:=rv
    have z:=EqAt.int_int (A:=A) (s:=s) i t i t'
    rw [beq_self_eq_true] at z
    exact z
  | str i =>
    obtain ⟨t,rfl⟩:=ru
    obtain ⟨t',rfl⟩:=rv
    have z:=EqAt.str_str (A:=A) (s:=s) i t i t'
    rw [beq_self_eq_true] at z
    exact z
  | byt b=>exact h.elim
  | flt b=>exact h.elim
  | ref a=>exact h.elim
  | ty a=>exact h.elim
theorem ia (ok:HOk P w H s.heap) {p:ae} {xs:List V} (h:H p=some (.lst xs)):∃ us:List aa,df xs us/\s.heap.IsList p us.toArray:=by
  obtain ⟨_,us,n,r,e⟩:=(show eM P w H s.heap p (.lst xs) from ok p _ h)
  exact ⟨us,r,_,e,rfl,n,rfl⟩
theorem gI (ok:HOk P w H s.heap) {p:ae} {xs:List V} (h:H p=some (.tup xs)):∃ us:List aa,df xs us/\s.heap.IsTuple p us.toArray:=by
  obtain ⟨_,us,r,o,e,c,n,d⟩:=(show eM P w H s.heap p (.tup xs) from ok p _ h)
  exact ⟨us,r,o,e,c,n,d⟩
theorem qb (n:Nat):((eS n).all fun _=>true)=true:=by simp
theorem xc (ok:HOk P w H s.heap) {R:V->V->Prop} {A:bZ} {p q:ae} {xs ys:List V} (hu:A.units < eB) (h1:H p=some (.lst xs)) (h2:H q=some (.lst ys)) (r:aX R xs ys)
    (he:∀ x y u v,R x y->RelV x u->RelV y v->EqAt A.in1 s u v true):RcAt A s (.ref p) (.ref q) true:=by
  obtain ⟨us,r1,i1⟩:=ia ok h1
  obtain ⟨vs,r2,i2⟩:=ia ok h2
  obtain ⟨e,z⟩:=kC r r1 r2
  have k:=RcAt.lists (e:=fun _=>true) i1 i2 (by simpa using e) hu (fun j a b=>by
    obtain ⟨x,y,rr,rx,ry⟩:=z j (by simpa using a) (by simpa using b)
    simpa using he _ _ _ _ rr rx ry)
  rw [qb] at k
  exact k
theorem zw (ok:HOk P w H s.heap) {R:V->V->Prop} {A:bZ} {p q:ae} {xs ys:List V} (hu:A.units < eB) (h1:H p=some (.tup xs)) (h2:H q=some (.tup ys)) (r:aX R xs ys)
    (he:∀ x y u v,R x y->RelV x u->RelV y v->EqAt A.in1 s u v true):RcAt A s (.ref p) (.ref q) true:=by
  obtain ⟨us,r1,i1⟩:=gI ok h1
  obtain ⟨vs,r2,i2⟩:=gI ok h2
  obtain ⟨e,z⟩:=kC r r1 r2
  have k:=RcAt.tuples (e:=fun _=>true) i1 i2 hu (fun j a b=>by
    obtain ⟨x,y,rr,rx,ry⟩:=z j (by simpa using a) (by simpa using b)
    simpa using he _ _ _ _ rr rx ry)
  rw [qb,Ib,aD,aD,e,beq_self_eq_true] at k
  exact k
theorem EqAt.of_rc {A:bZ} {l b:ae} (h:RcAt A s (.ref l) (.ref b) true):EqAt A s (.ref l) (.ref b) true:=by
  by_cases e:l=b
  · rw [e]
    exact EqAt.same _
  · exact EqAt.of_refs e h
theorem oy (ok:HOk P w H s.heap):∀ {n:Nat} {A:bZ} {x y:V} {u v:aa},A.units + n < eB->TEq H n x y->RelV x u->RelV y v->EqAt A s u v true
  | 0,A,x,y,u,v,hu,h,ru,rv=>by
    obtain ⟨h1,rfl⟩:=h
    exact zv h1 ru rv
  | n + 1,A,x,y,u,v,hu,h,ru,rv=>by
    have hin:A.in1.units + n < eB:=by
      show A.units + 1 + n < eB
      omega
    rcases h with ⟨h1,rfl⟩ | ⟨p,q,xs,ys,rfl,rfl,h1,h2,r⟩ | ⟨p,q,xs,ys,rfl,rfl,h1,h2,r⟩
    · exact zv h1 ru rv
    · cases ru
      cases rv
      exact EqAt.of_rc (xc ok (by omega) h1 h2 r fun _ _ _ _ z a b=>oy ok hin z a b)
    · cases ru
      cases rv
      exact EqAt.of_rc (zw ok (by omega) h1 h2 r fun _ _ _ _ z a b=>oy ok hin z a b)
theorem tE (ok:HOk P w H s.heap) {R:V->V->Prop} {A:bZ} {p q:ae} {xs ys:List V} (hu:A.units < eB) (h1:H p=some (.lst xs)) (h2:H q=some (.lst ys)) (r:aX R xs ys)
    (he:∀ x y u v,R x y->RelV x u->RelV y v->lQ P w A.in1 s u v):RcIn P w A s (.ref p) (.ref q):=by
  obtain ⟨us,r1,i1⟩:=ia ok h1
  obtain ⟨vs,r2,i2⟩:=ia ok h2
  obtain ⟨e,z⟩:=kC r r1 r2
  exact RcIn.lists i1 i2 (by simpa using e) hu (fun j a b=>by
    obtain ⟨x,y,rr,rx,ry⟩:=z j (by simpa using a) (by simpa using b)
    simpa using he _ _ _ _ rr rx ry)
theorem zx {κ:Type} {R:κ×V->κ×V->Prop}:∀ {kvs kws:List (κ×V)} {us vs:List (κ×aa)},aX R kvs kws->KV kvs us->KV kws vs->us.length=vs.length/\∀ (i:Nat) (q:κ×aa),us[i]?=some q->∃ q' a b,vs[i]?=some q'/\R a b/\a.1=q.1/\b.1=q'.1/\RelV a.2 q.2/\RelV b.2 q'.2
  | _,_,_,_,.nil,.nil,.nil=>⟨rfl,fun i q h=>by simp at h⟩
  | _,_,_,_,.cons r rs,.cons a as,.cons b bs=>by
    obtain ⟨e,z⟩:=zx rs as bs
    refine ⟨by rw [bj,bj,e],fun i q h=>?_⟩
    cases i with
    | zero =>
      simp at h
      subst h
      exact ⟨_,_,_,rfl,r,a.1,b.1,a.2,b.2⟩
    | succ i =>
      obtain ⟨q',x,y,h1,h2⟩:=z i q (by simpa using h)
      exact ⟨q',x,y,by simpa using h1,h2⟩
theorem tF (ok:HOk P w H s.heap) {R:V->V->Prop} {A:bZ} {p q:ae} {kvs kws:List (Key×V)} (hu:A.units < eB) (h1:H p=some (.dK kvs)) (h2:H q=some (.dK kws)) (r:aX (fun (a b:Key×V)=>a.1=b.1/\R a.2 b.2) kvs kws)
    (he:∀ x y u v,R x y->RelV x u->RelV y v->lQ P w A.in1 s u v):RcIn P w A s (.ref p) (.ref q):=by
  obtain ⟨_,n1,us,k1,m1⟩:=(show eM P w H s.heap p (.dK kvs) from ok p _ h1)
  obtain ⟨_,n2,vs,k2,m2⟩:=(show eM P w H s.heap q (.dK kws) from ok q _ h2)
  obtain ⟨e,z⟩:=zx r k1 k2
  refine RcIn.dicts n1 n2 m1 m2 e hu fun kv hkv=>?_
  obtain ⟨i,hi⟩:=cV hkv
  obtain ⟨q',a,b,g1,⟨g2,g3⟩,g4,g5,g6,g7⟩:=z i kv hi
  obtain ⟨_,_,_,_,_,_,_,_,nd⟩:=id m2
  have g8:vs[i]?=some (kv.1,q'.2):=by
    rw [g1,<- g4,g2,g5]
  exact ⟨q'.2,valueAt_of_get nd g8,he _ _ _ _ g3 g6 g7⟩
theorem vN (ok:HOk P w H s.heap):∀ {n:Nat} {A:bZ} {x y:V} {u v:aa},A.units + n + 20 < eB->DEq H n x y->RelV x u->RelV y v->lQ P w A s u v
  | 0,A,x,y,u,v,hu,h,ru,rv=>by
    obtain ⟨m,h0,h1⟩:=h
    exact lQ.of_at (oy ok (by omega) h1 ru rv)
  | n + 1,A,x,y,u,v,hu,h,ru,rv=>by
    have hin:A.in1.units + n + 20 < eB:=by
      show A.units + 1 + n + 20 < eB
      omega
    rcases h with ⟨m,h0,h1⟩ | ⟨p,q,xs,ys,rfl,rfl,h1,h2,r⟩ | ⟨p,q,kvs,kws,rfl,rfl,h1,h2,r⟩
    · exact lQ.of_at (oy ok (by omega) h1 ru rv)
    · cases ru
      cases rv
      exact lQ.refs (tE ok (by omega) h1 h2 r fun _ _ _ _ z a b=>vN ok hin z a b)
    · cases ru
      cases rv
      exact lQ.refs (tF ok (by omega) h1 h2 r fun _ _ _ _ z a b=>vN ok hin z a b)
end
section
variable {X:Cx}
theorem Ic (hu:X.A.units + 50 < eB):OpR X (dI .Eq) (fun x y H Q=>∃ n p q,n<=20/\x=.ref p/\y=.ref q/\DEq H n x y/\Q (.bl true) H):=by
  intro pins s σ H x y v u Q I rx ry h
  obtain ⟨n,p,q,hn,rfl,rfl,d,k⟩:=h
  cases rx
  cases ry
  have fin:EP X pins σ Q (.bool true) s:=⟨.bl true,H,I,rfl,k⟩
  have hu1:X.A.units < eB:=by omega
  have main:RcIn X.prog X.w X.A s (.ref p) (.ref q):=by
    have hin:∀ m,m<=20->X.A.in1.units + m < eB:=fun m hm=>by
      show X.A.units + 1 + m < eB
      omega
    have tq:∀ m,m<=20->TEq H m (.ref p) (.ref q)->RcIn X.prog X.w X.A s (.ref p) (.ref q):=fun m hm t=>by
      cases m with
      | zero=>exact t.1.elim
      | succ m =>
        rcases t with ⟨h1,_⟩ | ⟨p',q',xs,ys,e1,e2,h1,h2,r⟩ | ⟨p',q',xs,ys,e1,e2,h1,h2,r⟩
        · exact h1.elim
        · cases e1
          cases e2
          intro E Q' k'
          exact xc I.hok hu1 h1 h2 r (fun _ _ _ _ z a b=>oy I.hok (hin m (by omega)) z a b) X.prog X.w E Q' k'
        · cases e1
          cases e2
          intro E Q' k'
          exact zw I.hok hu1 h1 h2 r (fun _ _ _ _ z a b=>oy I.hok (hin m (by omega)) z a b) X.prog X.w E Q' k'
    cases n with
    | zero =>
      obtain ⟨m,hm,t⟩:=d
      exact tq m hm t
    | succ n =>
      have hin2:X.A.in1.units + n + 20 < eB:=by
        show X.A.units + 1 + n + 20 < eB
        omega
      rcases d with ⟨m,hm,t⟩ | ⟨p',q',xs,ys,e1,e2,h1,h2,r⟩ | ⟨p',q',kvs,kws,e1,e2,h1,h2,r⟩
      · exact tq m hm t
      · cases e1
        cases e2
        exact tE I.hok hu1 h1 h2 r fun _ _ _ _ z a b=>vN I.hok hin2 z a b
      · cases e1
        cases e2
        exact tF I.hok hu1 h1 h2 r fun _ _ _ _ z a b=>vN I.hok hin2 z a b
  exact main _ _ fin
theorem Ie (hu:X.A.units + 50 < eB):OpR X (dI .NotEq) (fun x y H Q=>∃ n p q,n<=20/\x=.ref p/\y=.ref q/\TEq H n x y/\Q (.bl false) H):=by
  intro pins s σ H x y v u Q I rx ry h
  obtain ⟨n,p,q,hn,rfl,rfl,d,k⟩:=h
  cases rx
  cases ry
  have fin:EP X pins σ Q (.bool false) s:=⟨.bl false,H,I,rfl,k⟩
  have hu1:X.A.units < eB:=by omega
  cases n with
  | zero=>exact d.1.elim
  | succ m =>
    have hin:X.A.in1.units + m < eB:=by
      show X.A.units + 1 + m < eB
      omega
    rcases d with ⟨h1,_⟩ | ⟨p',q',xs,ys,e1,e2,h1,h2,r⟩ | ⟨p',q',xs,ys,e1,e2,h1,h2,r⟩
    · exact h1.elim
    · cases e1
      cases e2
      obtain ⟨us,r1,i1⟩:=ia I.hok h1
      obtain ⟨vs,r2,i2⟩:=ia I.hok h2
      obtain ⟨e,z⟩:=kC r r1 r2
      have k:=RcNeAt.lists (A:=X.A) (e:=fun _=>true) i1 i2 (by simpa using e) hu1 (fun j a b=>by
        obtain ⟨x,y,rr,rx,ry⟩:=z j (by simpa using a) (by simpa using b)
        simpa using oy I.hok hin rr rx ry)
      rw [qb] at k
      exact k X.prog X.w _ _ fin
    · cases e1
      cases e2
      obtain ⟨us,r1,i1⟩:=gI I.hok h1
      obtain ⟨vs,r2,i2⟩:=gI I.hok h2
      obtain ⟨e,z⟩:=kC r r1 r2
      have k:=RcNeAt.tuples (A:=X.A) (e:=fun _=>true) i1 i2 hu1 (fun j a b=>by
        obtain ⟨x,y,rr,rx,ry⟩:=z j (by simpa using a) (by simpa using b)
        simpa using oy I.hok hin rr rx ry)
      rw [qb,Ib,aD,aD,e,beq_self_eq_true] at k
      exact k X.prog X.w _ _ fin
theorem Ig {A:bZ} {k:Nat} (hr:eA k A):A.units + 50 < eB:=by
  have:=hr.un
  omega
end
end L2
namespace L2
open PySem PySem.Spec PyProof.Rows
section
variable {prog:aW} {w:bO} {A:bZ} {E:aa->aj->Prop} {s:aj}
end
section
variable {X:Cx}
end
end L2
namespace L2
open PySem PySem.Spec PyProof.Rows
structure uj (K:ag) (C:ae):Prop where
  ga:ay K (.ref C) "__getattribute__"=some (some (.builtin "BaseException.__getattribute__"))
  gh:ay K (.ref C) "__getattr__"=some none
  cl:ay K (.ref C) "__class__"=some (some (.builtin "object.__class__"))
  cn:pW K (.builtin "object.__class__") "__get__"=some (some (.builtin "getset_descriptor.__get__"))
  ck:rN K (.builtin "object.__class__")=some true
  ob:dX K C (.type "object")=some true
  be:dX K C (.type "BaseException")=some true
theorem yu:Manifest.canonical "BaseException.__getattribute__"="object.__getattribute__":=by decide +kernel
section
variable {prog:aW} {w:bO} {A:bZ} {E:aa->aj->Prop} {s:aj} {K:ag} {x C:ae} {ox:Obj}
theorem Ca {f:ae} {name:Str} {pl:Sem Bool} {Q:aa×List aa->aj->Prop} (X:K.In s.heap) (I:sU s.heap x ox C none) (c:uj K C) (hf:ay K (.ref C) name=some (some (.ref f))) (ht:BE K (.ref f)=some (.type "function"))
    (h:Q (.ref f,[.ref x]) s):aZ (bD prog w) A (mr (.ref x) name pl) Q E s:=by
  unfold mr specialOf
  refine ai (ai (I.type.here ((j4 X c.ga).here ?_)))
  dsimp only
  rw [yu,if_neg (by decide)]
  refine ai (ai (I.type.here ((j4 X c.gh).here ?_)))
  refine ai (ai (I.type.here ((j4 X hf).here (ai ((PySem.W.looks_typeIn X ht).here ?_)))))
  rw [if_neg (by decide +kernel)]
  refine ai (wpAny_loadPart I.at_ ?_)
  have hd:=I.dict
  cases e:ox.dict with
  | none=>exact ai (yq (aY h))
  | some dx=>rw [e] at hd; exact hd.elim
end
def XOk (a C:ae) (h:cE):Prop:=∃ ob,h.get? a=some ob/\ob.cls=.ref C/\ob.dict=none/\Cb ob=true
def XO (a C:ae):HO:=.ext (XOk a C)
theorem XOk.obj {P:aW} {w:bO} {H:Hp} {h:cE} {a C:ae} (x:XOk a C h):eM P w H h a (XO a C):=by
  obtain ⟨ob,e,r⟩:=x
  refine ⟨⟨ob,e,r⟩,⟨ob,e⟩,fun h1 h2 y k=>?_⟩
  obtain ⟨o,e1,r1⟩:=y
  exact ⟨o,k o e1,r1⟩
theorem XOk.inst {h:cE} {a C:ae} (x:XOk a C h):∃ ox,sU h a ox C none:=by
  obtain ⟨ob,e,c,d,n⟩:=x
  exact ⟨ob,e,c,n,by rw [d]; trivial⟩
theorem Ih {P:aW} {w:bO} {H:Hp} {h:cE} {a C:ae} (ok:HOk P w H h) (e:H a=some (XO a C)):XOk a C h:=(ok a _ e).1
section
variable {X:Cx} {pins:List (ae×Obj)} {σ:St} {H:Hp} {s:aj}
end
section
variable {P:aW} {w:bO} {H:Hp} {h h':cE} {a:ae} {o:HO} {fs ex:List ae}
end
section
variable {X:Cx} {pins:List (ae×Obj)} {σ:St} {H:Hp} {s:aj} {C:ae} {x:Str} {p pos:Pos} {e:dv} {es:List dv} {t:TA}
end
section
variable {X:Cx} {CX:CXT} {k:Nat} {f C:ae} {fd:cu} {ps:List Str} {sp:Sp} {E:XK} {m:Str} {pos apos:Pos} {o:dv} {ta:TE}
end
section
variable {X:Cx} {pins:List (ae×Obj)} {σ:St} {H:Hp} {s:aj}
theorem Inv.adopt {B:cE} {ea C:ae} {fl:aa} (I:Inv X pins σ H s) (f:FlD B X.stack ea (.ref C) fl s.heap) (cov:vI X pins H B s.heap):H ea=none/\Inv X pins σ (upd H ea (XO ea C)) s:=by
  obtain ⟨hB,hn,hl,oe,vs,T,oT,ts,he,hc,hdc,hd,_⟩:=f
  have nf:ea∉frs X.stack:=fun z=>by
    obtain ⟨_,o,ho,q⟩:=hl.mem z
    rw [he] at ho
    cases ho
    exact q vs hd
  have nb:∀ o,B.get? ea≠some o:=fun o z=>by rw [hn] at z; cases z
  have hz:H ea=none:=by
    cases z:H ea with
    | none=>rfl
    | some u=>exact absurd (cov ea oe (.inl (by rw [z]; simp)) nf he) (nb oe)
  have ne:∀ {b:ae} {o:HO},H b=some o->b≠ea:=fun {b o} z=>aH z hz
  refine ⟨hz,I.ok,I.os,I.bare,⟨I.base.keep,I.base.slot,fun b o e n hx=>?_,I.base.there,fun b xs e=>?_,fun b o u e=>?_,fun b ps e=>?_⟩,I.loc,I.cell,?_,fun x c e=>?_,fun p hp=>?_,fun b u e=>?_,I.len⟩
  · rw [aV]
    · exact I.base.free b o e n hx
    · rintro rfl
      exact nb oe (cov _ oe (.inr (.inl ⟨hx,o,e⟩)) nf he)
  · have z:=I.base.tups b xs e
    rw [aV (ne z)]
    exact z
  · have z:=I.base.frzs b o u e
    rw [aV (ne z)]
    exact z
  · obtain ⟨more,z⟩:=I.base.tbls b ps e
    exact ⟨more,by rw [aV (ne z)]; exact z⟩
  · rw [aV]
    · exact I.free
    · intro z
      obtain ⟨m,⟨o,es,ep,ho,hdd,_⟩,_⟩:=I.loc
      rw [z,he] at ho
      cases ho
      rw [hd] at hdd
      cases hdd
  · rw [aV]
    · exact I.freeC x c e
    · intro z
      obtain ⟨v,o,ho,hdd⟩:=I.cell x c e
      rw [z,he] at ho
      cases ho
      rw [hd] at hdd
      cases hdd
  · obtain ⟨e1,e2,e3,e4,e5⟩:=I.pin p hp
    refine ⟨e1,?_,e3,e4,e5⟩
    rw [aV]
    · exact e2
    · intro z
      have e6:s.heap.get? ea=some p.2:=by rw [<- z]; exact e1
      rw [he] at e6
      cases e6
      exact nb _ (cov ea _ (.inr (.inr ⟨p,hp,z⟩)) nf he)
  · by_cases hb:b=ea
    · subst hb
      rw [ao] at e
      cases e
      refine XOk.obj ⟨oe,he,hc,hdc,?_⟩
      unfold Cb
      rw [hd]
    · rw [aV hb] at e
      exact (I.hok b u e).stay (fun _ _ _ q=>q) (fun c q=>by rw [aV (ne q)]; exact q) fun c xs q=>by rw [aV (ne q)]; exact q
theorem AD {M:Et} {A:bZ} {E:aa->aj->Prop} {i:Nat} {x:Str} {v:V} {Q:Unit->aj->Prop} (I:Inv X pins σ H s) (hN:X.N.Nodup) (hi:X.N[i]?=some x) (hk:X.env.scope.names.lookup x=some .local) (hv:σ[i]?=some (some v))
    (h:∀ s',Inv X pins (σ.set i none) H s'->Q () s'):aZ M A (unbindName X.env x) Q E s:=by
  obtain ⟨m,hn,hl⟩:=id I.loc
  have hcls:(X.env.scope.kind == .class || (X.env.scope.kind == .module && X.env.locals != X.env.globals))=false:=by rw [I.ok.kind]; rfl
  have hkd:X.env.kindOf x=some .local:=hk
  have hmx:(m x).isSome=true:=by
    obtain ⟨u,_,q⟩:=hl i x v hi hv (.inl hk)
    rcases q with ⟨_,e⟩ | ⟨k,_⟩
    · rw [e]; rfl
    · rw [hkd] at k
      rcases k with k | k <;> cases k
  unfold unbindName
  refine ai (wpAny_point (ai ?_))
  unfold deleteName
  simp only [hkd,hcls]
  rw [if_neg (by decide)]
  refine ai (wpAny_nsDel_keeps hn fun h' v' hn' hs=>?_)
  rw [hmx]
  simp only [Bool.not_true,qA,if_false]
  refine aY (wpAny_point (h _ ?_))
  obtain ⟨oL,_,_,hoL,_⟩:=id hn
  have cne:=I.cne
  have below:∀ b o,X.s₀.heap.get? b=some o->b≠X.env.locals:=fun b o e=>aU (bE (aT e) I.ok.above)
  refine ⟨I.ok,I.os,I.bare,⟨fun b o e n hb hx=>(hs.2 b (below b o e)).trans (I.base.keep b o e n hb hx),fun b o e n hb hx=>?_,I.base.free,fun b o e hx=>?_,I.base.tups,I.base.frzs,I.base.tbls⟩,⟨_,hn',fun j y v2 e1 e2 e3=>?_⟩,fun y c e=>?_,I.free,I.freeC,fun p hp=>?_,fun b ob e=>?_,by simpa using I.len⟩
  · obtain ⟨sl,e1⟩:=I.base.slot b o e n hb hx
    exact ⟨sl,(hs.2 b (below b o e)).trans e1⟩
  · obtain ⟨o',e1⟩:=I.base.there b o e hx
    exact ⟨o',(hs.2 b (below b o e)).trans e1⟩
  · by_cases hj:j=i
    · subst hj
      have hlt:j < σ.length:=(aB.mp hv).1
      rw [fh hlt] at e2
      cases e2
    · rw [iS (fY hj)] at e2
      obtain ⟨u',r',q⟩:=hl j y v2 e1 e2 e3
      refine ⟨u',r',?_⟩
      rcases q with ⟨k,e⟩ | ⟨k,c,e,z⟩
      · refine .inl ⟨k,?_⟩
        have hne:y≠x:=fun e=>hj (sP hN e1 (e ▸ hi))
        simp [hne,e]
      · exact .inr ⟨k,c,e,z.sameBut hs (cne y c e)⟩
  · obtain ⟨w',z⟩:=I.cell y c e
    exact ⟨w',z.sameBut hs (cne y c e)⟩
  · obtain ⟨e,n,ne,nf,d⟩:=I.pin p hp
    exact ⟨(hs.2 p.1 ne).trans e,n,ne,nf,d⟩
  · refine (I.hok b ob e).stay (fun c w' hc q=>(hs.2 c ?_).trans q) (fun _ q=>q) fun _ _ q=>q
    rintro rfl
    rcases hc with rfl | hc
    · rw [I.free] at e; cases e
    · rw [I.free] at hc; cases hc
def GK (i:Nat) (D:kU):kU:={nx:=fun σ H=>D.nx (σ.set i none) H,rt:=D.rt,bk:=fun σ H=>D.bk (σ.set i none) H,ct:=fun σ H=>D.ct (σ.set i none) H}
def thAs (K:ag) (Ci:ae) (i:Nat) (t:TS) (th:TH):TH:=fun C D σ H =>
  (dA K (.ref C) (.ref Ci)=some true/\∀ ea,H ea=none->t (GK i D) (σ.set i (some (.ref ea))) (upd H ea (XO ea C)))\/(dA K (.ref C) (.ref Ci)=some false/\th C D σ H)
theorem sC {M:Et} {A:bZ} {E:aa->aj->Prop} {i:Nat} {x:Str} {pos:Pos} {Q:Unit->aj->Prop} (I:Inv X pins σ H s) (hN:X.N.Nodup) (hi:X.N[i]?=some x) (hk:X.env.scope.names.lookup x=some .local)
    (h:∀ s',Inv X pins (σ.set i none) H s'->Q () s'):aZ M A (do bindName X.env x .none; qS X.env x pos) Q E s:=by
  have hlt:i < σ.length:=by
    rw [I.len]
    exact (aB.mp hi).1
  refine ai (wpAny_bindName (pU (v:=.non) I hN hi (.inl hk) rfl (fun s1 I1=>?_) (.inr hk)))
  unfold qS
  refine wpAny_onRaise (AD (v:=.non) I1 hN hi hk (fh hlt) fun s2 I2=>h s2 ?_)
  rw [List.set_set] at I2
  exact I2
theorem Ii {x n:Str} {Ci:ae} {np pos:Pos} {b₀:dP} {suite:List dP} {rest:List r9} {t:TS} {th:TH} (i:Nat) (hg:Gl X x) (hm:X.mg x=some (.ref Ci)) (hN:X.N.Nodup) (hi:X.N[i]?=some n) (hk:X.env.scope.names.lookup n=some .local)
    (hsu:∀ ea,PSs (X.hdl ea) (b₀ :: suite) t) (hr:PHs X rest th) (hd:(x == ("__debug__":Str))=false:=by decide):PHs X (.ExceptHandler (some (.Name x np)) (some n) (b₀ :: suite) pos :: rest) (thAs X.K Ci i t th):=by
  intro pins s σ H D ea C B I fl cov h
  refine wpAny_handleBy_cons (codeAny_handlers_test ?_) (by intro q; cases q)
  refine pV (X:=X.hdl ea) (I.hdl ea) hg hm ?_ hd
  obtain ⟨ob,hob,hc⟩:=fl.there
  have LT:PySem.W.Looks (bD X.prog X.w) s.heap (typeOf (.ref ea)) (.ref C):=by
    rw [<- hc]
    exact (PySem.W.Looks.ld hob).andThen .now
  rcases h with ⟨hx,q⟩ | ⟨hx,q⟩
  · refine (Bj I.kIn LT hx).here ?_
    refine codeAny_handlers_suite_as (p8 fl fun h6 fl6 sm6=>?_)
    have I6:=I.landed fl6.1 cov sm6
    obtain ⟨hz,J⟩:=I6.adopt fl6 (vI.land I fl6.1 cov)
    refine pU (X:=X.hdl ea) (v:=.ref ea) (J.hdl ea) hN hi (.inl hk) rfl (fun s2 I2=>?_) (.inr hk)
    refine eP (hsu ea pins _ _ _ (GK i D) I2 (q ea hz)) (fun f s3 z=>?_) (fun _ _ z=>cS z)
    show aZ _ X.A (do bindName X.env n .none; qS X.env n pos) (fun _ s₃=>SP X pins D f s₃) X.xe s3
    cases f with
    | next=>obtain ⟨σ',H',I3,q3⟩:=z; exact sC (I3.unhdl I.ok) hN hi hk fun s4 I4=>⟨_,_,I4,q3⟩
    | brk=>obtain ⟨σ',H',I3,q3⟩:=z; exact sC (I3.unhdl I.ok) hN hi hk fun s4 I4=>⟨_,_,I4,q3⟩
    | cont=>obtain ⟨σ',H',I3,q3⟩:=z; exact sC (I3.unhdl I.ok) hN hi hk fun s4 I4=>⟨_,_,I4,q3⟩
    | ret u=>obtain ⟨v,σ',H',I3,r3,q3⟩:=z; exact sC (I3.unhdl I.ok) hN hi hk fun s4 I4=>⟨v,_,_,I4,r3,q3⟩
  · refine (Bj I.kIn LT hx).here ?_
    exact hr pins s σ H D ea C B I fl cov q
end
end L2
namespace PySem
open Sem (wp)
section
variable {prog:aW} {w:bO} {A:bZ} {E:aa->aj->Prop} {s:aj}
end
section
variable {prog:aW} {w:bO} {A:bZ} {R:HL->aj->Prop} {I:ae} {fp wr:List ae} {n:Nat} {P:Nat->aa->Prop} {St:Nat->cE->Prop} {G:cE->Prop}
end
section
variable {prog:aW} {w:bO} {A:bZ} {E:aa->aj->Prop} {s:aj}
end
section
variable {prog:aW} {w:bO} {K:Type} [DecidableEq K] {knd:HeapKind prog w K} {A:bZ} {E:aa->aj->Prop} {s:aj}
end
section
variable {prog:aW} {w:bO} {A:bZ} {E:aa->aj->Prop} {s:aj}
end
end PySem
namespace HT
theorem yv:∀ a:List Int,lexLt a a=false
  | []=>rfl
  | x :: r=>by rw [lexLt_cons,if_pos rfl]; exact yv r
theorem lx_trans:∀ {a b c:List Int},lexLt a b=true->lexLt b c=true->lexLt a c=true
  | [],[],_,h,_=>by cases h
  | [],_ :: _,[],_,h=>by cases h
  | [],_ :: _,_ :: _,_,_=>rfl
  | _ :: _,[],_,h,_=>by cases h
  | _ :: _,_ :: _,[],_,h=>by cases h
  | x :: a,y :: b,z :: c,h,k=>by
    rw [lexLt_cons] at h k |-
    by_cases e:x=y
    · subst e
      rw [if_pos rfl] at h
      by_cases f:x=z
      · subst f
        rw [if_pos rfl] at k |-
        exact lx_trans h k
      · rw [if_neg f] at k |-
        exact k
    · rw [if_neg e] at h
      have h:=of_decide_eq_true h
      by_cases f:y=z
      · subst f
        rw [if_neg e]
        exact decide_eq_true h
      · rw [if_neg f] at k
        have k:=of_decide_eq_true k
        rw [if_neg (by omega)]
        exact decide_eq_true (by omega)
theorem qc:∀ {a b:List Int},lexLt a b=false->lexLt b a=false->a=b
  | [],[],_,_=>rfl
  | [],_ :: _,h,_=>by cases h
  | _ :: _,[],_,h=>by cases h
  | x :: a,y :: b,h,k=>by
    rw [lexLt_cons] at h k
    by_cases e:x=y
    · subst e
      rw [if_pos rfl] at h k
      rw [qc h k]
    · rw [if_neg e] at h
      rw [if_neg (fun z=>e z.symm)] at k
      have h:=of_decide_eq_false h
      have k:=of_decide_eq_false k
      exact absurd (by omega) e
theorem lx_asym {a b:List Int} (h:lexLt a b=true):lexLt b a=false:=by
  cases e:lexLt b a with
  | false=>rfl
  | true =>
    have z:=lx_trans h e
    rw [yv] at z
    cases z
theorem lx_of_not {a b:List Int} (h:lexLt a b=false) (n:a≠b):lexLt b a=true:=by
  cases e:lexLt b a with
  | true=>rfl
  | false=>exact absurd (qc h e) n
open PySem PyProof.Rows
open PySem.SeqAt
open PySem.AutoSeq1 (wpAny_loadPart')
open PySem.MeetsSeq PySem.MeetsSeq2 PySem.MeetsSeq3
theorem E1 (l b:ae) (xs ys:Array aa) (n m:Nat) (dd de:Option ae) (sl sm:Array (Option aa)) (ns ms:List Int) (hi:fi xs.toList ns) (hj:fi ys.toList ms) :
    Meets (iV.«tuple.__gt__» ⟨[.ref l,.ref b],[]⟩)
      (fun _ R s=>s.heap.get? l=some {cls:=.type "tuple",dict:=dd,data:=.seq xs n,slots:=sl}/\s.heap.get? b=some {cls:=.type "tuple",dict:=de,data:=.seq ys m,slots:=sm}/\R (.ok (.ret (.bool (lexLt ms ns)))) s):=
  .of_wp fun prog w A R s h=>by
    obtain ⟨hp,g,d,tk,os⟩:=s
    obtain ⟨hl,hb,h⟩:=h
    have f2:=lD
    have z1:xs.size=ns.length:=by rw [<- hi.length]; simp
    have z2:ys.size=ms.length:=by rw [<- hj.length]; simp
    wp_walk using dQ hl,dQ hb,o6 _ (fun rest b s'=>b.1=none/\s'=⟨hp,g,d,tk,os⟩/\∃ (vs ws:List aa) (ns' ms':List Int),rest=vs.zip ws /\
      fi vs ns'/\fi ws ms'/\ns'.length + ys.size=ms'.length + xs.size/\R (.ok (.ret (.bool (lexLt ms' ns')))) ⟨hp,g,d,tk,os⟩) _
    case turn =>
      rintro ⟨y,x⟩ rest b s' ⟨hb',rfl,vs,ws,ns',ms',hz,hv,hw,hlen,hR⟩
      cases hv with
      | nil=>rw [BJ] at hz; cases hz
      | cons a t hv =>
        cases hw with
        | nil=>rw [Bc] at hz; cases hz
        | cons c u hw =>
          rw [gC] at hz
          injection hz with hyx hrest
          injection hyx with hy hx
          subst hy hx
          rw [lexLt_cons] at hR
          simp only [bj] at hlen
          obtain ⟨e,he,hiff⟩:=wR A.in1 ⟨hp,g,d,tk,os⟩ a t c u
          refine ai (he prog w _ _ ?_)
          cases e with
          | true =>
            rw [if_pos (hiff.mp rfl).symm] at hR
            wp_walk
            exact ⟨rfl,rfl,_,_,_,_,hrest,hv,hw,by omega,hR⟩
          | false =>
            rw [if_neg (fun q=>absurd (hiff.mpr q.symm) bU)] at hR
            have hri:∀ (E:aa->aj->Prop) (Q:aa->aj->Prop),Q (.bool (decide (a > c))) ⟨hp,g,d,tk,os⟩->aZ (bD prog w) A.in1 (qO .Gt (.int a t) (.int c u)) Q E ⟨hp,g,d,tk,os⟩:=fun E Q q =>
              (PyProof.Rows.gt_int q:aZ (bD prog w) A.in1 (dI .Gt (.int a t) (.int c u)) Q E _)
            wp_walk using hri
            exact ⟨_,rfl,by simpa using hR⟩
    case fin =>
      rintro ⟨b1,b2⟩ s' ⟨hb',rfl,vs,ws,ns',ms',hz,hvi,hwi,hlen,hR⟩
      simp only at hb'
      subst hb'
      have hv:lexLt ms' ns'=decide (ys.size < xs.size):=by
        cases hvi with
        | nil =>
          cases hwi with
          | nil =>
            simp only [cP] at hlen
            rw [pj]
            exact (decide_eq_false (by omega)).symm
          | cons c u hw =>
            simp only [cP,bj] at hlen
            rw [nZ]
            exact (decide_eq_false (by omega)).symm
        | cons a t hv =>
          cases hwi with
          | nil =>
            simp only [cP,bj] at hlen
            rw [nY]
            exact (decide_eq_true (by omega)).symm
          | cons c u hw =>
            rw [gC] at hz
            cases hz
      rw [hv] at hR
      wp_walk
      exact ⟨_,rfl,by simpa [oM] using hR⟩
    case h =>
      exact ⟨rfl,rfl,xs.toList,ys.toList,ns,ms,rfl,hi,hj,by omega,h⟩
theorem gt_tup {prog:aW} {w:bO} {A:bZ} {E:aa->aj->Prop} {s:aj} {l b:ae} {xs ys:Array aa} {ns ms:List Int} {Q:aa->aj->Prop} (hl:qD s.heap l xs) (hb:qD s.heap b ys) (hi:fi xs.toList ns) (hj:fi ys.toList ms)
    (hu:A.units < eB) (h:Q (.bool (lexLt ms ns)) s):aZ (bD prog w) A (dI .Gt (.ref l) (.ref b)) Q E s:=by
  obtain ⟨⟨c1,dd,t1,sl⟩,o1,rfl,n,rfl⟩:=id hl
  obtain ⟨⟨c2,de,t2,sm⟩,o2,rfl,m,rfl⟩:=id hb
  exact pD (op:=.Gt) ⟨_,o1,rfl⟩ ⟨_,o2,rfl⟩ wD vO (uO _ _) (E1 l b xs ys n m dd de sl sm ns ms hi hj)
    ⟨o1,o2,show Value.bool (lexLt ms ns)≠Value.notImplemented/\Q (.bool (lexLt ms ns)) s from ⟨(fun x=>nomatch x),h⟩⟩ hu
end HT
namespace L2
open PySem PySem.Spec PyProof.Rows
theorem rB:∀ {ns ms:List Int},ns.map V.int=ms.map V.int->ns=ms
  | [],[],_=>rfl
  | [],_ :: _,h=>by cases h
  | _ :: _,[],h=>by cases h
  | x :: a,y :: b,h=>by
    injection h with h1 h2
    injection h1 with h1
    rw [h1,rB h2]
section
variable {X:Cx}
theorem uP {P:aW} {w:bO} {H:Hp} {s:aj} (ok:HOk P w H s.heap) {A:bZ} {a b:ae} {ns ms:List Int} (hu:A.units < eB) (ha:H a=some (.tup (ns.map V.int))) (hb:H b=some (.tup (ms.map V.int))) :
    SeqAt.EqAt A s (.ref a) (.ref b) (decide (ns=ms)):=by
  by_cases e:a=b
  · subst e
    rw [ha] at hb
    injection hb with hb
    injection hb with hb
    rw [rB hb,decide_eq_true rfl]
    exact SeqAt.EqAt.same _
  · obtain ⟨us,r1,i1⟩:=gI ok ha
    obtain ⟨vs,r2,i2⟩:=gI ok hb
    have k1:fi us ns:=intsAre_of r1
    have k2:fi vs ms:=intsAre_of r2
    have at_:∀ {us:List aa} {ns:List Int},fi us ns->∀ (j:Nat) (h:j < us.length),∃ (z:Int) (t:Tok),us[j]=.int z t/\ns[j]?=some z:=by
      intro us ns k
      induction k with
      | nil=>intro j h; exact absurd h (kJ _)
      | cons z t _ ih =>
        intro j h
        cases j with
        | zero=>exact ⟨z,t,rfl,rfl⟩
        | succ j=>exact ih j (oq h)
    have rc:=SeqAt.RcAt.tuples (A:=A) (e:=fun j=>decide (ns[j]?=ms[j]?)) i1 i2 hu fun j h1 h2=>by
      obtain ⟨x,t,e1,e2⟩:=at_ k1 j (by simpa using h1)
      obtain ⟨y,t',e3,e4⟩:=at_ k2 j (by simpa using h2)
      rw [e2,e4]
      have z:=wA (A:=A.in1) (s:=s) x t y t'
      have q:(x == y)=decide (some x=some y):=by
        by_cases e:x=y
        · subst e; simp
        · have e':¬ some x=some y:=fun q=>e (dR q)
          rw [decide_eq_false e',beq_eq_false_iff_ne.mpr e]
      rw [q] at z
      simpa [e1,e3] using z
    have fin:((eS (min us.toArray.size vs.toArray.size)).all (fun j=>decide (ns[j]?=ms[j]?)) && us.toArray.size == vs.toArray.size)=decide (ns=ms):=by
      have l1:us.toArray.size=ns.length:=by rw [aD]; exact k1.length
      have l2:vs.toArray.size=ms.length:=by rw [aD]; exact k2.length
      rw [l1,l2]
      by_cases c:ns=ms
      · subst c
        simp
      · rw [decide_eq_false c,Bool.and_eq_false_iff]
        by_cases l:ns.length=ms.length
        · left
          rw [List.all_eq_false]
          refine sD fun no=>c (Cc fun j=>?_)
          by_cases hj:j < ns.length
          · refine sD fun ne=>no ⟨j,pe.mpr (by omega),?_⟩
            rw [decide_eq_false ne]
            simp
          · rw [gF (by omega),gF (by omega)]
        · right
          exact beq_eq_false_iff_ne.mpr l
    rw [fin] at rc
    exact SeqAt.EqAt.of_refs e rc
open Classical in
def E2:V->List V->Hp->VK->Prop:=fun x vs H Q=>∃ l xs i y,x=.ref l/\vs=[.int (i:Nat),y]/\H l=some (.lst xs)/\i<=xs.length/\xs.length < aJ/\Q .non (upd H l (.lst (xs.take i++y :: xs.drop i)))
theorem AE:MtM X "list.insert" E2:=by
  intro pins s σ H x vs v us Q I rx rv h
  obtain ⟨l,xs,i,y,rfl,rfl,hH,hi,hz,q⟩:=h
  cases rx
  obtain ⟨u,w',rfl,ru,rw'⟩:=rv.two
  obtain ⟨t,rfl⟩:=ru
  obtain ⟨z,its,n,r,hl,e⟩:=I.lstM hH
  have hz1:its.toArray.size<=aJ:=by rw [aD]; omega
  generalize hx:((i:Nat):Int)=x
  have fit:qB x=true:=by
    have s63:aJ=16777216:=ny
    exact fitsIndex_both (by omega) (by omega)
  have nfit:¬ (!qB x)=true:=by rw [fit]; exact bU
  refine pF F.slot_list_insert ⟨_,e,rfl⟩ F.entry_list_insert (F.args_list_insert_3 _ _ _) (JN l its.toArray n x t w' nfit hz1) ⟨e,?_⟩
  refine ⟨.non,_,I.lset (its':=its.take i++w' :: its.drop i) hH e ?_ ((r.take i).append (.cons rw' (r.drop i))) ?_,rfl,q⟩
  · have k:(if x < 0 then (x + (its.toArray.size:Int)).toNat else min x.toNat its.toArray.size)=i:=by
      rw [if_neg (by omega),aD]
      omega
    show (its.toArray.extract 0 (if x < 0 then (x + (its.toArray.size:Int)).toNat else min x.toNat its.toArray.size)).push w'++its.toArray.extract (if x < 0 then (x + (its.toArray.size:Int)).toNat else min x.toNat its.toArray.size)=_
    rw [k]
    apply Array.toList_inj.mp
    simp [List.extract_eq_take_drop]
    exact nG (by rw [kd]; exact aL _)
  · rw [aI,bj,cW,kd]
    omega
theorem zy {z:V} (h:sc0 z):scal z z=true:=by
  cases z with
  | non=>rfl
  | bl b=>rfl
  | int i=>rfl
  | str x=>rfl
  | byt b=>exact cS h
  | flt b=>exact cS h
  | ref a=>exact cS h
  | ty a=>exact cS h
theorem Cd (hu:X.A.units + 50 < eB):OpR X (dI .Eq) (fun x y H Q=>∃ n,n<=20/\TEq H n x y/\Q (.bl true) H):=by
  intro pins s σ H x y v u Q I rx ry h
  obtain ⟨n,hn,d,q⟩:=h
  have sc:∀ z,sc0 z->x=z->y=z->aZ (bD X.prog X.w) X.A (dI .Eq v u) (EP X pins σ Q) X.xe s:=by
    rintro z hz rfl rfl
    refine eO pins s σ H _ _ v u Q I rx ry ⟨zy hz,?_⟩
    rw [decide_eq_true rfl]
    exact q
  have rf:∀ p q',x=.ref p->y=.ref q'->aZ (bD X.prog X.w) X.A (dI .Eq v u) (EP X pins σ Q) X.xe s:=fun p q' e1 e2 =>
    Ic hu pins s σ H x y v u Q I rx ry ⟨0,p,q',by omega,e1,e2,⟨n,hn,d⟩,q⟩
  cases n with
  | zero=>exact sc x d.1 rfl d.2.symm
  | succ n =>
    rcases d with ⟨h1,h2⟩ | ⟨p,q',_,_,e1,e2,_⟩ | ⟨p,q',_,_,e1,e2,_⟩
    · exact sc x h1 rfl h2.symm
    · exact rf p q' e1 e2
    · exact rf p q' e1 e2
theorem Ce (hu:X.A.units + 50 < eB):OpR X (dI .NotEq) (fun x y H Q=>∃ n,n<=20/\TEq H n x y/\Q (.bl false) H):=by
  intro pins s σ H x y v u Q I rx ry h
  obtain ⟨n,hn,d,q⟩:=h
  have sc:∀ z,sc0 z->x=z->y=z->aZ (bD X.prog X.w) X.A (dI .NotEq v u) (EP X pins σ Q) X.xe s:=by
    rintro z hz rfl rfl
    refine Gu pins s σ H _ _ v u Q I rx ry ⟨zy hz,?_⟩
    rw [decide_eq_true rfl]
    exact q
  have rf:∀ p q',x=.ref p->y=.ref q'->aZ (bD X.prog X.w) X.A (dI .NotEq v u) (EP X pins σ Q) X.xe s:=fun p q' e1 e2 =>
    Ie hu pins s σ H x y v u Q I rx ry ⟨n,p,q',hn,e1,e2,d,q⟩
  cases n with
  | zero=>exact sc x d.1 rfl d.2.symm
  | succ n =>
    rcases d with ⟨h1,h2⟩ | ⟨p,q',_,_,e1,e2,_⟩ | ⟨p,q',_,_,e1,e2,_⟩
    · exact sc x h1 rfl h2.symm
    · exact rf p q' e1 e2
    · exact rf p q' e1 e2
end
end L2
namespace L2
open PySem PySem.Spec PyProof.Rows
section
variable {X:Cx}
end
end L2
namespace L2
open PySem PySem.Spec PyProof.Rows
section
variable {X:Cx} {pins:List (ae×Obj)} {σ:St} {H:Hp} {s:aj} {d:ae}
theorem Inv.swap {o o':HO} (I:Inv X pins σ H s) (e:H d=some o) (nt:∀ xs,o≠.tup xs) (nb:∀ ps,o≠.tbl ps) (nw:∀ a,o≠.own a) (nf:∀ ob u,X.H₀ d≠some (.frz ob u)) (ok:eM X.prog X.w (upd H d o') s.heap d o'):Inv X pins σ (upd H d o') s:=by
  have no:∀ b,H b=none->upd H d o' b=none:=fun b z=>by
    rw [aV (aH e z).symm]
    exact z
  have tp:∀ b xs,H b=some (.tup xs)->upd H d o' b=some (.tup xs):=fun b xs z=>by
    rw [aV (lU z e (fun q=>nt xs q.symm))]
    exact z
  have ow:∀ b a,H b=some (.own a)->upd H d o' b=some (.own a):=fun b a z=>by
    rw [aV (lU z e (fun q=>nw a q.symm))]
    exact z
  refine ⟨I.ok,I.os,I.bare,⟨I.base.keep,I.base.slot,fun b ob q n hx=>no b (I.base.free b ob q n hx),I.base.there,fun b xs q=>tp b xs (I.base.tups b xs q),fun b ob u q=>?_,fun b ps q=>?_⟩,I.loc,I.cell,no _ I.free,fun x c q=>no c (I.freeC x c q),fun p hp=>?_,fun b u q=>?_,I.len⟩
  · have z:=I.base.frzs b ob u q
    have nd:b≠d:=fun y=>nf ob u (by rw [<- y]; exact q)
    rw [aV nd]
    exact z
  · obtain ⟨more,z⟩:=I.base.tbls b ps q
    refine ⟨more,?_⟩
    rw [aV (lU z e (fun y=>nb _ y.symm))]
    exact z
  · obtain ⟨h1,h2,h3⟩:=I.pin p hp
    exact ⟨h1,no _ h2,h3⟩
  · by_cases z:b=d
    · subst z
      rw [ao] at q
      cases q
      exact ok
    · rw [aV z] at q
      exact (I.hok b u q).stay (fun c v _ y=>y) (fun c y=>ow c b y) tp
theorem Inv.freeze {kvs:List (Key×V)} (I:Inv X pins σ H s) (e:H d=some (.dK kvs)) (nf:∀ ob u,X.H₀ d≠some (.frz ob u)):∃ od,s.heap.get? d=some od/\Inv X pins σ (upd H d (.frz od (.dK kvs))) s:=by
  obtain ⟨h1,h2,vs,r,ob,es,ep,g1,g2⟩:=(show eM X.prog X.w H s.heap d (.dK kvs) from I.hok d _ e)
  exact ⟨ob,g1,I.swap e (fun xs z=>by cases z) (fun ps z=>by cases z) (fun a z=>by cases z) nf ⟨g1,h1,h2,vs,r,ob,es,ep,g1,g2⟩⟩
theorem Inv.thaw {kvs:List (Key×V)} {od:Obj} (I:Inv X pins σ H s) (e:H d=some (.frz od (.dK kvs))) (nf:∀ ob u,X.H₀ d≠some (.frz ob u)):Inv X pins σ (upd H d (.dK kvs)) s:=by
  obtain ⟨_,h1⟩:=(show eM X.prog X.w H s.heap d (.frz od (.dK kvs)) from I.hok d _ e)
  exact I.swap e (fun xs z=>by cases z) (fun ps z=>by cases z) (fun a z=>by cases z) nf h1
end
def Iti (d:ae) (od:Obj) (kvs:List (Key×V)):It:=
  ⟨fun i H=>H d=some (.frz od (.dK kvs))/\i < kvs.length,fun i H x H'=>∃ t kv,x=.ref t/\H t=none/\kvs[i]?=some kv/\H'=upd H t (.tup [kV kv.1,kv.2]),fun i H=>H d=some (.frz od (.dK kvs))/\kvs.length<=i⟩
theorem KV.at_ {kvs:List (Key×V)} {vs:List (Key×aa)} (r:KV kvs vs):∀ {i:Nat} {kv:Key×V},kvs[i]?=some kv->∃ u,vs[i]?=some (kv.1,u)/\RelV kv.2 u:=by
  induction r with
  | nil=>intro i kv h; simp at h
  | cons a _ ih =>
    intro i kv h
    cases i with
    | zero =>
      simp at h
      subst h
      exact ⟨_,by rw [List.getElem?_cons_zero,a.1],a.2⟩
    | succ i =>
      obtain ⟨u,h1,h2⟩:=ih (by simpa using h)
      exact ⟨u,by simpa using h1,h2⟩
theorem Ij {P:aW} {w:bO} {k:Key} {u:aa} (h:(fX P w).is k u=true):RelV (kV k) u:=by
  rcases gs h with ⟨i,t,rfl,rfl⟩ | ⟨x,t,rfl,rfl⟩
  · exact ⟨t,rfl⟩
  · exact ⟨t,rfl⟩
theorem qT:entryFor table "dict_itemiterator.__iter__"=some iV.«dict_keyiterator.__iter__»:=
  entryFor_alias (id':="dict_keyiterator.__iter__") (by kernel_rfl) rfl (by decide +kernel) (by kernel_rfl)
section
variable {P:aW} {w:bO} {K:ag}
def E3 (o:Obj):Nat:=match o.data with | .dict _ ep=>ep | _=>0
theorem yw {X:Cx} {pins:List (ae×Obj)} {σ:St} {H:Hp} {s:aj} {d:ae} {od:Obj} {kvs:List (Key×V)} (I:Inv X pins σ H s) (e:H d=some (.frz od (.dK kvs))):∃ vs,KV kvs vs/\s.heap.DictAt (fX X.prog X.w) d vs (E3 od):=by
  obtain ⟨g0,h1,h2,vs,r,ob,es,ep,g1,g2,g3,g4⟩:=(show eM X.prog X.w H s.heap d (.frz od (.dK kvs)) from I.hok d _ e)
  rw [g0] at g1
  cases g1
  have ee:E3 od=ep:=by
    unfold E3
    rw [g3]
  rw [ee]
  exact ⟨vs,r,od,es,g0,g2,g3,g4⟩
theorem yy {elts:List dv} {x1} {pos:Pos} (d it:ae) (od:Obj) (kvs:List (Key×V)) (hne:d≠it):An P w K (.Tuple elts x1 pos) (Iti d od kvs) [it] it (fun i h=>∃ ok ov,IsItemIter h it d i kvs.length (E3 od) ok ov) where
  mem:=by simp
  obj:=fun i h st b hb=>by
    have e:b=it:=by simpa using hb
    subst e
    obtain ⟨ok,ov,e⟩:=st
    exact ⟨_,e,fun v z=>by cases z⟩
  keep:=fun i h h' ⟨ok,ov,st⟩ k=>⟨ok,ov,k it (by simp) _ st⟩
  item:=by
    intro X hP hw hK hc i pins s σ H E I hf st hg
    subst hP hw hK
    obtain ⟨ok,ov,st⟩:=st
    obtain ⟨hd,hi⟩:=hg
    obtain ⟨vs,r,da⟩:=yw I hd
    have hl:=r.length
    have hkv:kvs[i]?=some kvs[i]:=aA hi
    obtain ⟨u,hu,ru⟩:=r.at_ hkv
    obtain ⟨f0,f1,f2,f3,f4,f5⟩:=hf it (by simp)
    rw [hl] at st
    refine wpAny_pyNext_items_item st da hu fun key h' hk hit' ht' hz' kp=>?_
    have I1:Inv X pins σ H {s with heap:=h'}:=I.turned (t':=s.toks) (fun b o hb e=>kp b o hb e) f0 f1 f3 f4 f5
    refine ⟨_,rfl,wpAny_letOwnedTupleGo_items hit' fun h2 hit2 sb=>?_⟩
    have I2:Inv X pins σ H {s with heap:=h2}:=I1.turned (t':=s.toks) (fun b o hb e=>sb.extBut b o hb e) f0 f1 f3 f4 f5
    have fr:H s.heap.objs.size=none:=I.hok.fresh (aL _)
    have nit:s.heap.objs.size≠it:=(aU (aT st)).symm
    have e2:h2.get? s.heap.objs.size=some {cls:=.type "tuple",data:=.seq #[key,u]}:=sb.extBut _ _ nit ht'
    have I3:Inv X pins σ (upd H s.heap.objs.size (.tup [kV kvs[i].1,kvs[i].2])) {s with heap:=h2}:=by
      have kall:∀ b v,s.heap.get? b=some v->b≠it->h2.get? b=some v:=fun b v q n=>sb.extBut b v n (kp b v n q)
      exact ⟨I2.ok,I2.os,I2.bare,⟨I2.base.keep,I2.base.slot,fun b ob q n hx=>by
          have z:=I2.base.free b ob q n hx
          by_cases y:b=s.heap.objs.size
          · exfalso
            have lt:b < s.heap.objs.size:=bE (aT q) I.sz
            rw [y] at lt
            exact absurd lt (gU _)
          · rw [aV y]
            exact z,I2.base.there,fun b xs q=>by
          rw [aV (aH (I2.base.tups b xs q) fr)]
          exact I2.base.tups b xs q,fun b ob v q=>by
          rw [aV (aH (I2.base.frzs b ob v q) fr)]
          exact I2.base.frzs b ob v q,fun b ps q=>by
          obtain ⟨m,z⟩:=I2.base.tbls b ps q
          exact ⟨m,by rw [aV (aH z fr)]; exact z⟩⟩,I2.loc,I2.cell,by
          rw [aV (aU I.lt)]
          exact I2.free,fun x c q=>by
          obtain ⟨v,y⟩:=I.cell x c q
          rw [aV (aU y.lt)]
          exact I2.freeC x c q,fun p hp=>by
          obtain ⟨h1,h2',h3⟩:=I2.pin p hp
          obtain ⟨g1,_⟩:=I.pin p hp
          refine ⟨h1,?_,h3⟩
          rw [aV (aU (aT g1))]
          exact h2',fun b v q=>by
          by_cases y:b=s.heap.objs.size
          · subst y
            rw [ao] at q
            cases q
            exact ⟨(by show 2<=aJ; decide),[key,u],.cons (Ij hk) (.cons ru .nil),_,e2,rfl,0,rfl⟩
          · rw [aV y] at q
            exact (I2.hok b v q).stay (fun c v' _ z=>z) (fun c z=>by rw [aV (aH z fr)]; exact z) fun c xs z=>by rw [aV (aH z fr)]; exact z,I2.len⟩
    refine ⟨.ref s.heap.objs.size,_,I3,rfl,⟨_,_,rfl,fr,hkv,rfl⟩,⟨_,_,by rw [hl]; exact hit2⟩,fun b hb=>?_⟩
    have e:b=it:=by simpa using hb
    subst e
    rw [aV (fY nit)]
    exact f0
  done:=by
    intro X hP hw hK hc i pins s σ H E I hf st hg
    subst hP hw hK
    obtain ⟨ok,ov,st⟩:=st
    obtain ⟨hd,hi⟩:=hg
    obtain ⟨vs,r,da⟩:=yw I hd
    have hl:=r.length
    obtain ⟨f0,f1,f2,f3,f4,f5⟩:=hf it (by simp)
    rw [hl] at st
    exact wpAny_pyNext_items_end (I.ok.hd hc) st da (gF (by omega)) fun h' eb=>⟨rfl,I.turned (t':=s.toks) (fun b o hb e=>eb b o hb e) f0 f1 f3 f4 f5⟩
  self:=fun A i s Q E ⟨ok,ov,st⟩ h=>by
    have ty:s.TypeIs (.ref it) "dict_itemiterator":=⟨_,st,rfl⟩
    refine uk ty F.slot_dict_itemiterator_iter (o7 F.slot_dict_itemiterator_iter ty qT ?_ (F.args_dict_itemiterator_iter_1 _))
    show aZ _ _ (ret (.ref it)) _ _ s
    exact aY ⟨_,rfl,"dict_itemiterator",_,ty,F.slot_dict_itemiterator_next.lookup,h⟩
end
section
variable {X:Cx} {o:dv} {to:TE} {apos cpos:Pos} {elts:List dv} {x1:Nat} {pos:Pos}
def Ik (X:Cx) (to:TE):TI:=fun σ H R=>to σ H fun x H1=>∃ d kvs,x=.ref d/\H1 d=some (.dK kvs)/\(∀ ob u,X.H₀ d≠some (.frz ob u))/\∀ od,R (Iti d od kvs) (upd H1 d (.frz od (.dK kvs)))
theorem Cf (ho:PE X o to) (hbase:kR o "items" X.env (fV o X.env)=fV o X.env:=by rfl) (hline:(apos.endLine == cpos.line)=true:=by rfl):PI X (.Tuple elts x1 pos) (.Call (.Attribute o "items" apos) [] [] cpos) (Ik X to):=by
  intro pins s σ H R I h
  refine Be hbase hline (thn (ho pins s σ H _ I h) fun v s1 ⟨x,H1,I1,r1,d,kvs,ex,hd,nf,q⟩=>?_)
  subst ex
  cases r1
  obtain ⟨hz,n1,ws,k1,m1⟩:=(show eM X.prog X.w H1 s1.heap d (.dK kvs) from I1.hok d _ hd)
  obtain ⟨ob,_,_,g1,g2,_⟩:=id m1
  refine ⟨"dict","dict.items",PySem.F.plainAttrs_dict,uQ,PySem.F.type_dict_items,m1.typeIs,fun a e=>?_,m8 rfl (zi ?_)⟩
  · cases e
    exact ⟨ob,g1,g2.2.1⟩
  refine B7 uQ m1.typeIs PySem.F.entry_dict_items (PySem.F.args_dict_items_1 _) (meets_dict_items (fX X.prog X.w) d n1) ⟨⟨ws,m1⟩,?_⟩
  have I2:Inv X pins σ H1 {s1 with heap:=s1.heap.push {cls:=.type "dict_items",data:=.fields #[.ref d]}}:=I1.kept (t':=s1.toks) fun b ob q=>aQ _ q
  obtain ⟨od,g3,I3⟩:=I2.freeze hd nf
  obtain ⟨vs,r,da⟩:=yw I3 (ao:upd H1 d (.frz od (.dK kvs)) d=_)
  refine wpAny_pyIter_items ⟨_,cB _ rfl,rfl,rfl⟩ da ?_
  have lt:=aT g3
  refine ⟨_,[_],_,_,_,rfl,I3.kept (t':=s1.toks) fun b ob q=>aQ _ q,yy d _ od kvs (aU lt),⟨.none,.none,?_⟩,fun b hb=>?_,q od⟩
  · rw [r.length]
    exact cB _ rfl
  · have e:b=_:=aM.mp hb
    subst e
    exact I3.fpOk (aL _) (I3.hok.fresh (aL _))
end
theorem AF {d:ae} {od:Obj} {kvs:List (Key×V)} {g:TG} {tb:TS} {D:kU} {σ:St} {H:Hp} (Pv:Nat->St->Hp->Prop) (h0:Pv 0 σ H) (hl:∀ i σ H,i<=kvs.length->Pv i σ H->H d=some (.frz od (.dK kvs)))
    (hs:∀ i kv t σ H,kvs[i]?=some kv->Pv i σ H->H t=none->g (.ref t) σ (upd H t (.tup [kV kv.1,kv.2])) fun σ2 H2=>tb {D with nx:=Pv (i + 1),ct:=Pv (i + 1),bk:=D.nx} σ2 H2) (hd:∀ σ H,Pv kvs.length σ H->D.nx σ H) :
    ∃ W:Nat->Nat->St->Hp->Prop,(∃ m,W 0 m σ H)/\∀ i m σ H,W i m σ H ->
      ((Iti d od kvs).stop i H/\D.nx σ H)\/((Iti d od kvs).go i H/\∃ N:St->Hp->Prop,(∀ σ' H',N σ' H'->∃ m',m' < m/\W (i + 1) m' σ' H')/\∀ x H',(Iti d od kvs).yld i H x H'->g x σ H' fun σ2 H2=>tb {D with nx:=N,ct:=N,bk:=D.nx} σ2 H2):=by
  refine ⟨fun i m σ H=>m=kvs.length - i/\i<=kvs.length/\Pv i σ H,⟨kvs.length,by simp,bK _,h0⟩,?_⟩
  rintro i m σ H ⟨rfl,hi,p⟩
  have q:=hl i σ H hi p
  by_cases lt:i < kvs.length
  · refine .inr ⟨⟨q,lt⟩,Pv (i + 1),fun σ' H' p'=>⟨kvs.length - (i + 1),by omega,rfl,lt,p'⟩,fun x H' y=>?_⟩
    obtain ⟨t,kv,rfl,ht,hk,rfl⟩:=y
    exact hs i kv t σ H hk p ht
  · have e:i=kvs.length:=by omega
    subst e
    exact .inl ⟨⟨q,aL _⟩,hd σ H p⟩
def GV (X:Cx) (D:kU):kU where
  nx:=fun σ H=>∃ d od kvs,H d=some (.frz od (.dK kvs))/\(∀ ob u,X.H₀ d≠some (.frz ob u))/\D.nx σ (upd H d (.dK kvs))
  rt:=D.rt
  bk:=D.bk
  ct:=D.ct
theorem E4 {X:Cx} {st:dP} {t:TS} (h:PS X st t):PS X st (fun D σ H=>t (GV X D) σ H):=by
  intro pins s σ H D I q
  refine thn (h pins s σ H (GV X D) I q) fun fl s1 z=>?_
  cases fl with
  | next =>
    obtain ⟨σ',H',I',d,od,kvs,e,nf,y⟩:=z
    exact ⟨σ',_,I'.thaw e nf,y⟩
  | brk=>exact z
  | cont=>exact z
  | ret u=>exact z
end L2
namespace L2
open PySem PySem.Spec PyProof.Rows PySem.SeqAt
def BSc (x y:V) (b:Bool):Prop:=(∃ i j:Int,x=.int i/\y=.int j/\b=decide (i=j))\/∃ i j:Str,x=.str i/\y=.str j/\b=decide (i=j)
def BEq (H:Hp):Nat->V->V->Bool->Prop
  | 0,x,y,b=>BSc x y b
  | n + 1,x,y,b=>BSc x y b\/∃ p q xs ys,x=.ref p/\y=.ref q/\((H p=some (.lst xs)/\H q=some (.lst ys)/\xs.length≠ys.length/\b=false) \/
      (((H p=some (.lst xs)/\H q=some (.lst ys))\/(H p=some (.tup xs)/\H q=some (.tup ys)))/\xs.length=ys.length/\∃ e:Nat->Bool,(∀ i x y,xs[i]?=some x->ys[i]?=some y->BEq H n x y (e i))/\b=(eS xs.length).all e))
theorem BSc.self {x:V} {b:Bool} (h:BSc x x b):b=true:=by
  rcases h with ⟨i,j,e1,e2,rfl⟩ | ⟨i,j,e1,e2,rfl⟩
  · rw [e1] at e2
    cases e2
    exact decide_eq_true rfl
  · rw [e1] at e2
    cases e2
    exact decide_eq_true rfl
theorem BEq.self {H:Hp}:∀ {n:Nat} {x:V} {b:Bool},BEq H n x x b->b=true
  | 0,_,_,h=>BSc.self h
  | n + 1,x,b,h=>by
    rcases h with h | ⟨p,q,xs,ys,e1,e2,h⟩
    · exact h.self
    · rw [e1] at e2
      cases e2
      rcases h with ⟨h1,h2,h3,_⟩ | ⟨h1,_,e,he,rfl⟩
      · rw [h1] at h2
        cases h2
        exact absurd rfl h3
      · have exy:xs=ys:=by
          rcases h1 with ⟨h1,h2⟩ | ⟨h1,h2⟩
          · rw [h1] at h2
            cases h2
            rfl
          · rw [h1] at h2
            cases h2
            rfl
        subst exy
        rw [El]
        intro i hi
        have lt:=pe.mp hi
        exact BEq.self (he i _ _ (aA lt) (aA lt))
section
variable {P:aW} {w:bO} {H:Hp} {s:aj}
theorem Cg {A:bZ} {x y:V} {u v:aa} {b:Bool} (h:BSc x y b) (ru:RelV x u) (rv:RelV y v):EqAt A s u v b:=by
  rcases h with ⟨i,j,rfl,rfl,rfl⟩ | ⟨i,j,rfl,rfl,rfl⟩
  · obtain ⟨t,rfl⟩:=(show ∃ t,u=Value.int i t from ru)
    obtain ⟨t',rfl⟩:=(show ∃ t',v=Value.int j t' from rv)
    have z:=EqAt.int_int (A:=A) (s:=s) i t j t'
    have e:(i == j)=decide (i=j):=by
      by_cases c:i=j
      · rw [decide_eq_true c,beq_iff_eq.mpr c]
      · rw [decide_eq_false c,beq_eq_false_iff_ne.mpr c]
    rw [e] at z
    exact z
  · obtain ⟨t,rfl⟩:=(show ∃ t,u=Value.str i t from ru)
    obtain ⟨t',rfl⟩:=(show ∃ t',v=Value.str j t' from rv)
    have z:=EqAt.str_str (A:=A) (s:=s) i t j t'
    have e:(i == j)=decide (i=j):=by
      by_cases c:i=j
      · rw [decide_eq_true c,beq_iff_eq.mpr c]
      · rw [decide_eq_false c,beq_eq_false_iff_ne.mpr c]
    rw [e] at z
    exact z
theorem Cj (ok:HOk P w H s.heap) {A:bZ} {n:Nat} {p q:ae} {xs ys:List V} {b:Bool} (hu:A.units < eB)
    (rec:∀ x y b,BEq H n x y b->∀ u v,RelV x u->RelV y v->EqAt A.in1 s u v b)
    (h:(H p=some (.lst xs)/\H q=some (.lst ys)/\xs.length≠ys.length/\b=false) \/
      (((H p=some (.lst xs)/\H q=some (.lst ys))\/(H p=some (.tup xs)/\H q=some (.tup ys)))/\xs.length=ys.length/\∃ e:Nat->Bool,(∀ i x y,xs[i]?=some x->ys[i]?=some y->BEq H n x y (e i))/\b=(eS xs.length).all e)):RcAt A s (.ref p) (.ref q) b:=by
  rcases h with ⟨h1,h2,h3,rfl⟩ | ⟨h1 | h1,hl,e,he,rfl⟩
  · obtain ⟨us,r1,i1⟩:=ia ok h1
    obtain ⟨vs,r2,i2⟩:=ia ok h2
    refine RcAt.lists_lengths i1 i2 ?_ hu
    rw [aD,aD,<- r1.length,<- r2.length]
    exact bne_iff_ne.mpr h3
  · obtain ⟨us,r1,i1⟩:=ia ok h1.1
    obtain ⟨vs,r2,i2⟩:=ia ok h1.2
    have l1:=r1.length
    have l2:=r2.length
    have k:=RcAt.lists (A:=A) (e:=e) i1 i2 (by rw [aD,aD]; omega) hu (fun j a b=>by
      have ja:j < us.length:=by simpa using a
      have jb:j < vs.length:=by simpa using b
      have hx:xs[j]?=some (xs[j]'(by omega)):=aA _
      have hy:ys[j]?=some (ys[j]'(by omega)):=aA _
      obtain ⟨u,hu',ru⟩:=r1.get hx
      obtain ⟨v,hv',rv⟩:=r2.get hy
      have eu:us[j]=u:=(aB.mp hu').2
      have ev:vs[j]=v:=(aB.mp hv').2
      have z:=rec _ _ _ (he j _ _ hx hy) u v ru rv
      simpa [eu,ev] using z)
    rw [aD,<- l1] at k
    exact k
  · obtain ⟨us,r1,i1⟩:=gI ok h1.1
    obtain ⟨vs,r2,i2⟩:=gI ok h1.2
    have l1:=r1.length
    have l2:=r2.length
    have k:=RcAt.tuples (A:=A) (e:=e) i1 i2 hu (fun j a b=>by
      have ja:j < us.length:=by simpa using a
      have jb:j < vs.length:=by simpa using b
      have hx:xs[j]?=some (xs[j]'(by omega)):=aA _
      have hy:ys[j]?=some (ys[j]'(by omega)):=aA _
      obtain ⟨u,hu',ru⟩:=r1.get hx
      obtain ⟨v,hv',rv⟩:=r2.get hy
      have eu:us[j]=u:=(aB.mp hu').2
      have ev:vs[j]=v:=(aB.mp hv').2
      have z:=rec _ _ _ (he j _ _ hx hy) u v ru rv
      simpa [eu,ev] using z)
    have es:(us.toArray.size == vs.toArray.size)=true:=by
      rw [aD,aD,<- l1,<- l2,hl]
      exact beq_self_eq_true _
    rw [es,Il] at k
    have em:min us.toArray.size vs.toArray.size=xs.length:=by
      rw [aD,aD]
      omega
    first
      | (rw [em] at k; exact k)
      | (rw [aD,<- l1] at k; exact k)
theorem yz (ok:HOk P w H s.heap):∀ {n:Nat} {A:bZ} {x y:V} {u v:aa} {b:Bool},A.units + n < eB->BEq H n x y b->RelV x u->RelV y v->EqAt A s u v b
  | 0,A,x,y,u,v,b,_,h,ru,rv=>Cg h ru rv
  | n + 1,A,x,y,u,v,b,hu,h,ru,rv=>by
    rcases id h with h' | ⟨p,q,xs,ys,rfl,rfl,h'⟩
    · exact Cg h' ru rv
    · cases ru
      cases rv
      by_cases e:p=q
      · subst e
        rw [BEq.self h]
        exact EqAt.same _
      · exact EqAt.of_refs e (Cj ok (by omega) (fun x y b z u v ru rv=>yz ok (by show A.units + 1 + n < eB; omega) z ru rv) h')
end
section
variable {X:Cx}
theorem Im (hu:X.A.units + 50 < eB):OpR X (dI .Eq) (fun x y H Q=>∃ n p q b,n<=20/\x=.ref p/\y=.ref q/\BEq H n x y b/\Q (.bl b) H):=by
  intro pins s σ H x y v u Q I rx ry h
  obtain ⟨n,p,q,b,hn,rfl,rfl,d,k⟩:=h
  cases rx
  cases ry
  have fin:EP X pins σ Q (.bool b) s:=⟨.bl b,H,I,rfl,k⟩
  cases n with
  | zero =>
    rcases d with ⟨_,_,e,_⟩ | ⟨_,_,e,_⟩
    · cases e
    · cases e
  | succ n =>
    rcases d with d | ⟨p',q',xs,ys,e1,e2,d⟩
    · rcases d with ⟨_,_,e,_⟩ | ⟨_,_,e,_⟩
      · cases e
      · cases e
    · cases e1
      cases e2
      exact Cj I.hok (by omega) (fun x y b z u v ru rv=>yz I.hok (by show X.A.units + 1 + n < eB; omega) z ru rv) d X.prog X.w _ _ fin
end
end L2
namespace L2
open PySem PySem.Spec PyProof.Rows PySem.SeqAt
def TQ (H:Hp) (n:Nat) (a b:ae) (k:Bool):Prop:=∃ (xs ys:List V) (e:Nat->Bool),H a=some (.tup xs)/\H b=some (.tup ys)/\(∀ i x y,xs[i]?=some x->ys[i]?=some y->BEq H n x y (e i))/\k=((eS (min xs.length ys.length)).all e && (xs.length == ys.length))
section
variable {P:aW} {w:bO} {H:Hp} {s:aj}
theorem tq_at (ok:HOk P w H s.heap) {A:bZ} {n:Nat} {a b:ae} {k:Bool} (hu:A.units + n + 1 < eB) (h:TQ H n a b k):EqAt A s (.ref a) (.ref b) k:=by
  obtain ⟨xs,ys,e,ha,hb,he,rfl⟩:=h
  by_cases c:a=b
  · subst c
    rw [ha] at hb
    cases hb
    have:((eS (min xs.length xs.length)).all e && (xs.length == xs.length))=true:=by
      rw [beq_self_eq_true,Il,El]
      intro i hi
      have lt:=pe.mp hi
      rw [Nat.min_self] at lt
      exact BEq.self (he i _ _ (aA lt) (aA lt))
    rw [this]
    exact EqAt.same _
  · refine EqAt.of_refs c ?_
    obtain ⟨us,r1,i1⟩:=gI ok ha
    obtain ⟨vs,r2,i2⟩:=gI ok hb
    have l1:=r1.length
    have l2:=r2.length
    have k:=RcAt.tuples (A:=A) (e:=e) i1 i2 (by omega) (fun j a b=>by
      have ja:j < us.length:=by simpa using a
      have jb:j < vs.length:=by simpa using b
      have hx:xs[j]?=some (xs[j]'(by omega)):=aA _
      have hy:ys[j]?=some (ys[j]'(by omega)):=aA _
      obtain ⟨u,hu',ru⟩:=r1.get hx
      obtain ⟨v,hv',rv⟩:=r2.get hy
      have eu:us[j]=u:=(aB.mp hu').2
      have ev:vs[j]=v:=(aB.mp hv').2
      have z:=yz ok (A:=A.in1) (by show A.units + 1 + n < eB; omega) (he j _ _ hx hy) ru rv
      simpa [eu,ev] using z)
    rw [aD,aD,<- l1,<- l2] at k
    exact k
end
section
variable {X:Cx}
theorem E5 (hu:X.A.units + 50 < eB):OpR X (dI .NotIn) (fun x y H Q=>∃ (n:Nat) (p b:ae) (as:List ae) (e:ae->Bool),n<=20/\x=.ref b/\y=.ref p/\H p=some (.lst (as.map V.ref))/\(∀ a∈as,TQ H n a b (e a))/\Q (.bl (!(as.any e))) H):=by
  intro pins s σ H x y v u Q I rx ry h
  obtain ⟨n,p,b,as,e,hn,rfl,rfl,hp,ht,q⟩:=h
  cases rx
  cases ry
  obtain ⟨its,r,pl,hz⟩:=I.list (SqL.of hp)
  have vals:∀ {as:List ae} {its:List aa},df (as.map V.ref) its->its=as.map Value.ref:=by
    intro as
    induction as with
    | nil=>intro its r; cases r; rfl
    | cons a as ih =>
      intro its r
      cases r with
      | cons r1 r2 =>
        cases r1
        rw [ih r2]
        rfl
  have ei:=vals r
  refine SeqAt.notIn_listAt (fun w=>match w with | .ref a=>e a | _=>false) pl.isList (fun w hw=>?_) ⟨.bl _,H,I,rfl,?_⟩
  · rw [ei] at hw
    obtain ⟨a,ha,rfl⟩:=cN.mp (by simpa using hw)
    exact tq_at I.hok (A:=X.A.in1) (by show X.A.units + 1 + n + 1 < eB; omega) (ht a ha)
  · have e2:its.toArray.any (fun w=>match w with | .ref a=>e a | _=>false)=as.any e:=by
      rw [ei,List.any_toArray,List.any_map]
      rfl
    rw [e2]
    exact q
end
end L2
namespace L2
open PySem PySem.Spec PyProof.Rows
section
variable {X:Cx} {pins:List (ae×Obj)} {σ:St} {H:Hp} {s s2:aj} {h':cE}
theorem Inv.turned2 {t':Nat} {e it:ae} (I:Inv X pins σ H s) (k:∀ b o,b≠e->b≠it->s.heap.get? b=some o->h'.get? b=some o) (f:vw X pins H e) (g:vw X pins H it):Inv X pins σ H {s with heap:=h',toks:=t'}:=by
  have ne1:∀ b u,H b=some u->b≠e:=fun b u q z=>by rw [z,f.1] at q; cases q
  have ne2:∀ b u,H b=some u->b≠it:=fun b u q z=>by rw [z,g.1] at q; cases q
  obtain ⟨f0,f1,f2,f3,f4,f5⟩:=f
  obtain ⟨g0,g1,g2,g3,g4,g5⟩:=g
  refine I.step (g':=s.gens) (d':=s.drawn) (ch:=[e,it]) (fun b hb=>?_) (fun b o _ _ hc q _=>k b o (fun z=>hc (by simp [z])) (fun z=>hc (by simp [z])) q) (fun b o _ _ hc q _=>⟨o.slots,k b o (fun z=>hc (by simp [z])) (fun z=>hc (by simp [z])) q⟩) (fun _ _ _ _ n=>n)
    (fun b o hc q=>⟨o,k b o (fun z=>hc (by simp [z])) (fun z=>hc (by simp [z])) q⟩) (fun _ _ q=>q) (fun _ _ _ q=>q) (fun b ps q=>⟨#[],by rw [q]; simp⟩) (fun m hm=>?_) (fun b u q=>?_) I.bare
  · rcases ax.mp hb with z | z
    · subst z
      exact ⟨f3,f1,f4,f5⟩
    · have z:=aM.mp z
      subst z
      exact ⟨g3,g1,g4,g5⟩
  · obtain ⟨o,es,ep,ho,r⟩:=hm
    exact ⟨o,es,ep,k _ o (fY f1) (fY g1) ho,r⟩
  · refine (I.hok b u q).stay (fun c v hc q'=>k c v ?_ ?_ q') (fun _ q=>q) fun _ _ q=>q
    · rcases hc with z | z
      · rw [z]; exact ne1 b u q
      · exact ne1 c _ z
    · rcases hc with z | z
      · rw [z]; exact ne2 b u q
      · exact ne2 c _ z
theorem Inv.track {o:HO} (I:Inv X pins σ H s) (I2:Inv X pins σ H s2) (ok:eM X.prog X.w (upd H s.heap.objs.size o) s2.heap s.heap.objs.size o):Inv X pins σ (upd H s.heap.objs.size o) s2:=by
  have fr:H s.heap.objs.size=none:=I.hok.fresh (aL _)
  exact ⟨I2.ok,I2.os,I2.bare,⟨I2.base.keep,I2.base.slot,fun b ob q n hx=>by
      have z:=I2.base.free b ob q n hx
      by_cases y:b=s.heap.objs.size
      · exfalso
        have lt:b < s.heap.objs.size:=bE (aT q) I.sz
        rw [y] at lt
        exact absurd lt (gU _)
      · rw [aV y]
        exact z,I2.base.there,fun b xs q=>by
      rw [aV (aH (I2.base.tups b xs q) fr)]
      exact I2.base.tups b xs q,fun b ob v q=>by
      rw [aV (aH (I2.base.frzs b ob v q) fr)]
      exact I2.base.frzs b ob v q,fun b ps q=>by
      obtain ⟨m,z⟩:=I2.base.tbls b ps q
      exact ⟨m,by rw [aV (aH z fr)]; exact z⟩⟩,I2.loc,I2.cell,by
      rw [aV (aU I.lt)]
      exact I2.free,fun x c q=>by
      obtain ⟨v,y⟩:=I.cell x c q
      rw [aV (aU y.lt)]
      exact I2.freeC x c q,fun p hp=>by
      obtain ⟨h1,h2',h3⟩:=I2.pin p hp
      obtain ⟨g1,_⟩:=I.pin p hp
      refine ⟨h1,?_,h3⟩
      rw [aV (aU (aT g1))]
      exact h2',fun b v q=>by
      by_cases y:b=s.heap.objs.size
      · subst y
        rw [ao] at q
        cases q
        exact ok
      · rw [aV y] at q
        exact (I2.hok b v q).stay (fun c v' _ z=>z) (fun c z=>by rw [aV (aH z fr)]; exact z) fun c xs z=>by rw [aV (aH z fr)]; exact z,I2.len⟩
end
def Ite (K:ag) (a:ae):It:=
  ⟨fun i H=>∃ xs x,SqL K H a xs/\xs[i]?=some x,fun i H x H'=>∃ t y,x=.ref t/\H t=none/\(∀ xs,SqL K H a xs->xs[i]?=some y)/\H'=upd H t (.tup [.int i,y]),fun i H=>∃ xs,SqL K H a xs/\xs.length<=i⟩
section
variable {P:aW} {w:bO} {K:ag}
theorem AG {elts:List dv} {x1} {pos:Pos} (a e it:ae) (hne:e≠it):An P w K (.Tuple elts x1 pos) (Ite K a) [e,it] e (fun i h=>∃ old,IsEnum h e it (i:Int) old/\h.IsListIter it a i) where
  mem:=by simp
  obj:=fun i h st b hb=>by
    obtain ⟨old,h1,h2⟩:=st
    rcases ax.mp hb with z | z
    · subst z
      exact ⟨_,h1,fun v z=>by cases z⟩
    · have z:=aM.mp z
      subst z
      obtain ⟨o,e,c,d⟩:=h2
      exact ⟨o,e,fun v z=>by rw [d] at z; cases z⟩
  keep:=fun i h h' ⟨old,h1,h2⟩ k=>⟨old,k e (by simp) _ h1,h2.at fun o q=>k it (by simp) o q⟩
  item:=by
    intro X hP hw hK hc i pins s σ H E I hf st hg
    subst hP hw hK
    obtain ⟨old,st1,st2⟩:=st
    obtain ⟨xs,x,hq,hx⟩:=hg
    obtain ⟨its,rv,p,hz⟩:=I.list hq
    obtain ⟨u,hu,ru⟩:=rv.get hx
    have F1:=hf e (by simp)
    have F2:=hf it (by simp)
    obtain ⟨f0,f1,f2,f3,f4,f5⟩:=id F1
    refine wpAny_pyNext_enum_item st1 st2 p.isList (x:=u) (by simpa using hu) hne fun h' a1 a2 a3 a4 a5=>?_
    have I1:Inv X pins σ H {s with heap:=h',toks:=s.toks + 1}:=I.turned2 (t':=s.toks + 1) (fun b o h1 h2 q=>a5 b o h1 h2 q) F1 F2
    refine ⟨_,rfl,wpAny_letOwnedTupleGo_enum a1 fun h2 e2 sb=>?_⟩
    have I2:Inv X pins σ H {s with heap:=h2,toks:=s.toks + 1}:=I1.turned (t':=s.toks + 1) (fun b o hb q=>sb.extBut b o hb q) f0 f1 f3 f4 f5
    have fr:H s.heap.objs.size=none:=I.hok.fresh (aL _)
    have n1:s.heap.objs.size≠e:=(aU (aT st1)).symm
    have n2:s.heap.objs.size≠it:=by
      obtain ⟨o,q,_⟩:=st2
      exact (aU (aT q)).symm
    have t2:=sb.extBut _ _ n1 a3
    have I3:=I.track I2 (o:=.tup [.int i,x]) ⟨(by show 2<=aJ; decide),[.int i s.toks,u],.cons ⟨_,rfl⟩ (.cons ru .nil),_,t2,rfl,0,rfl⟩
    refine ⟨.ref s.heap.objs.size,_,I3,rfl,⟨_,x,rfl,fr,fun ys hy=>by rw [I.list_inj hy hq]; exact hx,rfl⟩,⟨u,e2,a2.extBut sb.extBut (fY hne)⟩,fun b hb=>?_⟩
    rcases ax.mp hb with z | z
    · rw [z,aV (fY n1)]
      exact f0
    · rw [aM.mp z,aV (fY n2)]
      exact F2.1
  done:=by
    intro X hP hw hK hc i pins s σ H E I hf st hg
    subst hP hw hK
    obtain ⟨old,st1,st2⟩:=st
    obtain ⟨xs,hq,hx⟩:=hg
    obtain ⟨its,rv,p,hz⟩:=I.list hq
    obtain ⟨f0,f1,f2,f3,f4,f5⟩:=hf it (by simp)
    have hl:=rv.length
    exact wpAny_pyNext_enum_end (I.ok.hd hc) st1 st2 p.isList (by simp; omega) fun h' eb=>⟨rfl,I.turned (t':=s.toks) (fun b o hb e=>eb b o hb e) f0 f1 f3 f4 f5⟩
  self:=fun A i s Q E ⟨old,st,_⟩ h=>by
    have ty:s.TypeIs (.ref e) "enumerate":=⟨_,st,rfl⟩
    refine uk ty F.slot_enumerate_iter (o7 F.slot_enumerate_iter ty F.entry_enumerate_iter ?_ (F.args_enumerate_iter_1 _))
    show aZ _ _ (ret (.ref e)) _ _ s
    exact aY ⟨_,rfl,"enumerate",_,ty,F.slot_enumerate_next.lookup,h⟩
end
section
variable {X:Cx} {elts:List dv} {x1:Nat} {tpos pos p:Pos}
def GX (K:ag) (tl:TA):TI:=fun σ H R=>tl σ H fun vs H1=>∃ a,vs=[.ref a]/\(∃ xs,SqL K H1 a xs)/\R (Ite K a) H1
theorem E6 {a:dv} {ta:TA} (hg:Gl X "enumerate") (hm:X.mg "enumerate"=none) (ha:PA X [a] ta) (hs:cH [a] X.env=[(false,fV a X.env)]:=by rfl):PI X (.Tuple elts x1 tpos) (.Call (.Name "enumerate" p) [a] [] pos) (GX X.K ta):=by
  intro pins s σ H R I h
  refine Call_ (qF I hg hm boot_enumerate (jZ (thn (ha pos pins s σ H _ I h) fun us s1 ⟨vs,H1,I1,r1,q1⟩=>?_) hs rfl))
  obtain ⟨l,e,⟨xs,hq⟩,q⟩:=q1
  subst e
  obtain ⟨u,rfl,ru⟩:=vals1 r1
  cases ru
  obtain ⟨its,rv,pl,hz⟩:=I1.list hq
  refine call_enumerate_list pl.isList fun h' e1 e2 e3 e4=>?_
  have I2:Inv X pins σ H1 {s1 with heap:=h'}:=I1.kept (t':=s1.toks) e4
  have ty:({s1 with heap:=h'}:aj).TypeIs (.ref (s1.heap.objs.size + 1)) "enumerate":=⟨_,e1,rfl⟩
  refine uk ty F.slot_enumerate_iter (o7 F.slot_enumerate_iter ty F.entry_enumerate_iter ?_ (F.args_enumerate_iter_1 _))
  show aZ _ _ (ret (.ref (s1.heap.objs.size + 1))) _ _ _
  refine aY ⟨_,rfl,"enumerate",_,ty,F.slot_enumerate_next.lookup,?_⟩
  refine ⟨_,[_,_],_,_,H1,rfl,I2,AG l _ s1.heap.objs.size (Nat.succ_ne_self _),⟨.none,e1,e2⟩,fun b hb=>?_,q⟩
  rcases ax.mp hb with z | z
  · rw [z]
    exact I1.fpOk (gi _) (I1.hok.fresh (gi _))
  · rw [aM.mp z]
    exact I1.fpOk (aL _) (I1.hok.fresh (aL _))
theorem AH {K:ag} {a:ae} {xs:List V} {n:Nat} {g:TG} {tc:TT} {te:TE} {σ:St} {H:Hp} {Q:VK} (Pv:Nat->List V->Hp->Prop) (h0:Pv 0 [] H) (hl:∀ i ys H,i<=xs.length->Pv i ys H->SqL K H a xs/\ys.length < aJ)
    (hs:∀ i x t ys H,xs[i]?=some x->Pv i ys H->H t=none->g (.ref t) (cO n none++σ) (upd H t (.tup [.int i,x])) fun σ2 H2=>σ2.drop n=σ/\tc σ2 H2 fun b H3=>if b=true then te σ2 H3 fun y H4=>Pv (i + 1) (ys++[y]) H4 else Pv (i + 1) ys H3)
    (hd:∀ ys H,Pv xs.length ys H->∀ p,H p=none->Q (.ref p) (upd H p (.lst ys))) :
    ∃ W:Nat->Nat->List V->Hp->Prop,(∃ m,W 0 m [] H)/\∀ i m ys H,W i m ys H->ys.length < aJ/\(((Ite K a).stop i H/\∀ p,H p=none->Q (.ref p) (upd H p (.lst ys))) \/
      ((Ite K a).go i H/\∃ N:List V->Hp->Prop,(∀ ys' H',N ys' H'->∃ m',m' < m/\W (i + 1) m' ys' H')/\∀ x H',(Ite K a).yld i H x H'->g x (cO n none++σ) H' fun σ2 H2=>σ2.drop n=σ/\tc σ2 H2 fun b H3 =>
        if b=true then te σ2 H3 fun y H4=>N (ys++[y]) H4 else N ys H3)):=by
  refine ⟨fun i m ys H=>m=xs.length - i/\i<=xs.length/\Pv i ys H,⟨xs.length,by simp,bK _,h0⟩,?_⟩
  rintro i m ys H ⟨rfl,hi,p⟩
  obtain ⟨q,z⟩:=hl i ys H hi p
  refine ⟨z,?_⟩
  by_cases hlt:i < xs.length
  · refine .inr ⟨⟨xs,xs[i],q,by simp [hlt]⟩,Pv (i + 1),fun ys' H' p'=>⟨xs.length - (i + 1),by omega,rfl,hlt,p'⟩,fun x H' y=>?_⟩
    obtain ⟨t,v,rfl,ht,hv,rfl⟩:=y
    exact hs i v t ys H (hv xs q) p ht
  · have e:i=xs.length:=by omega
    subst e
    exact .inl ⟨⟨xs,q,aL _⟩,hd ys H p⟩
end
section
variable {prog:aW} {w:bO} {A:bZ} {E:aa->aj->Prop} {s:aj}
theorem um {a:ae} {vs:List aa} {n:Nat} {b:Bool} {P:Fin->aj->Prop} (ho:s.heap.get? a=some (dS "list" vs.toArray n)) (h2:vs.length < 2)
    (h:P (.done (.ret .none)) {s with heap:=sortedHeap s.heap a vs vs.toArray}) :
    aZ (bD prog w) A (iV.«list.sort» ⟨[.ref a],[(jN "reverse",.bool b)]⟩) P E s:=by
  rw [list_sort_rev]
  have ha:a < s.heap.objs.size:=aT ho
  refine ai (listItems_at ho rfl ?_)
  refine ai (sE ho rfl ?_)
  obtain ⟨e1,ho1⟩:∃ e1,(s.heap.update a (dh fun _=>#[])).get? a=some (dS "list" #[] e1):=⟨_,get?_update_seq ho (fun _=>#[])⟩
  refine ai (wF ho1 rfl ?_)
  refine ai (wpAny_newTuple ?_)
  refine ai (sF ?_)
  refine eV ?_
  have ho6:(((s.heap.update a (dh fun _=>#[])).push (dS "tuple" vs.toArray 0)).push (dS "list" #[] 0)).get? a=some (dS "list" #[] e1):=by
    rw [gk _ _ _ (by rw [tG,gA]; exact aU (jO ha)),gk _ _ _ (by rw [gA]; exact aU ha)]
    exact ho1
  have one:((if b=true then (if b=true then (vs.toArray.zip vs.toArray).reverse else vs.toArray.zip vs.toArray).map (·.2) |>.reverse else (if b=true then (vs.toArray.zip vs.toArray).reverse else vs.toArray.zip vs.toArray).map (·.2)):Array aa)=vs.toArray:=by
    match vs,h2 with
    | [],_=>cases b <;> simp
    | [v],_=>cases b <;> simp
  show aZ (bD prog w) A _ P E {s with heap:=((s.heap.update a (dh fun _=>#[])).push (dS "tuple" vs.toArray 0)).push (dS "list" #[] 0)}
  dsimp only
  have step:∀ t:Sem Fin,aZ (bD prog w) A t P E {s with heap:=((s.heap.update a (dh fun _=>#[])).push (dS "tuple" vs.toArray 0)).push (dS "list" #[] 0)} ->
      aZ (bD prog w) A (if b=true then (do let _ <- Ey "list.sort.reverse"; t) else t) P E {s with heap:=((s.heap.update a (dh fun _=>#[])).push (dS "tuple" vs.toArray 0)).push (dS "list" #[] 0)}:=by
    intro t ht
    split
    · exact ai (yq ht)
    · exact ht
  refine step _ ?_
  have h2':vs.toArray.size < 2:=by simpa using h2
  rw [if_pos h2',if_pos h2']
  refine ai (aY ?_)
  rw [StateT.run_pure]
  refine ai (aY ?_)
  dsimp only
  refine ai (wF ho6 rfl ?_)
  have one':(if b=true then (Array.map (fun x=>x.snd) (arrOf (JO general' (if b=true then (vs.toArray.zip vs.toArray).reverse else vs.toArray.zip vs.toArray) #[] 7 none))).reverse else Array.map (fun x=>x.snd) (arrOf (JO general' (if b=true then (vs.toArray.zip vs.toArray).reverse else vs.toArray.zip vs.toArray) #[] 7 none)))=vs.toArray:=one
  rw [one']
  refine ai (sE ho6 rfl ?_ (hsz2:=by rw [ny]; omega))
  simp only [bne_self_eq_false,qA,if_false]
  exact aY h
theorem yA {l:ae} {vs:List aa} {b:Bool} {Q:aa->aj->Prop} (hl:s.heap.IsList l vs.toArray) (h2:vs.length < 2)
    (h:Q (.ref (s.heap.objs.size + 1)) {s with heap:=Bk s.heap vs vs.toArray}) :
    aZ (bD prog w) A (vx (.builtin "sorted") [.ref l] [(jN "reverse",.bool b)]) Q E s:=by
  refine Ck kind_sorted plain_sorted entry_sorted (args_sorted_rev _ _) ?_
  unfold iV.«sorted»
  refine ai (m:=checkCount "sorted" 1 1 _) (aY ?_)
  refine ai (collect_list hl ?_)
  refine ai (sF ?_)
  have hsz:((s.heap.push (dS "list" #[] 0)).update s.heap.objs.size (dh (·++vs.toArray))).objs.size=s.heap.objs.size + 1:=by
    rw [gA,tG]
  have hoL:(((s.heap.push (dS "list" #[] 0)).update s.heap.objs.size (dh (·++vs.toArray))).push (dS "list" vs.toArray 0)).get? (s.heap.objs.size + 1)=some (dS "list" vs.toArray 0):=by
    rw [<- hsz]; exact cB _ rfl
  show aZ _ _ _ _ _ {s with heap:=((s.heap.push (dS "list" #[] 0)).update s.heap.objs.size (dh (·++vs.toArray))).push (dS "list" vs.toArray 0)}
  rw [hsz]
  refine ai (eV (GY slot_list_sort ⟨_,hoL,rfl⟩ entry_list_sort (um hoL h2 ⟨_,rfl,?_⟩) (Io _ _)))
  exact aY ⟨_,rfl,h⟩
end
section
variable {X:Cx} {e:dv} {t:TA} {p pos kp bp:Pos} {j:Nat}
end
section
variable {X:Cx}
def tTryE (T:ae->St->Hp->Prop) (tb:TS) (th:TH) (te:TS):TS:=fun D σ H=>tb {D with nx:=te D} σ H/\∀ C σ' H',σ'.length=σ.length->T C σ' H'->th C D σ' H'
theorem E7 {body orelse:List dP} {h₀:r9} {hs:List r9} {pos:Pos} {tb te:TS} {th:TH} (T:ae->St->Hp->Prop) (hb:∀ pins,PSs (X.tr pins T) body tb) (hh:PHs X (h₀ :: hs) th) (ho:PSs X orelse te)
    (hst:X.stack=X.env :: X.outer:=by rfl) (hfr:X.env.frame=some X.env.locals:=by rfl):PS X (.Try body (h₀ :: hs) orelse [] pos) (tTryE T tb th te):=by
  intro pins s σ H D I h
  obtain ⟨h1,h2⟩:=h
  refine wpAny_Try_except (eP (hb pins [] s σ H {D with nx:=te D} (I.tr T) h1) (fun f s1 q=>?_) (fun e s1 q=>?_))
  · cases f with
    | next=>obtain ⟨σ',H',J,q⟩:=q; exact ho pins s1 σ' H' D J.untr q
    | ret v=>obtain ⟨v,σ',H',J,r,q⟩:=q; exact ⟨v,σ',H',J.untr,r,q⟩
    | brk=>obtain ⟨σ',H',J,q⟩:=q; exact ⟨σ',H',J.untr,q⟩
    | cont=>obtain ⟨σ',H',J,q⟩:=q; exact ⟨σ',H',J.untr,q⟩
  · obtain ⟨ea,C,B,σ',H',rfl,J,fl,cov,t⟩:=q
    have fl1:FlD B (X.env :: X.outer) ea (.ref C) .none s1.heap:=by
      rw [<- hst]
      exact fl
    refine zp (by rw [J.ok.frames,hst]) hfr fl1 fun h4 x4 s4=>?_
    refine p8 x4 fun h5 fl5 s5=>?_
    have J5:=J.landed fl5.1 cov (s4.trans s5)
    rw [<- hst] at fl5
    exact hh pins _ σ' H' D ea C B J5 fl5 (vI.land J fl5.1 cov) (h2 C σ' H' (by rw [J.len,I.len]) t)
end
abbrev xf (A:bZ):bZ:={A with handled:=none}
structure oz (P:aW) (w:bO) (K:ag) (mg:Str->Option aa) (base:cE) (CX:CXT) (k:Nat) (f:ae) (fd:cu) (ps:List Str) (sp:Sp):Prop where
  len:∀ vs H Q E,sp vs H Q E->vs.length=ps.length
  run:∀ (A:bZ) (outer:List Env) (s:aj) (H:Hp) (args:Args) (us:List aa) (vs:List V) (Q:VK) (E:XK),eA k (xf A)->vz P w K mg base A outer s H->t9 s fd args (ps.zip us)->df vs us->sp vs H Q E ->
    nA (bD P w) A (.call (.ref f) args) (CR CX outer P w H s Q E) s
theorem Iq {CX:CXT} {P:aW} {w:bO} {K:ag} {mg:Str->Option aa} {base:cE} {k:Nat} {f:ae} {name qual:Str} {params:Arguments} {body:List dP} {scope:kS} {dV kV doc pm cdv ct oc:aa} {an od:Option ae}
    {osl:Array (Option aa)} {N ps:List Str} {sp:Sp} (lk:K.lookup f=some ⟨oc,od,.func (aO name qual params body scope dV kV doc pm an cdv ct),osl⟩) (hcd:aK K cdv qual=true) (S:bY N ps scope)
    (len:∀ vs H Q E,sp vs H Q E->vs.length=ps.length)
    (hbody:∀ (A:bZ) (outer:List Env) (s:aj) (H:Hp) (vs:List V) (Q:VK) (E:XK),sp vs H Q E ->
      ∃ t,PSs {qM CX P w K mg base N qual scope f cdv A outer s H E with calm:=false} body t/\t {nx:=fun _ H'=>Q .non H',rt:=Q} (start N vs) H) :
    oz P w K mg base CX (k + 1) f (aO name qual params body scope dV kV doc pm an cdv ct) ps sp:=by
  refine ⟨len,fun A outer s H args us vs Q E hr e0 hb r hsp=>?_⟩
  have hl:=len _ _ _ _ hsp
  have KX:K.In s.heap:=e0.mod.kin.keeps fun b o e=>(e0.bs b o e).1
  have lim:s.heap.NoLimit:=e0.mod.nolimit.keeps fun b o e=>(e0.bs b o e).1
  have hkind:∀ y∈ps.zip us,scope.names.lookup y.1=some .local\/(scope.names.lookup y.1=some .cell/\((Bb (s.heap.objs.size + 1) scope.names []).lookup y.1).isSome=true):=fun ⟨n,v⟩ hy=>by
    rcases S.par n (nX hy).1 with q | q
    · exact .inl q
    · exact .inr ⟨q,mI _ _ _ (.inl q)⟩
  refine Ej (A:=A) hr.depth (KX _ _ lk) rfl S.co S.gen rfl (yc KX hcd) (hb _ _ _ _ ?_)
  refine yd S.kind hkind fun env he s1 x=>?_
  subst he
  refine ⟨lim.keeps x.toInCall.keep,codeAny_func ?_⟩
  obtain ⟨t,ht,hq⟩:=hbody A outer s H vs Q E hsp
  have e1:vz P w K mg base (xf A) outer s H:=⟨e0.frames,e0.mod,e0.bs,e0.bsz,e0.funs,e0.frf,e0.hok,e0.bare⟩
  have I0:Inv (qM CX P w K mg base N qual scope f cdv (xf A) outer s H E) [] (start N vs) H s1:=uG S rfl e1 hl r x
  have I:Inv {qM CX P w K mg base N qual scope f cdv A outer s H E with calm:=false} [] (start N vs) H s1:=
    ⟨⟨I0.ok.mod,I0.ok.kind,I0.ok.glob,I0.ok.blt,I0.ok.above,I0.ok.inj,I0.ok.has,I0.ok.cab,fun z=>rZ z,I0.ok.frames,I0.ok.stk,I0.ok.exf,I0.ok.bs,I0.ok.bsz,I0.ok.noex,I0.ok.exfs,I0.ok.funs,I0.ok.frf⟩,I0.os,I0.bare,I0.base,I0.loc,I0.cell,I0.free,I0.freeC,I0.pin,I0.hok,I0.len⟩
  refine eP (ht [] s1 (start N vs) H _ I hq) (fun fl s' hs=>?_) fun e s' hs=>hs
  have fin:∀ {σ':St} {H':Hp} {v:V} {u:aa},Inv {qM CX P w K mg base N qual scope f cdv A outer s H E with calm:=false} [] σ' H' s'->RelV v u->Q v H'->CE outer P w H s Q u s':=
    fun {σ' H' v u} J rv q=>⟨v,H',J.os,J.bare,J.base,J.hok,rv,q⟩
  cases fl with
  | ret u =>
    obtain ⟨v,σ',H',J,rv,q⟩:=hs
    exact fin J rv q
  | next =>
    obtain ⟨σ',H',J,q⟩:=hs
    exact fin (v:=V.non) (u:=Value.none) J rfl q
  | brk =>
    obtain ⟨_,_,_,q⟩:=hs
    exact cS q
  | cont =>
    obtain ⟨_,_,_,q⟩:=hs
    exact cS q
theorem Fun.okH {P:aW} {w:bO} {K:ag} {mg:Str->Option aa} {base:cE} {x qual:Str} {st:dP} {f:ae} {fd:cu} {N ps:List Str} {k:Nat} {sp:Sp} (F:Fun K x qual st f fd) (S:bY N ps (aF st)) (len:∀ vs H Q E,sp vs H Q E->vs.length=ps.length)
    (hbody:∀ (cdv:aa) (A:bZ) (outer:List Env) (s:aj) (H:Hp) (vs:List V) (Q:VK) (E:XK),sp vs H Q E ->
      ∃ t,PSs {qM CX0 P w K mg base N qual (aF st) f cdv A outer s H E with calm:=false} (bP st) t/\t {nx:=fun _ H'=>Q .non H',rt:=Q} (start N vs) H):oz P w K mg base CX0 (k + 1) f fd ps sp:=by
  obtain ⟨oc,od,kV,doc,pm,an,cdv,ct,osl,rfl,lk,hcd⟩:=F.ex
  exact Iq lk hcd S len fun A outer s H vs Q E hsp=>hbody cdv A outer s H vs Q E hsp
theorem E8 {X:Cx} {CX:CXT} {k:Nat} {f:ae} {fd:cu} {ps:List Str} {sp:Sp} {E:XK} {pins:List (ae×Obj)} {σ:St} {H:Hp} {s:aj} {Q:VK} {us:List aa} {vs:List V} (F:oz X.prog X.w X.K X.mg X.base CX k f fd ps sp) (hr:eA k (xf X.A)) (hb:Binds X.K fd ps []) (hx:lN CX X E)
    (I:Inv X pins σ H s) (r:df vs us) (h:sp vs H Q E):aZ (bD X.prog X.w) X.A (vx (.ref f) us) (EP X pins σ Q) X.xe s:=by
  have hl:(us++[]).length=ps.length:=by rw [dC,<- r.length]; exact F.len _ _ _ _ h
  have hb1:=hb s us I.kIn hl
  rw [dC] at hb1
  refine yb (lW (F.run X.A X.stack s H ⟨us,[]⟩ us vs Q E hr I.env0 hb1 r h) fun r s' hq=>?_)
  cases r with
  | error e=>exact hx pins σ H s e s' I hq
  | ok fl =>
    cases fl with
    | ret u=>exact I.after hq
    | next=>exact cS hq
    | brk=>exact cS hq
    | cont=>exact cS hq
section
variable {X:Cx} {CX:CXT} {k:Nat} {ι:Type} {fm C:ι->ae} {fd:ι->cu} {ps:List Str} {sp:ι->Sp} {E:XK} {m:Str} {pos apos:Pos} {o:dv} {ta:TE}
def E9 (C:ι->ae) (sp:ι->Sp) (E:XK) (ta:TE):TE:=fun σ H Q=>ta σ H fun x H1=>∃ a i,x=.ref a/\H1 a=some (XO a (C i))/\sp i [.ref a] H1 Q E
theorem AI {pl:Sem Bool} (he:PE X o ta) (c:∀ i,uj X.K (C i)) (hm:∀ i,j5 X.K (C i) m (fm i)) (F:∀ i,oz X.prog X.w X.K X.mg X.base CX k (fm i) (fd i) ps (sp i)) (hr:eA k (xf X.A)) (hb:∀ i,Binds X.K (fd i) ps []) (hx:lN CX X E)
    (ht:fV (.Call (.Attribute o m apos) [] [] pos) X.env=(do
      let ov <- fV o X.env
      t8 apos.atName
      let (f,first) <- pB [ov] (mr ov m pl)
      x6 pos f first (i9 pos (cH [] X.env)) (mH pos (jd [] X.env))):=by rfl) :
    PE X (.Call (.Attribute o m apos) [] [] pos) (E9 C sp E ta):=by
  intro pins s σ H Q I h
  refine jG (pl:=pl) (thn (he pins s σ H _ I h) fun u s1 ⟨x,H1,I1,rx,a,i,ex,ea,q⟩=>?_) ht
  subst ex
  obtain rfl:u=Value.ref a:=rx
  obtain ⟨ox,J⟩:=(Ih I1.hok ea).inst
  refine Ca I1.kIn J (c i) (hm i).at_ (beq_iff_eq.mp (hm i).fn) ?_
  exact xI (first:=[.ref a]) I1.kIn (hm i).kp (E8 (us:=[.ref a]) (vs:=[.ref a]) (F i) hr (hb i) hx I1 (.cons rfl .nil) q)
end
end L2
namespace L2
open PySem PySem.Spec PyProof.Rows
section
variable {X:Cx}
def rSlS:V->Option Int->Option Int->Hp->VK->Prop:=fun x lo hi H Q=>∃ y,x=.str y/\y.length<=aJ/\Q (.str (pR y lo hi)) H
theorem Ir:SlR X rSlS:=by
  intro pins s σ H x v vl vu lo hi sl Q I rx hs pl pu h
  obtain ⟨y,rfl,hy,q⟩:=h
  obtain ⟨t,rfl⟩:=rx
  have fin:∀ (l u:Option (Int×Tok)),pR y (l.map (·.1)) (u.map (·.1))=pR y lo hi->s.heap.IsSlice sl l u none->∃ T id,yg (.type T) "__getitem__"=pure (some (.builtin id))/\s.TypeIs (.str y t) T/\aZ (bD X.prog X.w) X.A (pE (.str y t) (.ref sl)) (EP X pins σ Q) X.xe s:=fun l u e h=>by
    refine ⟨"str",_,F.slot_str_getitem.lookup,HU _ _ _,wpAny_getItem_str_slice (l:=l) (u:=u) (st:=none) h rfl (post_val_or_str ⟨cT (Txt.slice_le y (l.map (·.1)) (u.map (·.1))) hy,fun t' k=>?_⟩)⟩
    exact ⟨.str (pR y lo hi),H,I.tok _,⟨t',by rw [<- e]; rfl⟩,q⟩
  cases pl with
  | none=>cases pu with
    | none=>exact fin none none rfl hs
    | int j u=>exact fin none (some (j,u)) rfl hs
  | int i u=>cases pu with
    | none=>exact fin (some (i,u)) none rfl hs
    | int j u'=>exact fin (some (i,u)) (some (j,u')) rfl hs
end
end L2
namespace HT
open PySem PyProof.Rows
open PySem.SeqAt
open PySem.AutoSeq1 (wpAny_loadPart')
open PySem.MeetsSeq PySem.MeetsSeq2 PySem.MeetsSeq3
def Iu (A:bZ) (s:aj) (x y:aa) (g:Bool):Prop:=∀ (prog:aW) (w:bO) (E:aa->aj->Prop) (Q:aa->aj->Prop),Q (.bool g) s->aZ (bD prog w) A (qO .Gt x y) Q E s
theorem Fb (l b:ae) (x y:aa) (xs ys:List aa) (n m:Nat) (dd de:Option ae) (sl sm:Array (Option aa)) (g:Bool) :
    Meets (iV.«tuple.__gt__» ⟨[.ref l,.ref b],[]⟩)
      (fun A R s=>s.heap.get? l=some {cls:=.type "tuple",dict:=dd,data:=.seq (x :: xs).toArray n,slots:=sl}/\s.heap.get? b=some {cls:=.type "tuple",dict:=de,data:=.seq (y :: ys).toArray m,slots:=sm}/\EqAt A.in1 s x y false/\Iu A.in1 s x y g/\R (.ok (.ret (.bool g))) s):=
  .of_wp fun prog w A R s h=>by
    obtain ⟨hp,gg,d,tk,os⟩:=s
    obtain ⟨hl,hb,he,hg,h⟩:=h
    have f2:=lD
    wp_walk using dQ hl,dQ hb,o6 _ (fun rest b s'=>b.1=none/\s'=⟨hp,gg,d,tk,os⟩/\∃ rest',rest=(x,y) :: rest') _
    case turn =>
      rintro ⟨y',x'⟩ rest b s' ⟨hb',rfl,rest',hz⟩
      injection hz with hyx hrest
      injection hyx with hy hx
      subst hy hx
      refine ai (he prog w _ _ ?_)
      have hri:∀ (E:aa->aj->Prop) (Q:aa->aj->Prop),Q (.bool g) ⟨hp,gg,d,tk,os⟩->aZ (bD prog w) A.in1 (qO .Gt _ _) Q E ⟨hp,gg,d,tk,os⟩:=fun E Q q=>hg prog w E Q q
      wp_walk using hri
      exact ⟨_,rfl,by simpa using h⟩
    case fin =>
      rintro ⟨b1,b2⟩ s' ⟨hb',rfl,rest',hz⟩
      cases hz
    case h =>
      exact ⟨rfl,rfl,xs.zip ys,by simp⟩
theorem gtAt_heads {A:bZ} {s:aj} {l b:ae} {x y:aa} {xs ys:List aa} {g:Bool} (hl:qD s.heap l (x :: xs).toArray) (hb:qD s.heap b (y :: ys).toArray) (hu:A.units < eB) (he:EqAt A.in1 s x y false) (hg:Iu A.in1 s x y g):Iu A s (.ref l) (.ref b) g:=fun prog w E Q h=>by
  obtain ⟨⟨c1,dd,t1,sl⟩,o1,rfl,n,rfl⟩:=id hl
  obtain ⟨⟨c2,de,t2,sm⟩,o2,rfl,m,rfl⟩:=id hb
  exact pD (op:=.Gt) ⟨_,o1,rfl⟩ ⟨_,o2,rfl⟩ wD vO (uO _ _) (Fb l b x y xs ys n m dd de sl sm g)
    ⟨o1,o2,he,hg,show Value.bool g≠Value.notImplemented/\Q (.bool g) s from ⟨(fun x=>nomatch x),h⟩⟩ hu
end HT
namespace L2
open PySem PySem.Spec PyProof.Rows
section
variable {X:Cx}
def rGtH:R2:=fun x y H Q=>∃ a b ka kb ns ms ra rb,x=.ref a/\y=.ref b/\H a=some (.tup (.ref ka :: ra))/\H b=some (.tup (.ref kb :: rb))/\H ka=some (.tup (ns.map V.int))/\H kb=some (.tup (ms.map V.int))/\ns≠ms/\Q (.bl (HT.lexLt ms ns)) H
theorem Iv (hu:X.A.units + 1 < eB):OpR X (dI .Gt) rGtH:=by
  intro pins s σ H x y v u Q I rx ry h
  obtain ⟨a,b,ka,kb,ns,ms,ra,rb,rfl,rfl,ha,hb,hka,hkb,ne,q⟩:=h
  cases rx
  cases ry
  obtain ⟨its,r1,p1,_⟩:=I.tuple (SqT.of ha)
  obtain ⟨its2,r2,p2,_⟩:=I.tuple (SqT.of hb)
  obtain ⟨k1,s1,q1,_⟩:=I.tuple (SqT.of hka)
  obtain ⟨k2,s2,q2,_⟩:=I.tuple (SqT.of hkb)
  have i1:fi k1.toArray.toList ns:=intsAre_of s1
  have i2:fi k2.toArray.toList ms:=intsAre_of s2
  have hu1:X.A.in1.units < eB:=hu
  have e:=uP (A:=X.A.in1) I.hok hu1 hka hkb
  rw [decide_eq_false ne] at e
  cases r1 with
  | cons w1 r1 =>
    cases r2 with
    | cons w2 r2 =>
      cases w1
      cases w2
      exact HT.gtAt_heads p1 p2 (by omega) e (fun prog w E Q h=>HT.gt_tup q1 q2 i1 i2 hu1 h) _ _ _ _ ⟨.bl (HT.lexLt ms ns),H,I,rfl,q⟩
end
end L2
namespace L2
open PySem PySem.W PyProof.Rows HT
def iL (a b:List Int):Prop:=lexLt b a=false
theorem iL.refl (a:List Int):iL a a:=yv a
theorem iL.trans {a b c:List Int} (h1:iL a b) (h2:iL b c):iL a c:=by
  unfold iL at *
  cases e:lexLt c a with
  | false=>rfl
  | true =>
    cases f:lexLt a b with
    | true =>
      rw [lx_trans e f] at h2
      cases h2
    | false =>
      rw [qc f h1] at e
      rw [e] at h2
      cases h2
theorem iL.of_lt {a b:List Int} (h:lexLt a b=true):iL a b:=lx_asym h
theorem Cm {a b c:List Int} (h:lexLt a b=true) (h2:iL b c):lexLt a c=true:=by
  cases e:lexLt a c with
  | true=>rfl
  | false =>
    have z:iL c a:=e
    have y:=h2.trans z
    unfold iL at y
    rw [h] at y
    cases y
theorem iL.anti {a b:List Int} (h1:iL a b) (h2:iL b a):a=b:=qc h2 h1
def KR {α:Type} (r:Nat->List Int) (n:Nat):KasT α->(α->Prop)->Prop
  | .ret a,Q=>Q a
  | .ask i j k,Q=>(i < n/\j < n/\i≠j)/\KR r n (k (lexLt (r i) (r j))) Q
section
variable {r:Nat->List Int} {n:Nat}
theorem KR.bind {α β:Type} {f:α->KasT β} {Q:β->Prop}:∀ {t:KasT α},KR r n t (fun a=>KR r n (f a) Q)->KR r n (t.bind f) Q
  | .ret _,h=>h
  | .ask _ _ k,⟨h1,h3⟩=>⟨h1,KR.bind h3⟩
theorem KR.sound {α:Type} {cmp:Nat->Nat->(Bool->aj->Prop)->aj->Prop} {s:aj} {Q:α->Prop} (hc:∀ i j (C:Bool->aj->Prop),i < n->j < n->i≠j->C (lexLt (r i) (r j)) s->cmp i j C s):∀ {t:KasT α},KR r n t Q->t.kasWp cmp (fun a s'=>s'=s/\Q a) s
  | .ret _,h=>⟨rfl,h⟩
  | .ask i j k,⟨⟨h1,h2,h4⟩,h3⟩=>hc i j _ h1 h2 h4 (KR.sound hc h3)
theorem Fc {α:Type} {a b:KasT α} {Q:α->Prop} (h:KR r n a Q):KR r n (if true=true then a else b) Q:=by
  rw [if_pos rfl]
  exact h
theorem Fd {α:Type} {a b:KasT α} {Q:α->Prop} (h:KR r n b Q):KR r n (if false=true then a else b) Q:=by
  rw [if_neg (by simp)]
  exact h
def Rk (r:Nat->List Int) (p:Array Nat) (i:Nat):List Int:=r (p.getD i 0)
def Pm (n:Nat) (p:Array Nat):Prop:=p.Perm (eS n).toArray
theorem Pm.size {p:Array Nat} (h:Pm n p):p.size=n:=by
  have:=h.size_eq
  simpa using this
theorem Pm.lt {p:Array Nat} (h:Pm n p) {i:Nat} (hi:i < n):p.getD i 0 < n:=by
  have hs:i < p.size:=by rw [h.size]; exact hi
  have e:p.getD i 0=p[i]:=by simp [nc,hs]
  rw [e]
  have m:p[i]∈p.toList:=by simp
  have z:=(iM.mp h).mem_iff.mp m
  simpa using z
theorem Pm.two {p:Array Nat} (h:Pm n p) {i j:Nat} (hi:i < n) (hj:j < n) (ne:i≠j):p.getD i 0 < n/\p.getD j 0 < n/\p.getD i 0≠p.getD j 0:=by
  refine ⟨h.lt hi,h.lt hj,?_⟩
  have nd:p.toList.Nodup:=(iM.mp h).nodup_iff.mpr (by simpa using List.nodup_range)
  have h1:i < p.size:=by rw [h.size]; exact hi
  have h2:j < p.size:=by rw [h.size]; exact hj
  have e1:p.getD i 0=p.toList[i]'(by simpa using h1):=by simp [nc,h1]
  have e2:p.getD j 0=p.toList[j]'(by simpa using h2):=by simp [nc,h2]
  rw [e1,e2]
  intro z
  rcases Cn ne with c | c
  · exact cQ.mp nd i j _ _ c z
  · exact cQ.mp nd j i _ _ c z.symm
theorem pH (p:Array Nat) (i:Nat):p.getD i 0=(p[i]?).getD 0:=by
  by_cases h:i < p.size
  · simp [nc,h]
  · simp [nc,h]
theorem Pm.rev {p:Array Nat} (h:Pm n p) (i j:Nat):Pm n (JP p i j):=(mirror_perm _ _ _ _).trans h
theorem Pm.bub {p:Array Nat} (h:Pm n p) (i j:Nat):Pm n (bubble p i j):=(bubble_perm _ _ _).trans h
theorem yB {p:Array Nat} {i j:Nat} (hj:j<=p.size) (k:Nat):Rk r (JP p i j) k=if i<=k/\k < j then Rk r p (i + j - 1 - k) else Rk r p k:=by
  unfold Rk JP
  rw [pH,getElem?_mirror_all hj,pH,pH]
  split <;> rfl
theorem Co {p:Array Nat} {src d:Nat} (hs:src < p.size) (hd:d<=src) (k:Nat):Rk r (bubble p src d) k=if k=src - d then Rk r p src else if src - d < k/\k<=src then Rk r p (k - 1) else Rk r p k:=by
  unfold Rk
  rw [pH,getElem?_bubble hs d hd,pH,pH,pH]
  repeat' split
  all_goals rfl
theorem qU {p:Array Nat} {i j:Nat} (hj:j<=p.size) (heq:∀ k,i<=k->k < j->Rk r p k=Rk r p (j - 1)) (k:Nat):Rk r (JP p i j) k=Rk r p k:=by
  rw [yB hj]
  split
  · rw [heq k (by omega) (by omega),heq _ (by omega) (by omega)]
  · rfl
def Srt (r:Nat->List Int) (p:Array Nat) (m:Nat):Prop:=∀ i j,i<=j->j < m->iL (Rk r p i) (Rk r p j)
def Fal (r:Nat->List Int) (p:Array Nat) (m:Nat):Prop:=∀ i j,i<=j->j < m->iL (Rk r p j) (Rk r p i)
theorem Srt.one (p:Array Nat):Srt r p 1:=fun i j h1 h2=>by
  have:i=j:=by omega
  subst this
  exact iL.refl _
theorem Srt.up {p:Array Nat} {x:Nat} (h1:1<=x) (h:Srt r p x) (l:iL (Rk r p (x - 1)) (Rk r p x)):Srt r p (x + 1):=fun i j hij hj=>by
  by_cases c:j < x
  · exact h i j hij c
  · have:j=x:=by omega
    subst this
    by_cases d:i=j
    · subst d
      exact iL.refl _
    · exact (h i (j - 1) (by omega) (by omega)).trans l
theorem Fal.up {p:Array Nat} {x:Nat} (h1:1<=x) (h:Fal r p x) (l:iL (Rk r p x) (Rk r p (x - 1))):Fal r p (x + 1):=fun i j hij hj=>by
  by_cases c:j < x
  · exact h i j hij c
  · have:j=x:=by omega
    subst this
    by_cases d:i=j
    · subst d
      exact iL.refl _
    · exact l.trans (h i (j - 1) (by omega) (by omega))
theorem Fal.eq {p p':Array Nat} {m:Nat} (e:∀ k,Rk r p' k=Rk r p k) (h:Fal r p m):Fal r p' m:=fun i j a b=>by
  rw [e,e]
  exact h i j a b
theorem yC {p:Array Nat} (hp:Pm n p) {N:Nat} (hN:N<=n) {Q:Nat->Prop} (h:∀ q,1<=q->q<=N->Srt r p q->(q=N\/lexLt (Rk r p q) (Rk r p (q - 1))=true)->Q q):∀ (f m:Nat),1<=m->m + f=N->Srt r p m->KR r n (kas_asc p f m) Q
  | 0,m,h1,hf,hs=>h m h1 (by omega) hs (.inl (by omega))
  | f + 1,m,h1,hf,hs=>by
    refine ⟨hp.two (by omega) (by omega) (by omega),?_⟩
    cases e:lexLt (r (p.getD m 0)) (r (p.getD (m - 1) 0)) with
    | true=>exact h m h1 (by omega) hs (.inr e)
    | false=>exact yC hp hN h f (m + 1) (by omega) (by omega) (hs.up h1 e)
theorem sI {N:Nat} (hN:N<=n) {Q:Array Nat×Nat×Nat->Prop} {m0:Nat} (h:∀ p m q,Pm n p->m0<=m->m<=N->Fal r p m->q + 1<=m->(∀ i,m - (q + 1)<=i->i < m->Rk r p i=Rk r p (m - 1))->Q (p,m,q)) :
    ∀ (f:Nat) (p:Array Nat) (m q:Nat),Pm n p->1<=m->m0<=m->m + f=N->Fal r p m->q + 1<=m->(∀ i,m - (q + 1)<=i->i < m->Rk r p i=Rk r p (m - 1))->KR r n (kas_desc f p m q) Q
  | 0,p,m,q,hp,h1,h0,hf,hs,hq,he=>h p m q hp h0 (by omega) hs hq he
  | f + 1,p,m,q,hp,h1,h0,hf,hs,hq,he=>by
    refine ⟨hp.two (by omega) (by omega) (by omega),?_⟩
    have hsz:m<=p.size:=by rw [hp.size]; omega
    cases e:lexLt (r (p.getD m 0)) (r (p.getD (m - 1) 0)) with
    | true =>
      refine Fc ?_
      have up:=hs.up h1 (iL.of_lt e)
      by_cases c:q > 0
      · rw [if_pos c]
        exact sI hN h f _ (m + 1) 0 (hp.rev _ _) (by omega) (by omega) (by omega) (up.eq (qU hsz he)) (by omega) (fun i a b=>by congr 1; omega)
      · rw [if_neg c]
        exact sI hN h f p (m + 1) 0 hp (by omega) (by omega) (by omega) up (by omega) (fun i a b=>by congr 1; omega)
    | false =>
      refine Fd ?_
      refine ⟨hp.two (by omega) (by omega) (by omega),?_⟩
      cases d:lexLt (r (p.getD (m - 1) 0)) (r (p.getD m 0)) with
      | true =>
        refine Fc ?_
        exact h p m q hp h0 (by omega) hs hq he
      | false =>
        refine Fd ?_
        have eq:Rk r p m=Rk r p (m - 1):=qc e d
        refine sI hN h f p (m + 1) (q + 1) hp (by omega) (by omega) (by omega) (hs.up h1 (by rw [eq]; exact iL.refl _)) (by omega) (fun i a b=>?_)
        rw [show m + 1 - 1=m by omega]
        by_cases c:i=m
        · subst c
          rfl
        · rw [eq]
          exact he i (by omega) (by omega)
theorem xg {N:Nat} (hN:N<=n) {Q:Nat×Array Nat->Prop} (h:∀ m p,Pm n p->1<=m->m<=N->Srt r p m->Q (m,p)) {p:Array Nat} {m:Nat} (hp:Pm n p) (h1:1<=m) (hm:m<=N) (hs:Fal r p m):KR r n (kas_tail3 m N p) Q:=by
  unfold kas_tail3
  have hsz:m<=p.size:=by rw [hp.size]; omega
  refine KR.bind (yC (hp.rev 0 m) hN (fun q a b c _=>?_) (N - m) m h1 (by omega) fun i j hij hj=>?_)
  · exact h q _ (hp.rev 0 m) a b c
  · rw [yB hsz,yB hsz,if_pos (by omega),if_pos (by omega)]
    exact hs _ _ (by omega) (by omega)
theorem rC {N:Nat} (hN:N<=n) {Q:Nat×Array Nat->Prop} (h:∀ m p,Pm n p->1<=m->m<=N->Srt r p m->Q (m,p)) {p:Array Nat} {m:Nat} (hp:Pm n p) (hm:m + 1<=N) (hs:Fal r p (m + 1)):KR r n (kas_descPart m N p) Q:=by
  unfold kas_descPart
  refine KR.bind (sI (m0:=m + 1) hN (fun p' m' q hp' a b hs' hq he=>?_) (N - (m + 1)) p (m + 1) 0 hp (by omega) (aL _) (by omega) hs (by omega) (fun i a b=>by congr 1; omega))
  dsimp only
  have hsz:m'<=p'.size:=by rw [hp'.size]; omega
  by_cases c:q > 0
  · rw [if_pos c]
    exact xg hN h (hp'.rev _ _) (by omega) b (hs'.eq (qU hsz he))
  · rw [if_neg c]
    exact xg hN h hp' (by omega) b hs'
theorem Cp {Q:Nat×Array Nat->Prop} (h:∀ m p,Pm n p->1<=m->m<=n->Srt r p m->Q (m,p)) {p:Array Nat} (hp:Pm n p) (h1:1<=n):KR r n (kas_count n p) Q:=by
  unfold kas_count
  refine KR.bind (yC hp (aL n) (fun m m1 mn hs hor=>?_) (n - 1) 1 (aL _) (by omega) (Srt.one p))
  by_cases c:m=n
  · rw [if_pos (by simpa using c)]
    exact h m p hp m1 mn hs
  · rw [if_neg (by simpa using c)]
    have hlt:=hor.resolve_left c
    by_cases g:m > 1
    · rw [if_pos g]
      refine ⟨hp.two (by omega) (by omega) (by omega),?_⟩
      cases e:lexLt (r (p.getD 0 0)) (r (p.getD (m - 1) 0)) with
      | true =>
        refine Fc ?_
        exact h m p hp m1 mn hs
      | false =>
        refine Fd ?_
        have hsz:m<=p.size:=by rw [hp.size]; omega
        have hall:∀ k,0<=k->k < m->Rk r p k=Rk r p (m - 1):=fun k _ hk=>by
          have a1:=hs 0 k (by omega) hk
          have a2:=hs k (m - 1) (by omega) (by omega)
          exact a2.anti (iL.trans (show iL (Rk r p (m - 1)) (Rk r p 0) from e) a1)
        refine rC (aL n) h (hp.rev _ _) (by omega) (Fal.eq (qU hsz hall) ?_)
        refine Fal.up (by omega) (fun i j hij hj=>?_) (iL.of_lt hlt)
        rw [hall i (by omega) (by omega),hall j (by omega) hj]
        exact iL.refl _
    · rw [if_neg g]
      have:m=1:=by omega
      subst this
      exact rC (aL n) h hp (by omega) (Fal.up (aL _) (fun i j a b=>by
        have:i=j:=by omega
        subst this
        exact iL.refl _) (iL.of_lt hlt))
theorem tH {p:Array Nat} {k:Nat} (hp:Pm n p) (hk:k < n) (hs:Srt r p k) {Q:Nat->Prop} (h:∀ l,l<=k->(∀ i,i < l->iL (Rk r p i) (Rk r p k))->(∀ i,l<=i->i < k->lexLt (Rk r p k) (Rk r p i)=true)->Q l) :
    ∀ (f l q:Nat),l<=q->q<=k->q - l<=f->(∀ i,i < l->iL (Rk r p i) (Rk r p k))->(∀ i,q<=i->i < k->lexLt (Rk r p k) (Rk r p i)=true)->KR r n (kas_place p k f l q) Q
  | 0,l,q,a,b,c,lo,hi=>by
    have:l=q:=by omega
    subst this
    exact h l b lo hi
  | f + 1,l,q,a,b,c,lo,hi=>by
    unfold kas_place
    by_cases d:l ≥ q
    · rw [if_pos d]
      have:l=q:=by omega
      subst this
      exact h l b lo hi
    · rw [if_neg d]
      refine ⟨hp.two hk (by omega) (by omega),?_⟩
      cases e:lexLt (r (p.getD k 0)) (r (p.getD ((l + q) / 2) 0)) with
      | true =>
        refine Fc ?_
        exact tH hp hk hs h f l _ (by omega) (by omega) (by omega) lo fun i h1 h2=>Cm e (hs _ _ h1 h2)
      | false =>
        refine Fd ?_
        exact tH hp hk hs h f _ q (by omega) (by omega) (by omega) (fun i h1=>(hs i ((l + q) / 2) (by omega) (by omega)).trans e) hi
theorem Cq {Q:Array Nat->Prop} (h:∀ p,Pm n p->Srt r p n->Q p):∀ (f:Nat) (p:Array Nat) (k:Nat),Pm n p->k + f=n->Srt r p k->KR r n (kas_bin f p k) Q
  | 0,p,k,hp,hf,hs=>h p hp (by rw [<- hf]; exact hs)
  | f + 1,p,k,hp,hf,hs=>by
    unfold kas_bin
    refine KR.bind (tH hp (by omega) hs (fun l hl lo hi=>?_) k 0 k (bK _) (aL _) (by omega) (fun i h=>absurd h (by omega)) (fun i a b=>absurd b (by omega)))
    refine Cq h f _ (k + 1) (hp.bub _ _) (by omega) fun i j hij hj=>?_
    have hks:k < p.size:=by rw [hp.size]; omega
    rw [Co hks (by omega),Co hks (by omega),show k - (k - l)=l by omega]
    repeat' split
    all_goals first
      | (exfalso; omega)
      | exact iL.refl _
      | exact lo _ (by omega)
      | exact iL.of_lt (hi _ (by omega) (by omega))
      | exact hs _ _ (by omega) (by omega)
theorem Fe (h1:1<=n):KR r n (kas_sort n) (fun p=>Pm n p/\Srt r p n):=by
  unfold kas_sort
  refine KR.bind (Cp (fun m p hp m1 mn hs=>?_) (Array.Perm.refl _) h1)
  dsimp only
  by_cases c:m < n
  · rw [if_pos c]
    refine Cq (fun p hp hs=>⟨hp,hs⟩) _ p (max m 1) hp (by omega) ?_
    rw [show max m 1=m by omega]
    exact hs
  · rw [if_neg c]
    have:m=n:=by omega
    subst this
    exact ⟨hp,hs⟩
end
end L2
namespace L2
open PySem PySem.W PySem.Spec PyProof.Rows HT
section
variable {prog:aW} {w:bO} {A:bZ} {E:aa->aj->Prop} {s:aj}
theorem rS {h0:cE} {a:ae} {vs:List aa} {n:Nat} {b:Bool} {P:Fin->aj->Prop} {r:Nat->List Int} (ho:s.heap.get? a=some (dS "list" vs.toArray n)) (k0:∀ c o,h0.get? c=some o->s.heap.get? c=some o) (ha0:h0.get? a=none) (h2:2<=vs.length) (h64:vs.length < 64)
    (hk:∀ h':cE,(∀ c o,h0.get? c=some o->h'.get? c=some o)->∀ Q:SortKind->aj->Prop,Q (xR false) {s with heap:=h'}->aZ (bD prog w) A (keyKind' vs.toArray) Q E {s with heap:=h'})
    (hc:∀ h':cE,(∀ c o,h0.get? c=some o->h'.get? c=some o)->∀ i j (C:Bool->aj->Prop),i < vs.length->j < vs.length->i≠j->C (lexLt (r i) (r j)) {s with heap:=h'}->kas_ask prog w A (xR false) (kK b vs) i j C {s with heap:=h'})
    (h:∀ p,Pm vs.length p->Srt r p vs.length->P (.done (.ret .none)) {s with heap:=sortedHeap s.heap a vs (rD (kK b (p.toList.map fun i=>(kK b vs).getD i Value.none)))}) :
    aZ (bD prog w) A (iV.«list.sort» ⟨[.ref a],[(jN "reverse",.bool b)]⟩) P E s:=by
  rw [list_sort_rev]
  have ha:a < s.heap.objs.size:=aT ho
  refine ai (listItems_at ho rfl ?_)
  refine ai (sE ho rfl ?_)
  obtain ⟨e1,ho1⟩:∃ e1,(s.heap.update a (dh fun _=>#[])).get? a=some (dS "list" #[] e1):=⟨_,get?_update_seq ho (fun _=>#[])⟩
  refine ai (wF ho1 rfl ?_)
  refine ai (wpAny_newTuple ?_)
  refine ai (sF ?_)
  refine eV ?_
  have ho6:(((s.heap.update a (dh fun _=>#[])).push (dS "tuple" vs.toArray 0)).push (dS "list" #[] 0)).get? a=some (dS "list" #[] e1):=by
    rw [gk _ _ _ (by rw [tG,gA]; exact aU (jO ha)),gk _ _ _ (by rw [gA]; exact aU ha)]
    exact ho1
  have old6:∀ c o,h0.get? c=some o->(((s.heap.update a (dh fun _=>#[])).push (dS "tuple" vs.toArray 0)).push (dS "list" #[] 0)).get? c=some o:=fun c o e=>by
    have lt:c < s.heap.objs.size:=aT (k0 c o e)
    have ne:c≠a:=fun z=>by
      rw [z,ha0] at e
      cases e
    rw [gk _ _ _ (by rw [tG,gA]; exact aU (jO lt)),gk _ _ _ (by rw [gA]; exact aU lt),AJ _ _ _ _ ne]
    exact k0 c o e
  show aZ (bD prog w) A _ P E {s with heap:=((s.heap.update a (dh fun _=>#[])).push (dS "tuple" vs.toArray 0)).push (dS "list" #[] 0)}
  dsimp only
  have step:∀ t:Sem Fin,aZ (bD prog w) A t P E {s with heap:=((s.heap.update a (dh fun _=>#[])).push (dS "tuple" vs.toArray 0)).push (dS "list" #[] 0)} ->
      aZ (bD prog w) A (if b=true then (do let _ <- Ey "list.sort.reverse"; t) else t) P E {s with heap:=((s.heap.update a (dh fun _=>#[])).push (dS "tuple" vs.toArray 0)).push (dS "list" #[] 0)}:=by
    intro t ht
    split
    · exact ai (yq ht)
    · exact ht
  refine step _ ?_
  have h2':¬ vs.toArray.size < 2:=by
    rw [aD]
    omega
  rw [if_neg h2',if_neg h2']
  refine ai (hk _ old6 _ ?_)
  rw [kat_pairs b rfl]
  have el:=kat_len b vs
  refine ai (eP (kat_run (ks:=kK b vs) (vs:=kK b vs) (κ:=xR false) (Q:=fun st' s'=>∃ p:Array Nat,arrOf st'=p.map (kas_item ((kK b vs).toArray.zip (kK b vs).toArray))/\failedOf st'=none/\s'={s with heap:=((s.heap.update a (dh fun _=>#[])).push (dS "tuple" vs.toArray 0)).push (dS "list" #[] 0)}/\Pm vs.length p/\Srt r p vs.length) (G:=fun p s'=>s'={s with heap:=((s.heap.update a (dh fun _=>#[])).push (dS "tuple" vs.toArray 0)).push (dS "list" #[] 0)}/\Pm vs.length p/\Srt r p vs.length) rfl (by rw [el]; exact h2) (by rw [el]; exact h64) (fun p st' s' hp har hf hg=>⟨p,har,hf,hg⟩) (by
    rw [el]
    exact KR.sound (hc _ old6) (Fe (by omega)))) ?_ fun _ _ e=>e)
  rintro ⟨⟨⟩,st'⟩ s' ⟨p,har,hf,rfl,hpm,hsr⟩
  dsimp only
  have out:=kat_snds (ks:=kK b vs) (vs:=kK b vs) rfl har
  refine ai (wF ho6 rfl ?_)
  rw [out,kat_outs]
  have lp:(kK b (p.toList.map fun i=>(kK b vs).getD i Value.none)).length < 64:=by
    rw [kat_len,ah,gp,hpm.size]
    exact h64
  refine ai (sE ho6 rfl ?_ (hsz2:=by rw [aD,ny]; omega))
  rw [hf]
  simp only [bne_self_eq_false,qA,if_false]
  exact aY (h p hpm hsr)
theorem sorted_N {l:ae} {vs:List aa} {b:Bool} {Q:aa->aj->Prop} {r:Nat->List Int} (hl:s.heap.IsList l vs.toArray) (h2:2<=vs.length) (h64:vs.length < 64)
    (hk:∀ (A':bZ) (E:aa->aj->Prop) (h':cE),A'.units<=A.units + 2->(∀ c o,s.heap.get? c=some o->h'.get? c=some o)->∀ Q:SortKind->aj->Prop,Q (xR false) {s with heap:=h'}->aZ (bD prog w) A' (keyKind' vs.toArray) Q E {s with heap:=h'})
    (hc:∀ (A':bZ) (h':cE),A'.units<=A.units + 2->(∀ c o,s.heap.get? c=some o->h'.get? c=some o)->∀ i j (C:Bool->aj->Prop),i < vs.length->j < vs.length->i≠j->C (lexLt (r i) (r j)) {s with heap:=h'}->kas_ask prog w A' (xR false) (kK b vs) i j C {s with heap:=h'})
    (h:∀ p,Pm vs.length p->Srt r p vs.length->Q (.ref (s.heap.objs.size + 1)) {s with heap:=Bk s.heap vs (rD (kK b (p.toList.map fun i=>(kK b vs).getD i Value.none)))}) :
    aZ (bD prog w) A (vx (.builtin "sorted") [.ref l] [(jN "reverse",.bool b)]) Q E s:=by
  refine Ck kind_sorted plain_sorted entry_sorted (args_sorted_rev _ _) ?_
  unfold iV.«sorted»
  refine ai (m:=checkCount "sorted" 1 1 _) (aY ?_)
  refine ai (collect_list hl ?_)
  refine ai (sF ?_)
  have hsz:((s.heap.push (dS "list" #[] 0)).update s.heap.objs.size (dh (·++vs.toArray))).objs.size=s.heap.objs.size + 1:=by
    rw [gA,tG]
  have hoL:(((s.heap.push (dS "list" #[] 0)).update s.heap.objs.size (dh (·++vs.toArray))).push (dS "list" vs.toArray 0)).get? (s.heap.objs.size + 1)=some (dS "list" vs.toArray 0):=by
    rw [<- hsz]; exact cB _ rfl
  have k0:∀ c o,s.heap.get? c=some o->(((s.heap.push (dS "list" #[] 0)).update s.heap.objs.size (dh (·++vs.toArray))).push (dS "list" vs.toArray 0)).get? c=some o:=fun c o e=>by
    have lt:c < s.heap.objs.size:=aT e
    rw [gk _ _ _ (by rw [hsz]; exact aU (jO lt)),AJ _ _ _ _ (aU lt),gk _ _ _ (aU lt)]
    exact e
  have a0:s.heap.get? (s.heap.objs.size + 1)=none:=by
    cases e:s.heap.get? (s.heap.objs.size + 1) with
    | none=>rfl
    | some o =>
      have:=aT e
      exact absurd this (Nat.not_lt.mpr (gi _))
  show aZ _ _ _ _ _ {s with heap:=((s.heap.push (dS "list" #[] 0)).update s.heap.objs.size (dh (·++vs.toArray))).push (dS "list" vs.toArray 0)}
  rw [hsz]
  refine ai (eV (GY slot_list_sort ⟨_,hoL,rfl⟩ entry_list_sort (rS (h0:=s.heap) (r:=r) hoL k0 a0 h2 h64 (fun h' k Q q=>hk _ _ h' (aL _) k Q q) (fun h' k i j C hi hj ne q=>hc _ h' (aL _) k i j C hi hj ne q) fun p a1 a2=>⟨_,rfl,?_⟩) (Io _ _)))
  exact aY ⟨_,rfl,h p a1 a2⟩
end
end L2
namespace L2
open PySem PySem.W PySem.Spec PyProof.Rows HT
def yD (H:Hp) (z:V×List Int):Prop:=∃ a k ra,z.1=.ref a/\H a=some (.tup (.ref k :: ra))/\H k=some (.tup (z.2.map V.int))
theorem qV:∀ {xs:List V} {its:List aa},df xs its->∀ (i:Nat),i < xs.length->∃ v,its.getD i Value.none=v/\∃ x,xs[i]?=some x/\RelV x v
  | _,_,.nil,i,h=>absurd h (by simp)
  | _,_,.cons a b,0,h=>⟨_,rfl,_,rfl,a⟩
  | _,_,.cons a b,i + 1,h=>by
    obtain ⟨v,e,x,h1,h2⟩:=qV b i (by simpa using h)
    exact ⟨v,by simpa using e,x,by simpa using h1,h2⟩
theorem uR {xs:List V} {its:List aa} (h:df xs its) (d:V):∀ (is:List Nat),(∀ i∈is,i < xs.length)->df (is.map fun i=>(xs.getD i d)) (is.map fun i=>its.getD i Value.none)
  | [],_=>.nil
  | i :: is,hb=>by
    obtain ⟨v,e,x,h1,h2⟩:=qV h i (hb i aC)
    refine .cons ?_ (uR h d is fun j hj=>hb j (af _ hj))
    show RelV (xs.getD i d) (its.getD i Value.none)
    rw [e,dN,h1]
    exact h2
theorem yE {α:Type} (l:List α) (d:α):(eS l.length).map (fun i=>l.getD i d)=l:=by
  apply Cc
  intro i
  rw [cC]
  by_cases h:i < l.length
  · rw [List.getElem?_range h,Cr,dN,aA h]
    rfl
  · rw [gF (by simpa using h),gF (by omega)]
    rfl
def ng:V×List Int:=(.non,[])
theorem Cs {zs:List (V×List Int)} (nd:(zs.map (·.2)).Nodup) {p:Array Nat} (hp:Pm zs.length p) (hs:Srt (fun i=>(zs.reverse.getD i ng).2) p zs.length) :
    ((p.toList.map fun i=>zs.reverse.getD i ng).reverse).Perm zs/\((p.toList.map fun i=>zs.reverse.getD i ng).reverse).Pairwise (fun a b=>HT.lexLt b.2 a.2=true):=by
  have pl:p.toList.Perm (eS zs.length):=by simpa using iM.mp hp
  have pm:(p.toList.map fun i=>zs.reverse.getD i ng).Perm zs:=by
    refine (pl.map _).trans ?_
    have e:=yE zs.reverse ng
    rw [i0] at e
    rw [e]
    exact rG _
  refine ⟨(rG _).trans pm,List.pairwise_reverse.mpr (cQ.mpr fun i j hi hj hij=>?_)⟩
  have nd2:((p.toList.map fun i=>zs.reverse.getD i ng).map (·.2)).Nodup:=(pm.map _).nodup_iff.mpr nd
  have li:i < zs.length:=by
    have:=pm.length_eq
    omega
  have lj:j < zs.length:=by
    have:=pm.length_eq
    omega
  have at_:∀ k (h:k < (p.toList.map fun i=>zs.reverse.getD i ng).length),(p.toList.map fun i=>zs.reverse.getD i ng)[k].2=Rk (fun i=>(zs.reverse.getD i ng).2) p k:=fun k h=>by
    have hk:k < p.size:=by simpa using h
    unfold Rk
    simp [nc,hk]
  have le:=hs i j (kT hij) lj
  have ne:=cQ.mp nd2 i j (by simpa using hi) (by simpa using hj) hij
  rw [at_ i hi,at_ j hj]
  refine lx_of_not le fun z=>ne ((iX _).trans (Eq.trans ?_ (iX _).symm))
  rw [at_ i hi,at_ j hj]
  exact z.symm
section
variable {X:Cx} {e:dv} {t:TA} {p pos kp bp:Pos} {j:Nat}
def Iw (t:TA):TE:=fun σ H Q=>t σ H fun vs H1=>∃ (p:ae) (zs:List (V×List Int)),vs=[.ref p]/\H1 p=some (.lst (zs.map (·.1)))/\(∀ z∈zs,yD H1 z)/\(zs.map (·.2)).Nodup/\zs.length < 64 /\
  ∀ (l:ae) (zs':List (V×List Int)),H1 l=none->zs'.Perm zs->zs'.Pairwise (fun a b=>HT.lexLt b.2 a.2=true)->Q (.ref l) (upd H1 l (.lst (zs'.map (·.1))))
theorem uS {s:aj} {H:Hp} {P:aW} {w:bO} (ok:HOk P w H s.heap):∀ {zs:List (V×List Int)} {its:List aa},df (zs.map (·.1)) its->(∀ z∈zs,yD H z)->∃ fs,KatTups s.heap its fs/\fs.length=its.length/\∀ f∈fs,∃ k o,f=.ref k/\s.heap.get? k=some o/\o.cls=.type "tuple"
  | [],_,r,_=>by
    cases r
    exact ⟨[],KatTups.nil,rfl,fun f hf=>by cases hf⟩
  | z :: zs,_,r,hz=>by
    cases r with
    | cons a b =>
      obtain ⟨fs,h1,h2,h3⟩:=uS ok b fun z hz'=>hz z (af _ hz')
      obtain ⟨ad,k,ra,e1,e2,e3⟩:=hz z aC
      have a:RelV z.1 _:=a
      rw [e1] at a
      cases a
      obtain ⟨us,r1,o1,g1,c1,n1,d1⟩:=gI ok e2
      obtain ⟨ws,r2,o2,g2,c2,n2,d2⟩:=gI ok e3
      cases r1 with
      | cons a1 b1 =>
        cases a1
        refine ⟨.ref k :: fs,KatTups.cons g1 c1 d1 rfl h1,by rw [bj,bj,h2],fun f hf=>?_⟩
        rcases ax.mp hf with y | y
        · exact ⟨k,o2,y,g2,c2⟩
        · exact h3 f y
theorem Ct {ke:dv} (hu:X.A.units + 5 < eB) (hg:Gl X "sorted") (hm:X.mg "sorted"=none) (ha:PA X [e] t) (hk:PE X ke (tC (.bl true))) (he:i9 pos (cH [e] X.env)=[(false,fV e X.env)]:=by rfl)
    (hall:(mH pos (jd [⟨some "reverse",ke,kp⟩] X.env)).all (·.1.isSome)=true:=by rfl) (hkw:(mH pos (jd [⟨some "reverse",ke,kp⟩] X.env)).any (·.1.isNone)=false:=by rfl)
    (hnm:(mH pos (jd [⟨some "reverse",ke,kp⟩] X.env)).filterMap (·.1)=[jN "reverse"]:=by rfl) :
    PE X (.Call (.Name "sorted" p) [e] [⟨some "reverse",ke,kp⟩] pos) (Iw t):=by
  intro pins s σ H Q I h
  refine iA (qF I hg hm boot_sorted ?_)
  refine callWith_kw (thn (ha pos pins s σ H _ I h) fun us s1 ⟨vs,H1,I1,r1,q1⟩=>?_) (by rw [he]; rfl) (by rw [he]; rfl) hall hkw
  obtain ⟨l,zs,rfl,hl,hz,nd,h64,q⟩:=q1
  obtain ⟨u,rfl,ru⟩:=vals1 r1
  cases ru
  refine kws_cons (thn (hk pins s1 σ H1 (fun v H2=>v=.bl true/\H2=H1) I1 (show _/\_ from ⟨rfl,rfl⟩)) fun v s2 hk2=>kws_nil ?_)
  obtain ⟨y,H2,I2,r2,e1,e2⟩:=hk2
  subst e1 e2
  cases r2
  rw [hnm]
  obtain ⟨its,n,rv,ho,hzz⟩:=I2.lst hl
  have hlen:=rv.length
  rw [ah] at hlen
  show aZ _ _ (vx (.builtin "sorted") [.ref l] [(jN "reverse",.bool true)]) _ _ _
  by_cases c:its.length < 2
  · refine yA (l:=l) (vs:=its) ⟨_,ho,rfl,n,rfl⟩ c ?_
    obtain ⟨ep,he'⟩:=sortedAll_at s2.heap its its.toArray
    have two:2<=aJ:=by decide
    have z:=I2.laid (a:=s2.heap.objs.size + 1) (o:=.lst (zs.map (·.1))) (t':=s2.toks) (fun _ _=>sortedAll_old) (gi _) (h':=Bk s2.heap its its.toArray) ⟨by rw [ah]; omega,its,ep,rv,he'⟩
    refine ⟨.ref (s2.heap.objs.size + 1),_,z,rfl,q _ zs (I2.hok.fresh (gi _)) (jt _) ?_⟩
    match zs,hlen with
    | [],_=>exact List.Pairwise.nil
    | [_],_=>exact jw _ _
    | _ :: _ :: _,hlen=>exact absurd c (by rw [<- hlen]; simp)
  · have crev:∀ {α:Type} (l:List α),kK true l=l.reverse:=fun l=>rfl
    refine sorted_N (l:=l) (vs:=its) (r:=fun i=>(zs.reverse.getD i ng).2) ⟨_,ho,rfl,n,rfl⟩ (by omega) (by omega) (fun A' E' h' hA k Q' q'=>?_) (fun A' h' hA k i j C hi hj ne q'=>?_) fun p hp hs=>?_
    · have I3:=(I2.kept (t':=s2.toks) k).hok
      obtain ⟨fs,h1,h2,h3⟩:=uS (s:={s2 with heap:=h'}) I3 rv hz
      refine kat_kind (T:=.type "tuple") h1 (by omega) (fun v hv=>?_) (by rfl) ?_
      · obtain ⟨kk,o,rfl,g,cl⟩:=h3 v hv
        rw [<- cl]
        exact (Looks.ld g).andThen .now
      · exact q'
    · have I3:=(I2.kept (t':=s2.toks) k).hok
      have vr:=rv.reverse
      rw [<- sJ] at vr
      have at_:∀ m,m < its.length->∃ (a kk:ae) (us ws:List aa),its.reverse.getD m Value.none=.ref a/\qD h' a (.ref kk :: us).toArray/\qD h' kk ws.toArray/\fi ws (zs.reverse.getD m ng).2/\H2 kk=some (.tup ((zs.reverse.getD m ng).2.map V.int)):=fun m hm=>by
        have hm':m < zs.reverse.length:=by rw [i0]; omega
        obtain ⟨v,ev,x,hx,rx⟩:=qV vr m (by rw [ah]; exact hm')
        rw [cC,aA hm'] at hx
        cases hx
        have ez:zs.reverse.getD m ng=zs.reverse[m]:=by rw [dN,aA hm']; rfl
        obtain ⟨ad,kk,ra,e1,e2,e3⟩:=hz _ (List.mem_reverse.mp (kf hm'))
        have rx:RelV (zs.reverse[m]).1 v:=rx
        rw [e1] at rx
        cases rx
        obtain ⟨us,r1,t1⟩:=gI (s:={s2 with heap:=h'}) I3 e2
        obtain ⟨ws,r2,t2⟩:=gI (s:={s2 with heap:=h'}) I3 e3
        cases r1 with
        | cons a1 b1 =>
          cases a1
          exact ⟨ad,kk,_,ws,ev,t1,t2,by rw [ez]; exact intsAre_of r2,by rw [ez]; exact e3⟩
      obtain ⟨a1,k1,us1,ws1,g1,t1,u1,i1,m1⟩:=at_ i hi
      obtain ⟨a2,k2,us2,ws2,g2,t2,u2,i2,m2⟩:=at_ j hj
      have neK:(zs.reverse.getD i ng).2≠(zs.reverse.getD j ng).2:=by
        have nd2:((zs.reverse).map (·.2)).Nodup:=((rG zs).map _).nodup_iff.mpr nd
        have h1:i < zs.reverse.length:=by rw [i0]; omega
        have h2:j < zs.reverse.length:=by rw [i0]; omega
        rw [dN,aA h1,dN,aA h2]
        show (zs.reverse[i]).2≠(zs.reverse[j]).2
        rcases Cn ne with c | c
        · exact fun z=>cQ.mp nd2 i j (by simpa using h1) (by simpa using h2) c ((iX _).trans (z.trans (iX _).symm))
        · exact fun z=>cQ.mp nd2 j i (by simpa using h2) (by simpa using h1) c ((iX _).trans (z.symm.trans (iX _).symm))
      have eq:=uP (s:={s2 with heap:=h'}) (A:=A') I3 (by omega) m1 m2
      rw [decide_eq_false neK] at eq
      show aZ _ A' (keyLt' (xR false) (its.reverse.getD i Value.none) (its.reverse.getD j Value.none)) C _ _
      rw [g1,g2]
      obtain ⟨o1,y1,_,n1,d1⟩:=id t1
      obtain ⟨o2,y2,_,n2,d2⟩:=id t2
      refine kat_lt (s:={s2 with heap:=h'}) y1 d1 y2 d2 (kat_cons (eq _ _ _ _ (kat_no (kat_one _ _ (HT.lt_tupInts u1 u2 i1 i2 (by omega) q')))))
    · have hp':Pm zs.length p:=by rw [hlen]; exact hp
      obtain ⟨pk1,pk2⟩:=Cs nd hp' (by rw [hlen]; exact hs)
      have vr:=rv.reverse
      rw [<- sJ] at vr
      have vo:=(uR vr V.non p.toList fun i hi=>by
        rw [ah,i0]
        have:=(iM.mp hp').mem_iff.mp hi
        simpa using this).reverse
      have ev:(p.toList.map fun i=>(zs.reverse.map (·.1)).getD i V.non).reverse=((p.toList.map fun i=>zs.reverse.getD i ng).reverse).map (·.1):=by
        refine Eq.trans ?_ sJ.symm
        rw [eG]
        congr 1
        refine i5 fun i _=>?_
        show (zs.reverse.map (·.1)).getD i V.non=(zs.reverse.getD i ng).1
        rw [dN,cC,dN]
        cases zs.reverse[i]? <;> rfl
      rw [ev] at vo
      obtain ⟨ep,he'⟩:=sortedAll_at s2.heap its (rD (p.toList.map fun i=>its.reverse.getD i Value.none).reverse)
      have z:=I2.laid (a:=s2.heap.objs.size + 1) (o:=.lst (((p.toList.map fun i=>zs.reverse.getD i ng).reverse).map (·.1))) (t':=s2.toks) (fun _ _=>sortedAll_old) (gi _) (h':=Bk s2.heap its (rD (p.toList.map fun i=>its.reverse.getD i Value.none).reverse)) ⟨by
        rw [ah,pk1.length_eq]
        have:64<=aJ:=by decide
        omega,_,ep,vo,he'⟩
      exact ⟨.ref (s2.heap.objs.size + 1),_,z,rfl,q _ _ (I2.hok.fresh (gi _)) pk1 pk2⟩
end
end L2
namespace My
open PySem L2
def top (i:Nat):dP:=PySem.Challenge.pw_momentloom_k18_whole_runs_begin_alike.main.body.getD i (.Pass ⟨0,0,0,0⟩)
abbrev ib:dP:=gz (top 3) 0
abbrev iN:dP:=gz (top 4) 0
abbrev ji:dP:=gz (top 5) 0
abbrev jP:dP:=gz (top 6) 0
abbrev jj:dP:=gz (top 7) 0
abbrev jk:dP:=gz (top 8) 0
abbrev je:dP:=top 10
abbrev eR:dP:=top 11
abbrev fk:dP:=top 12
abbrev dB:dP:=top 13
abbrev iO:dP:=gz (top 15) 0
abbrev gJ:dP:=gz (top 15) 1
abbrev dU:dP:=gz (top 15) 2
abbrev dH:dP:=gz (top 15) 3
abbrev e9:dP:=gz (top 15) 4
abbrev qW:dP:=top 16
abbrev jQ:dP:=top 17
abbrev gj:dP:=top 18
abbrev jm:dP:=top 19
abbrev gO:dP:=top 20
abbrev jR:dP:=top 21
abbrev jS:dP:=top 22
abbrev jT:dP:=top 23
abbrev jU:dP:=top 24
abbrev jV:dP:=top 25
abbrev jW:dP:=top 27
abbrev lZ:dP:=top 28
abbrev j7:dP:=top 30
abbrev iP:dP:=gz (top 31) 0
abbrev gK:dP:=gz (top 32) 0
abbrev gL:dP:=gz (top 32) 1
abbrev ic:dP:=top 33
abbrev jn:dP:=gz (top 35) 0
abbrev eQ:dP:=top 36
abbrev ie:dP:=gz (top 37) 0
abbrev dY:dP:=gz (top 37) 2
abbrev fq:dP:=gz (top 37) 3
abbrev fb:dP:=top 38
abbrev md:dP:=top 39
abbrev oQ:dP:=top 40
abbrev iC:dP:=top 42
abbrev jo:dP:=top 43
abbrev d9:dP:=top 44
abbrev iD:dP:=top 45
abbrev gP:dP:=top 46
abbrev fJ:dP:=top 47
abbrev jf:dP:=top 48
abbrev jg:dP:=top 49
abbrev g9:dP:=top 50
abbrev gQ:dP:=top 51
abbrev iE:dP:=top 52
abbrev iF:dP:=top 53
abbrev jq:dP:=top 54
abbrev xh:dP:=top 55
end My
namespace My
open PySem L2
structure Df (K:ag) (mg:Str->Option aa) (x:Str) (st:dP) (ps:List Str) (f:ae) (fd:cu):Prop where
  F:Fun K x x st f fd
  b:Binds K fd ps []
  m:mg x=some (.ref f)
structure Bl (mg:Str->Option aa):Prop where
  len:mg "len"=none
  abs:mg "abs"=none
  isi:mg "isinstance"=none
  list:mg "list"=none
  tuple:mg "tuple"=none
  str:mg "str"=none
  int:mg "int"=none
  bool:mg "bool"=none
  range:mg "range"=none
  max:mg "max"=none
  dict:mg "dict"=none
theorem boot_abs:fv "abs"=some (.builtin "abs"):=by decide +kernel
theorem qe:fv "isinstance"=some (.builtin "isinstance"):=by decide +kernel
theorem boot_list:fv "list"=some (.type "list"):=by decide +kernel
theorem boot_tuple:fv "tuple"=some (.type "tuple"):=by decide +kernel
theorem boot_int:fv "int"=some (.type "int"):=by decide +kernel
theorem boot_max:fv "max"=some (.builtin "max"):=by decide +kernel
theorem boot_dict:fv "dict"=some (.type "dict"):=by decide +kernel
def But (p:ae) (H H':Hp):Prop:=∀ b o,H b=some o->b≠p->H' b=some o
theorem But.refl (p:ae) (H:Hp):But p H H:=fun _ _ e _=>e
theorem But.trans {p:ae} {H H1 H2:Hp} (a:But p H H1) (b:But p H1 H2):But p H H2:=fun c o e n=>b c o (a c o e n) n
theorem But.upd (p:ae) (H:Hp) (o:HO):But p H (upd H p o):=fun b u e n=>by rw [aV n]; exact e
theorem But.same {p:ae} {H H1 H2:Hp} (a:But p H H1) (b:bT H1 H2):But p H H2:=fun c o e n=>b c o (a c o e n)
theorem aR {H:Hp} {p:ae} (h:H p=none) (o:HO):bT H (upd H p o):=fun b u q=>by rw [aV (aH q h)]; exact q
theorem j8 {c:Prop} [Decidable c] (h:decide c=true):c:=of_decide_eq_true h
theorem kr {c:Prop} [Decidable c] (h:¬ decide c=true):¬ c:=fun z=>h (decide_eq_true z)
theorem lt2:2<=aJ:=by decide
theorem lt5:5<=aJ:=by decide
end My
namespace My
open PySem L2
section
variable {P:aW} {w:bO} {K:ag} {mg:Str->Option aa} {base:cE} {f fM fD:ae} {fd fdM fdD:cu}
def zz:Sp:=fun vs H Q _=>∃ c k:Int,vs=[.int c,.int k]/\eY c<=1048576/\∀ r:Int,Q (.int r) H
theorem AK (x:Int):-(2 ^ 64) < x % 2147483629/\x % 2147483629 < 2 ^ 64:=by
  have h1:=ju x (show (2147483629:Int)≠0 by decide)
  have h2:=il x (show (0:Int) < 2147483629 by decide)
  omega
theorem scM:bY ["_law_cell","_law_k","_law_number"] ["_law_cell","_law_k"] (aF iC):=⟨rfl,rfl,rfl,by decide +kernel,rfl,by decide +kernel,by decide +kernel⟩
theorem Cu (D:Df K mg "_law_mixed" iC ["_law_cell","_law_k"] f fd):bX P w K mg base CX0 1 f fd ["_law_cell","_law_k"] zz:=by
  refine D.F.ok scM (fun vs H Q E h=>?_) (fun cdv A outer s H vs Q E hr h=>?_)
  · obtain ⟨c,k,rfl,_⟩:=h
    rfl
  obtain ⟨c,k,rfl,hc,q⟩:=h
  refine ⟨_,ak (bF (i:=2) scM.nd rfl (Or.inl rfl) (cL nJ (cL mC (cL gW (cL gW (cL gW (cL EW (pv 0) (pv 0)) (cL mC aq (pv 0))) (cL mC aq (pv 1))) aq) aq) aq))
    (aG (bR (cL nJ (cL gW (cL mC (pv 2) (pv 2)) aq) aq))),?_⟩
  refine ⟨_,rfl,_,rfl,_,_,rfl,rfl,.of_bits hc hc,_,rfl,_,_,rfl,rfl,.inl ⟨by decide,by decide⟩,_,_,rfl,rfl,_,rfl,_,_,rfl,rfl,.inl ⟨by decide,by decide⟩,_,_,rfl,rfl,_,_,rfl,rfl,_,_,rfl,rfl,.inr ⟨by decide,by decide⟩,_,_,rfl,rfl,(by show (0:Int) < 2147483629; decide),?_⟩
  refine ⟨_,rfl,_,rfl,_,_,rfl,rfl,.inl (AK _),_,_,rfl,rfl,_,_,rfl,rfl,(by show (0:Int) < 2147483587; decide),?_⟩
  exact q _
def eC (H:Hp) (p:ae):Prop:=∃ x y:Int,H p=some (.lst [.int x,.int y])
theorem eC.same {H H':Hp} {p:ae} (a:eC H p) (b:bT H H'):eC H' p:=by
  obtain ⟨x,y,e⟩:=a
  exact ⟨x,y,b _ _ e⟩
def jX:Sp:=fun vs H Q _=>∃ (p:ae) (n:Int),vs=[.ref p,.int n]/\eC H p/\0 < n/\n < 2 ^ 64/\∀ (r:Int) (H':Hp),0<=r->r < n->eC H' p->But p H H'->Q (.int r) H'
theorem scD:bY ["_law_purse_here","_law_out_of","_law_drawn"] ["_law_purse_here","_law_out_of"] (aF d9):=⟨rfl,rfl,rfl,by decide +kernel,rfl,by decide +kernel,by decide +kernel⟩
theorem j2 (D:Df K mg "_law_draw" d9 ["_law_purse_here","_law_out_of"] f fd):bX P w K mg base CX0 1 f fd ["_law_purse_here","_law_out_of"] jX:=by
  refine D.F.ok scD (fun vs H Q E h=>?_) (fun cdv A outer s H vs Q E hr h=>?_)
  · obtain ⟨p,n,rfl,_⟩:=h
    rfl
  obtain ⟨p,n,rfl,⟨x,y,hp⟩,hn,hn2,q⟩:=h
  refine ⟨_,ak (cZ (bL eO (bN cU (pv 0) aq (fun _ _=>rfl)) aq (cg _)) (aG (vv (bN cU (pv 0) aq (fun _ _=>rfl)) (vt (pv 0) aq pZ))) cq)
    (ak (bF (i:=2) scD.nd rfl (Or.inl rfl) (cL nJ (bN cU (pv 0) aq (fun _ _=>rfl)) (pv 1)))
    (ak (vv (cL tw (bN cU (pv 0) aq (fun _ _=>rfl)) (pv 1)) (vt (pv 0) aq pZ))
    (aG (bR (pv 2))))),?_⟩
  refine ⟨_,rfl,p,_,_,_,rfl,rfl,SqL.of hp,rfl,rfl,_,rfl,?_⟩
  refine iK (fun c=>?_) (fun c=>?_)
  · refine ⟨_,rfl,p,_,_,_,rfl,rfl,SqL.of hp,rfl,_,rfl,p,_,_,_,rfl,rfl,hp,rfl,?_⟩
    have hp1:upd H p (.lst [.int y,.int y]) p=some (.lst [.int y,.int y]):=ao
    refine ⟨_,rfl,p,_,_,_,rfl,rfl,SqL.of hp1,rfl,_,rfl,_,_,rfl,rfl,hn,?_⟩
    refine ⟨_,rfl,p,_,_,_,rfl,rfl,SqL.of hp1,rfl,_,rfl,_,_,rfl,rfl,⟨hn,hn2⟩,_,rfl,p,_,_,_,rfl,rfl,hp1,rfl,?_⟩
    refine ⟨_,rfl,?_⟩
    exact q _ _ (ju _ (by omega)) (il _ hn) ⟨_,_,ao⟩ ((But.upd p H _).trans (But.upd p _ _))
  · refine ⟨_,rfl,p,_,_,_,rfl,rfl,SqL.of hp,rfl,_,rfl,_,_,rfl,rfl,hn,?_⟩
    refine ⟨_,rfl,p,_,_,_,rfl,rfl,SqL.of hp,rfl,_,rfl,_,_,rfl,rfl,⟨hn,hn2⟩,_,rfl,p,_,_,_,rfl,rfl,hp,rfl,?_⟩
    refine ⟨_,rfl,?_⟩
    exact q _ _ (ju _ (by omega)) (il _ hn) ⟨_,_,ao⟩ (But.upd p H _)
def zA (K:ag):Sp:=fun vs H Q _=>∃ (a:ae) (ns:List Int),vs=[.ref a]/\SqL K H a (ns.map V.int)/\ns.length<=63/\(∀ x∈ns,eY x<=1048576)/\∀ (p:ae) (H':Hp),H p=none->eC H' p->bT H H'->Q (.ref p) H'
theorem scP:bY ["_law_script","_law_cells","_law_number","_law_k"] ["_law_script"] (aF jo):=⟨rfl,rfl,rfl,by decide +kernel,rfl,by decide +kernel,by decide +kernel⟩
theorem Ff {xs:List V} {lo hi:Option Int} {v:V} (h:v∈lO xs lo hi):v∈xs:=by
  unfold lO at h
  exact List.mem_of_mem_drop (zB h)
theorem Iy {xs:List V} (h:xs≠[]) (z:Int):∃ v,atI xs (z % (xs.length:Int))=some v/\v∈xs:=by
  have hl:0 < xs.length:=AL.mpr h
  have h0:=ju z (show (xs.length:Int)≠0 by omega)
  have h1:=il z (show (0:Int) < (xs.length:Int) by omega)
  obtain ⟨j,hj⟩:∃ j:Nat,z % (xs.length:Int)=(j:Int):=⟨(z % (xs.length:Int)).toNat,by omega⟩
  rw [hj] at h1 |-
  have hj2:j < xs.length:=by omega
  exact ⟨xs[j],gy (aA hj2),kf hj2⟩
theorem Cv (D:Df K mg "_law_purse" jo ["_law_script"] f fd) (DM:Df K mg "_law_mixed" iC ["_law_cell","_law_k"] fM fdM) (B:Bl mg):bX P w K mg base CX0 2 f fd ["_law_script"] (zA K):=by
  have GM:bX P w K mg base CX0 1 fM fdM ["_law_cell","_law_k"] zz:=Cu DM
  refine D.F.ok scP (fun vs H Q E h=>?_) (fun cdv A outer s H vs Q E hr h=>?_)
  · obtain ⟨a,ns,rfl,_⟩:=h
    rfl
  obtain ⟨a,ns,rfl,hS,hlen,hbits,q⟩:=h
  refine ⟨_,ak (bF (i:=1) scP.nd rfl (Or.inl rfl) (cL BX (hV oO (pv 0) j1 (iu aq)) (fy (au aq aw))))
    (ak (bF (i:=2) scP.nd rfl (Or.inl rfl) aq)
    (ak (iz cI rfl (jK rfl B.range (au aq aw)) (eD (i:=3) scP.nd rfl (Or.inl rfl))
      (aG (bF (i:=2) scP.nd rfl (Or.inl rfl) (cL gW (cL mC (pv 2) aq) (aS GM hr rfl DM.m DM.F.kp DM.b .nil bS (au (bN cU (pv 1) (cL nJ (pv 3) (cX hJ (by rfl) B.len cm (au (pv 1) aw))) (fun _ _=>rfl)) (au (pv 3) aw)))))))
    (ak (cZ (bL eO (cL nJ (bN cU (pv 1) aq (fun _ _=>rfl)) aq) aq (cg _))
      (aG (bR (fy (au (cX (Aq rfl) (by rfl) B.max boot_max (au (cL tw (bN cU (pv 1) aq (fun _ _=>rfl)) aq) (au (cL jc (By xX aq) (cL tw (bN cU (pv 1) aq (fun _ _=>rfl)) aq)) aw))) (au (pv 2) aw))))) cq)
    (aG (bR (fy (au (pv 2) (au (pv 2) aw)))))))),?_⟩
  -- cells = script[:63] + [0]
  refine ⟨_,rfl,_,rfl,a,_,rfl,hS,fun l hl=>⟨(by show 1<=aJ; decide),fun m hm=>?_⟩⟩
  have hlm:l≠m:=aH (ao:upd H l (.lst (lO (ns.map V.int) none (some 63))) l=_) hm
  have cl:(lO (ns.map V.int) none (some 63)).length<=63:=cT (n6 _ _ _) (by rw [ah]; exact hlen)
  have l64:(lO (ns.map V.int) none (some 63)).length + [V.int 0].length<=aJ:=by
    have z:64<=aJ:=by decide
    rw [yk]
    omega
  refine ⟨l,m,_,_,rfl,rfl,(by rw [aV hlm]; exact ao),ao,l64,fun c hc=>?_⟩
  generalize hcs:lO (ns.map V.int) none (some 63)++[V.int 0]=cs at hc |-
  have sc:bT H (upd (upd (upd H l (.lst (lO (ns.map V.int) none (some 63)))) m (.lst [.int 0])) c (.lst cs)):=(aR hl _).trans ((aR hm _).trans (aR hc _))
  generalize hH:upd (upd (upd H l (.lst (lO (ns.map V.int) none (some 63)))) m (.lst [.int 0])) c (.lst cs)=H1 at sc |-
  have hc1:H1 c=some (.lst cs):=by rw [<- hH]; exact ao
  have nonil:cs≠[]:=by rw [<- hcs]; simp
  have cells:∀ v∈cs,∃ z:Int,v=.int z/\eY z<=1048576:=fun v hv=>by
    rw [<- hcs] at hv
    rcases b8.mp hv with z | z
    · obtain ⟨n,hn,rfl⟩:=cN.mp (Ff z)
      exact ⟨n,rfl,hbits n hn⟩
    · rw [aM.mp z]
      exact ⟨0,rfl,by decide⟩
  -- number = 1; for k in range(150)
  refine ⟨150,rfl,by decide,by decide,kA (n:=150) (fun i σ H2=>∃ (z:Int) (v:Option V),σ=[some (.ref a),some (.ref c),some (.int z),v]/\H2=H1) ⟨1,none,rfl,rfl⟩ ?_ ?_⟩
  · rintro i σ H2 hi ⟨z,v,rfl,rfl⟩
    obtain ⟨u,hu,hm2⟩:=Iy nonil (0 + (i:Int))
    obtain ⟨y,rfl,hy⟩:=cells u hm2
    have lpos:(0:Int) < (cs.length:Int):=by
      have:=AL.mpr nonil
      omega
    refine ⟨_,rfl,_,_,rfl,rfl,.inr ⟨by decide,by decide⟩,_,rfl,_,rfl,_,rfl,c,_,rfl,.inl (SqL.of hc1),_,_,rfl,rfl,lpos,c,_,_,_,rfl,rfl,SqL.of hc1,hu,_,rfl,y,_,rfl,hy,fun r=>?_⟩
    exact ⟨_,_,rfl,rfl,_,_,rfl,rfl⟩
  · rintro σ H2 ⟨z,v,rfl,rfl⟩
    obtain ⟨x0,hx0⟩:∃ x0,cs[0]?=some x0:=by
      cases cs with
      | nil=>exact absurd rfl nonil
      | cons x0 r=>exact ⟨x0,rfl⟩
    obtain ⟨y,rfl,hy⟩:=cells x0 (bQ hx0)
    have a0:atI cs 0=some (.int y):=gy (j:=0) hx0
    refine ⟨_,rfl,c,_,_,_,rfl,rfl,SqL.of hc1,a0,_,_,rfl,rfl,(by show (0:Int) < 2; decide),rfl,_,rfl,?_⟩
    have two:GG y 2:=⟨by decide,by decide⟩
    refine iK (fun _=>?_) (fun _=>?_)
    · refine ⟨_,rfl,c,_,_,_,rfl,rfl,SqL.of hc1,a0,_,_,rfl,rfl,two,_,rfl,_,rfl,c,_,_,_,rfl,rfl,SqL.of hc1,a0,_,_,rfl,rfl,two,_,_,rfl,rfl,_,_,rfl,_,rfl,lt2,fun p hp=>?_⟩
      exact q p _ (sc.free hp) ⟨_,_,ao⟩ (sc.trans (aR hp _))
    · refine ⟨_,rfl,_,rfl,lt2,fun p hp=>?_⟩
      exact q p _ (sc.free hp) ⟨_,_,ao⟩ (sc.trans (aR hp _))
end
end My
namespace My
open PySem L2
def yF:V->Prop
  | .int _=>True
  | .str _=>True
  | _=>False
def Tree (H:Hp):Nat->V->Prop
  | 0,v=>yF v
  | n + 1,v=>yF v\/∃ p xs,v=.ref p/\(H p=some (.lst xs)\/H p=some (.tup xs))/\xs.length < 1000/\∀ x∈xs,Tree H n x
def Alike (H H':Hp):Nat->V->V->Prop
  | 0,v,v'=>v'=v
  | n + 1,v,v'=>(yF v/\v'=v)\/(∃ p p' xs ys,v=.ref p/\v'=.ref p'/\H p=some (.lst xs)/\H' p'=some (.lst ys)/\aX (Alike H H' n) xs ys) \/
      ∃ p p' xs ys,v=.ref p/\v'=.ref p'/\H p=some (.tup xs)/\H' p'=some (.tup ys)/\aX (Alike H H' n) xs ys
theorem Alike.mono {H H1 H2:Hp} (s:bT H1 H2):∀ {n:Nat} {v v':V},Alike H H1 n v v'->Alike H H2 n v v'
  | 0,_,_,h=>h
  | n + 1,v,v',h=>by
    rcases h with h | ⟨p,p',xs,ys,e1,e2,h1,h2,r⟩ | ⟨p,p',xs,ys,e1,e2,h1,h2,r⟩
    · exact .inl h
    · exact .inr (.inl ⟨p,p',xs,ys,e1,e2,h1,s _ _ h2,L2.Paired.imp' (fun _ _ z=>Alike.mono s z) r⟩)
    · exact .inr (.inr ⟨p,p',xs,ys,e1,e2,h1,s _ _ h2,L2.Paired.imp' (fun _ _ z=>Alike.mono s z) r⟩)
theorem Tree.same {H H1:Hp} (s:bT H H1):∀ {n:Nat} {v:V},Tree H n v->Tree H1 n v
  | 0,_,h=>h
  | n + 1,v,h=>by
    rcases h with h | ⟨p,xs,e,h1,h2,h3⟩
    · exact .inl h
    · exact .inr ⟨p,xs,e,h1.imp (s _ _) (s _ _),h2,fun x hx=>Tree.same s (h3 x hx)⟩
theorem Alike.from {H H0 H1:Hp} (s:bT H H0):∀ {n:Nat} {v v':V},Tree H n v->Alike H0 H1 n v v'->Alike H H1 n v v'
  | 0,_,_,_,h=>h
  | n + 1,v,v',t,h=>by
    rcases t with t | ⟨q,zs,e,t1,t2,t3⟩
    · rcases h with h | ⟨p,p',xs,ys,e1,e2,h1,h2,r⟩ | ⟨p,p',xs,ys,e1,e2,h1,h2,r⟩
      · exact .inl h
      · rw [e1] at t
        exact t.elim
      · rw [e1] at t
        exact t.elim
    · rcases h with h | ⟨p,p',xs,ys,e1,e2,h1,h2,r⟩ | ⟨p,p',xs,ys,e1,e2,h1,h2,r⟩
      · exact .inl h
      · rw [e] at e1
        cases e1
        rcases t1 with t1 | t1
        · have z:=s _ _ t1
          rw [h1] at z
          cases z
          refine .inr (.inl ⟨q,p',zs,ys,e,e2,t1,h2,?_⟩)
          clear h1 t1 t2 h2
          induction r with
          | nil=>exact .nil
          | cons a b ih=>exact .cons (Alike.from s (t3 _ aC) a) (ih fun x hx=>t3 x (af _ hx))
        · have z:=s _ _ t1
          rw [h1] at z
          cases z
      · rw [e] at e1
        cases e1
        rcases t1 with t1 | t1
        · have z:=s _ _ t1
          rw [h1] at z
          cases z
        · have z:=s _ _ t1
          rw [h1] at z
          cases z
          refine .inr (.inr ⟨q,p',zs,ys,e,e2,t1,h2,?_⟩)
          clear h1 t1 t2 h2
          induction r with
          | nil=>exact .nil
          | cons a b ih=>exact .cons (Alike.from s (t3 _ aC) a) (ih fun x hx=>t3 x (af _ hx))
theorem Cw {K:ag}:gx K (.type "int") (.type "list")=some false:=by kernel_rfl
theorem Cy {K:ag}:gx K (.type "str") (.type "list")=some false:=by kernel_rfl
theorem Cz {K:ag}:gx K (.type "int") (.type "tuple")=some false:=by kernel_rfl
theorem CA {K:ag}:gx K (.type "str") (.type "tuple")=some false:=by kernel_rfl
theorem Iz {K:ag}:gx K (.type "list") (.type "list")=some true:=by rfl
theorem IA {K:ag}:gx K (.type "tuple") (.type "list")=some false:=by kernel_rfl
theorem IB {K:ag}:gx K (.type "tuple") (.type "tuple")=some true:=by rfl
section
variable {P:aW} {w:bO} {K:ag} {mg:Str->Option aa} {base:cE} {f fC fI CM CS:ae} {fd fdC fdI:cu}
def oA (n:Nat):Sp:=fun vs H Q _=>∃ v,vs=[v]/\Tree H n v/\∀ (v':V) (H':Hp),bT H H'->Alike H H' n v v'->Q v' H'
theorem scC:bY ["thing"] ["thing"] (aF j7):=⟨rfl,rfl,rfl,by decide +kernel,rfl,by decide +kernel,by decide +kernel⟩
theorem zC:(["part","thing"]:List Str).Nodup:=by decide +kernel
theorem uT {α β:Type} {R:α->β->Prop} {xs:List α} {ys:List β} {i:Nat} {x:α} {y:β} (r:aX R (xs.take i) ys) (hx:xs[i]?=some x) (h:R x y):aX R (xs.take (i + 1)) (ys++[y]):=by
  have e:xs.take (i + 1)=xs.take i++[x]:=by rw [gR,hx]; rfl
  rw [e]
  exact eU r h
theorem xi {n:Nat} (D:Df K mg "copied" j7 ["thing"] f fd) (B:Bl mg) (G:bX P w K mg base CX0 (n + 1) f fd ["thing"] (oA n)):bX P w K mg base CX0 (n + 2) f fd ["thing"] (oA (n + 1)):=by
  refine D.F.ok scC (fun vs H Q E h=>?_) (fun cdv A outer s H vs Q E hr h=>?_)
  · obtain ⟨v,rfl,_⟩:=h
    rfl
  obtain ⟨v,rfl,ht,q⟩:=h
  refine ⟨_,ak (cZ (qG (cX lE (by rfl) B.isi qe (au (pv 0) (au (rW (v:=.ty "list") (by rfl) B.list boot_list rfl) aw))))
      (aG (bR (p9 ["part"] (jv.closed (by decide +kernel) (by decide +kernel) rfl (by decide +kernel) (by intro n hn; rcases aM.mp hn with rfl; decide +kernel)) rfl (ip (pv 0)) (fun _ _ _ _=>eD (i:=0) zC rfl (Or.inl rfl)) (fun _ _ _ _=>mK)
        (fun _ _ _ _=>aS G hr rfl D.m D.F.kp D.b .nil bS (au (pv 0) aw))))) cq)
    (ak (cZ (qG (cX lE (by rfl) B.isi qe (au (pv 0) (au (rW (v:=.ty "tuple") (by rfl) B.tuple boot_tuple rfl) aw))))
      (aG (bR (jL uf (by rfl) B.tuple boot_tuple (au (p9 ["part"] (jv.closed (by decide +kernel) (by decide +kernel) rfl (by decide +kernel) (by intro n hn; rcases aM.mp hn with rfl; decide +kernel)) rfl (HH (pv 0)) (fun _ _ _ _=>eD (i:=0) zC rfl (Or.inl rfl)) (fun _ _ _ _=>mK)
        (fun _ _ _ _=>aS G hr rfl D.m D.F.kp D.b .nil bS (au (pv 0) aw))) aw)))) cq)
    (aG (bR (pv 0)))),?_⟩
  have big:1000 < aJ:=by decide
  rcases ht with ht | ⟨p,xs,rfl,hp,hl,hx⟩
  · cases v with
    | int i =>
      refine ⟨_,rfl,_,"list",_,false,rfl,.int i,Cw,_,rfl,hW ?_⟩
      refine ⟨_,rfl,_,"tuple",_,false,rfl,.int i,Cz,_,rfl,hW ?_⟩
      exact ⟨_,rfl,q _ _ (bT.refl H) (.inl ⟨trivial,rfl⟩)⟩
    | str x =>
      refine ⟨_,rfl,_,"list",_,false,rfl,.str x,Cy,_,rfl,hW ?_⟩
      refine ⟨_,rfl,_,"tuple",_,false,rfl,.str x,CA,_,rfl,hW ?_⟩
      exact ⟨_,rfl,q _ _ (bT.refl H) (.inl ⟨trivial,rfl⟩)⟩
    | non=>exact ht.elim
    | bl b=>exact ht.elim
    | byt b=>exact ht.elim
    | flt b=>exact ht.elim
    | ref a=>exact ht.elim
    | ty a=>exact ht.elim
  · rcases hp with hp | hp
    · refine ⟨_,rfl,_,"list",_,true,rfl,.lst hp,Iz,_,rfl,iJ ?_⟩
      refine ⟨_,rfl,p,rfl,⟨_,SqL.of hp⟩,oP (K:=K) (a:=p) (xs:=xs) (fun i ys H1=>i<=xs.length/\ys.length=i/\bT H H1/\aX (Alike H H1 n) (xs.take i) ys) ⟨bK _,rfl,bT.refl H,.nil⟩ ?_ ?_ ?_⟩
      · rintro i ys H1 hi ⟨_,h1,h2,_⟩
        exact ⟨SqL.of (h2 _ _ hp),by omega⟩
      · rintro i x ys H1 hi ⟨h0,h1,h2,h3⟩
        have hm:x∈xs:=bQ hi
        have lt:i < xs.length:=(aB.mp hi).1
        refine ⟨rfl,?_⟩
        unfold w6
        refine iJ ?_
        refine ⟨_,rfl,x,rfl,Tree.same h2 (hx x hm),fun v' H2 s2 al=>?_⟩
        exact ⟨lt,by rw [aI,h1]; rfl,h2.trans s2,uT (L2.Paired.imp' (fun _ _ z=>Alike.mono s2 z) h3) hi (Alike.from h2 (hx x hm) al)⟩
      · rintro ys H1 ⟨_,h1,h2,h3⟩ l hl'
        rw [eI] at h3
        refine q _ _ (h2.trans (aR hl' _)) (.inr (.inl ⟨p,l,xs,ys,rfl,rfl,hp,ao,L2.Paired.imp' (fun _ _ z=>Alike.mono (aR hl' _) z) h3⟩))
    · refine ⟨_,rfl,_,"list",_,false,rfl,.tup hp,IA,_,rfl,hW ?_⟩
      refine ⟨_,rfl,_,"tuple",_,true,rfl,.tup hp,IB,_,rfl,iJ ?_⟩
      refine ⟨_,rfl,p,rfl,⟨_,SqT.of hp⟩,B3 (K:=K) (a:=p) (xs:=xs) (Q:=fun v H1=>∃ z ys,[v]=[V.ref z]/\((SqL K H1 z ys/\∀ l,H1 l=none->Q (.ref l) (upd H1 l (.tup ys)))\/(SqT K H1 z ys/\Q (.ref z) H1))) (fun i ys H1=>i<=xs.length/\ys.length=i/\bT H H1/\aX (Alike H H1 n) (xs.take i) ys) ⟨bK _,rfl,bT.refl H,.nil⟩ ?_ ?_ ?_⟩
      · rintro i ys H1 hi ⟨_,h1,h2,_⟩
        exact ⟨SqT.of (h2 _ _ hp),by omega⟩
      · rintro i x ys H1 hi ⟨h0,h1,h2,h3⟩
        have hm:x∈xs:=bQ hi
        have lt:i < xs.length:=(aB.mp hi).1
        refine ⟨rfl,?_⟩
        unfold w6
        refine iJ ?_
        refine ⟨_,rfl,x,rfl,Tree.same h2 (hx x hm),fun v' H2 s2 al=>?_⟩
        exact ⟨lt,by rw [aI,h1]; rfl,h2.trans s2,uT (L2.Paired.imp' (fun _ _ z=>Alike.mono s2 z) h3) hi (Alike.from h2 (hx x hm) al)⟩
      · rintro ys H1 ⟨_,h1,h2,h3⟩ l hl'
        rw [eI] at h3
        refine ⟨l,ys,rfl,.inl ⟨SqL.of ao,fun t ht=>?_⟩⟩
        have s3:bT H1 (upd (upd H1 l (.lst ys)) t (.tup ys)):=(aR hl' _).trans (aR ht _)
        exact q _ _ (h2.trans s3) (.inr (.inr ⟨p,t,xs,ys,rfl,rfl,hp,ao,L2.Paired.imp' (fun _ _ z=>Alike.mono s3 z) h3⟩))
theorem xj (D:Df K mg "copied" j7 ["thing"] f fd) (B:Bl mg):bX P w K mg base CX0 1 f fd ["thing"] (oA 0):=by
  refine D.F.ok scC (fun vs H Q E h=>?_) (fun cdv A outer s H vs Q E hr h=>?_)
  · obtain ⟨v,rfl,_⟩:=h
    rfl
  obtain ⟨v,rfl,ht,q⟩:=h
  refine ⟨_,ak (cZ (qG (cX lE (by rfl) B.isi qe (au (pv 0) (au (rW (v:=.ty "list") (by rfl) B.list boot_list rfl) aw)))) ux cq)
    (ak (cZ (qG (cX lE (by rfl) B.isi qe (au (pv 0) (au (rW (v:=.ty "tuple") (by rfl) B.tuple boot_tuple rfl) aw)))) ux cq)
    (aG (bR (pv 0)))),?_⟩
  have ht:yF v:=ht
  cases v with
  | int i =>
    refine ⟨_,rfl,_,"list",_,false,rfl,.int i,Cw,_,rfl,hW ?_⟩
    refine ⟨_,rfl,_,"tuple",_,false,rfl,.int i,Cz,_,rfl,hW ?_⟩
    exact ⟨_,rfl,q _ _ (bT.refl H) rfl⟩
  | str x =>
    refine ⟨_,rfl,_,"list",_,false,rfl,.str x,Cy,_,rfl,hW ?_⟩
    refine ⟨_,rfl,_,"tuple",_,false,rfl,.str x,CA,_,rfl,hW ?_⟩
    exact ⟨_,rfl,q _ _ (bT.refl H) rfl⟩
  | non=>exact ht.elim
  | bl b=>exact ht.elim
  | byt b=>exact ht.elim
  | flt b=>exact ht.elim
  | ref a=>exact ht.elim
  | ty a=>exact ht.elim
theorem uU (D:Df K mg "copied" j7 ["thing"] f fd) (B:Bl mg):∀ n:Nat,bX P w K mg base CX0 (n + 1) f fd ["thing"] (oA n)
  | 0=>xj D B
  | n + 1=>xi D B (uU D B n)
structure MdT (K:ag) (mg:Str->Option aa) (CM CS:ae):Prop where
  clM:Cls K CM
  clS:Cls K CS
  nM:e8 K CM "machines"
  nB:e8 K CS "boxes"
  nQ:e8 K CS "queues"
  nD:e8 K CS "drawn"
  nS:e8 K CS "sent"
  mM:mg "Model"=some (.ref CM)
  mS:mg "State"=some (.ref CS)
def spMI (CM:ae) (n:Nat):Sp:=fun vs H Q _=>∃ (m dx:ae) (v:V),vs=[.ref m,v]/\H m=some (.ins CM dx [])/\Tree H n v/\∀ (v':V) (H':Hp),bT H H'->Alike H H' n v v'->Q .non (upd H' m (.ins CM dx (dD "machines" v' [])))
theorem scMI:bY ["self","machines"] ["self","machines"] (aF iP):=⟨rfl,rfl,rfl,by decide +kernel,rfl,by decide +kernel,by decide +kernel⟩
theorem ok_MI {n:Nat} (F:Fun K "__init__" "Model.__init__" iP f fd) (DC:Df K mg "copied" j7 ["thing"] fC fdC) (B:Bl mg) (T:MdT K mg CM CS):bX P w K mg base CX0 (n + 2) f fd ["self","machines"] (spMI CM n):=by
  have GC:bX P w K mg base CX0 (n + 1) fC fdC ["thing"] (oA n):=uU DC B n
  refine F.ok scMI (fun vs H Q E h=>?_) (fun cdv A outer s H vs Q E hr h=>?_)
  · obtain ⟨m,dx,v,rfl,_⟩:=h
    rfl
  obtain ⟨m,dx,v,rfl,hm,ht,q⟩:=h
  refine ⟨_,aG (gf (pv 0) (aS GC hr rfl DC.m DC.F.kp DC.b .nil bS (au (pv 1) aw)) rfl),?_⟩
  refine ⟨_,rfl,v,rfl,ht,fun v' H' s1 al=>?_⟩
  exact ⟨_,rfl,m,CM,dx,[],rfl,s1 _ _ hm,T.clM,T.nM,(by show 0 < 1000; decide),q v' H' s1 al⟩
def mO (b q d e:V):List (Str×V):=dD "sent" e (dD "drawn" d (dD "queues" q (dD "boxes" b [])))
def IC (CS:ae):Sp:=fun vs H Q _=>∃ (m dx:ae) (b q d e:V),vs=[.ref m,b,q,d,e]/\H m=some (.ins CS dx [])/\∀ H':Hp,H' m=some (.ins CS dx (mO b q d e))->But m H H'->Q .non H'
theorem scSI:bY ["self","boxes","queues","drawn","sent"] ["self","boxes","queues","drawn","sent"] (aF gK):=⟨rfl,rfl,rfl,by decide +kernel,rfl,by decide +kernel,by decide +kernel⟩
theorem gT (f:Str) (v:V) (fs:List (Str×V)):(dD f v fs).length<=fs.length + 1:=by
  induction fs with
  | nil=>exact aL _
  | cons p r ih =>
    unfold dD
    split
    · rw [bj,bj]
      omega
    · rw [bj,bj]
      omega
theorem GZ (F:Fun K "__init__" "State.__init__" gK f fd) (T:MdT K mg CM CS):bX P w K mg base CX0 1 f fd ["self","boxes","queues","drawn","sent"] (IC CS):=by
  refine F.ok scSI (fun vs H Q E h=>?_) (fun cdv A outer s H vs Q E hr h=>?_)
  · obtain ⟨m,dx,b,q,d,e,rfl,_⟩:=h
    rfl
  obtain ⟨m,dx,b,q,d,e,rfl,hm,k⟩:=h
  refine ⟨_,ak (gf (pv 0) (pv 1) rfl) (ak (gf (pv 0) (pv 2) rfl) (ak (gf (pv 0) (pv 3) rfl) (aG (gf (pv 0) (pv 4) rfl)))),?_⟩
  have l1:=gT "boxes" b []
  have l2:=gT "queues" q (dD "boxes" b [])
  have l3:=gT "drawn" d (dD "queues" q (dD "boxes" b []))
  simp only [cP] at l1
  refine ⟨_,rfl,_,rfl,m,CS,dx,[],rfl,hm,T.clS,T.nB,(by show 0 < 1000; decide),_,rfl,_,rfl,m,CS,dx,_,rfl,ao,T.clS,T.nQ,(by omega),_,rfl,_,rfl,m,CS,dx,_,rfl,ao,T.clS,T.nD,(by omega),_,rfl,_,rfl,m,CS,dx,_,rfl,ao,T.clS,T.nS,(by omega),?_⟩
  exact k _ ao (((But.upd m H _).trans (But.upd m _ _)).trans ((But.upd m _ _).trans (But.upd m _ _)))
theorem Fg:bY ["model","at","machine","queues","name"] ["model","at"] (aF ic):=⟨rfl,rfl,rfl,by decide +kernel,rfl,by decide +kernel,by decide +kernel⟩
end
end My
namespace My
open PySem L2
section
variable {κ:Type} [DecidableEq κ]
abbrev pz (ps:List (κ×V)) (m:List (κ×V)):List (κ×V):=ps.foldl (fun m p=>jD m p.1 p.2) m
end
theorem oR {H H':Hp} {n:Nat} {a:ae} {xs:List V} {y:V} (ha:H a=some (.lst xs)) (z:Alike H H' (n + 1) (.ref a) y):∃ (a':ae) (ys:List V),y=.ref a'/\H' a'=some (.lst ys)/\aX (Alike H H' n) xs ys:=by
  rcases z with ⟨z,_⟩ | ⟨p,p',xs',ys,e1,e2,h1,h2,r⟩ | ⟨p,p',xs',ys,e1,e2,h1,h2,r⟩
  · exact z.elim
  · cases e1
    rw [ha] at h1
    cases h1
    exact ⟨p',ys,e2,h2,r⟩
  · cases e1
    rw [ha] at h1
    cases h1
theorem qX {H H':Hp} {n:Nat} {a:ae} {xs:List V} {y:V} (ha:H a=some (.tup xs)) (z:Alike H H' (n + 1) (.ref a) y):∃ (a':ae) (ys:List V),y=.ref a'/\H' a'=some (.tup ys)/\aX (Alike H H' n) xs ys:=by
  rcases z with ⟨z,_⟩ | ⟨p,p',xs',ys,e1,e2,h1,h2,r⟩ | ⟨p,p',xs',ys,e1,e2,h1,h2,r⟩
  · exact z.elim
  · cases e1
    rw [ha] at h1
    cases h1
  · cases e1
    rw [ha] at h1
    cases h1
    exact ⟨p',ys,e2,h2,r⟩
theorem fc {H H':Hp} {n:Nat} {v y:V} (hv:yF v) (z:Alike H H' n v y):y=v:=by
  cases n with
  | zero=>exact z
  | succ n =>
    rcases z with ⟨_,z⟩ | ⟨p,p',xs',ys,e1,e2,h1,h2,r⟩ | ⟨p,p',xs',ys,e1,e2,h1,h2,r⟩
    · exact z
    · rw [e1] at hv
      exact hv.elim
    · rw [e1] at hv
      exact hv.elim
theorem iQ {H H':Hp} {n:Nat} {xs ys:List V} (r:aX (Alike H H' n) xs ys):(∀ x∈xs,yF x)->ys=xs:=by
  induction r with
  | nil=>exact fun _=>rfl
  | cons a b ih =>
    intro h
    rw [fc (h _ aC) a,ih fun x hx=>h x (af _ hx)]
def ff (H:Hp) (ps:List (Str×Int)) (vs:List V):Prop:=sj H (ps.map fun p=>(Sum.inr p.1,V.int p.2)) vs
theorem ff.same {H H':Hp} (s:bT H H'):∀ {ps:List (Str×Int)} {vs:List V},ff H ps vs->ff H' ps vs
  | [],_,h=>by
    cases h
    exact .nil
  | p :: ps,_,h=>by
    cases h with
    | cons a b =>
      obtain ⟨t,e,h⟩:=a
      exact .cons ⟨t,e,s _ _ h⟩ (ff.same s (ps:=ps) b)
theorem ff.alike {H H':Hp} {n:Nat}:∀ {ps:List (Str×Int)} {vs ys:List V},ff H ps vs->aX (Alike H H' (n + 1)) vs ys->ff H' ps ys
  | [],_,_,h,r=>by
    cases h
    cases r
    exact .nil
  | p :: ps,_,_,h,r=>by
    cases h with
    | cons a b =>
      cases r with
      | cons r1 r2 =>
        obtain ⟨t,rfl,h⟩:=a
        obtain ⟨t',ys,rfl,h',rr⟩:=qX h r1
        have e:=iQ rr (fun x hx=>by
          simp only [ax,bz,or_false] at hx
          rcases hx with rfl | rfl
          · exact trivial
          · exact trivial)
        rw [e] at h'
        exact .cons ⟨t',rfl,h'⟩ (ff.alike (ps:=ps) b r2)
theorem ff.length {H:Hp} {ps:List (Str×Int)} {vs:List V} (h:ff H ps vs):ps.length=vs.length:=by
  have z:=bJ h
  rw [ah] at z
  exact z
theorem ff.tree {H:Hp} {n:Nat}:∀ {ps:List (Str×Int)} {vs:List V},ff H ps vs->∀ x∈vs,Tree H (n + 1) x
  | [],_,h,x,hx=>by
    cases h
    cases hx
  | p :: ps,_,h,x,hx=>by
    cases h with
    | cons a b =>
      rcases ax.mp hx with rfl | hx
      · obtain ⟨t,rfl,h⟩:=a
        refine .inr ⟨t,_,rfl,.inr h,(by show 2 < 1000; decide),fun y hy=>?_⟩
        simp only [ax,bz,or_false] at hy
        rcases hy with rfl | rfl
        · cases n <;> first | exact trivial | exact .inl trivial
        · cases n <;> first | exact trivial | exact .inl trivial
      · exact ff.tree (ps:=ps) b x hx
theorem ff.snoc {H:Hp} {ps:List (Str×Int)} {vs:List V} (h:ff H ps vs) {t:ae} {nm:Str} {z:Int} (ht:H t=some (.tup [.str nm,.int z])):ff H (ps++[(nm,z)]) (vs++[.ref t]):=by
  unfold ff
  rw [cy]
  exact eU h ⟨t,rfl,ht⟩
section
variable {P:aW} {w:bO} {K:ag} {mg:Str->Option aa} {base:cE} {f fI CM CS:ae} {fd fdI:cu}
abbrev ID (ps:List (Str×Int)):List (Key×V):=pz (ps.map fun p=>((Sum.inr p.1:Key),V.int p.2)) []
abbrev quT (qs:List Str) (ls:List ae):List (Key×V):=pz ((qs.zip ls).map fun p=>((Sum.inr p.1:Key),V.ref p.2)) []
structure New (H H':Hp) (CS st:ae) (ps:List (Str×Int)) (qs:List Str) (dx bd qd:ae) (ls:List ae):Prop where
  hst:H' st=some (.ins CS dx (mO (.ref bd) (.ref qd) (.int 0) (.int 0)))
  hbd:H' bd=some (.dK (ID ps))
  hqd:H' qd=some (.dK (quT qs ls))
  len:ls.length=qs.length
  nd:ls.Nodup
  li:∀ l∈ls,H l=none/\H' l=some (.lst [])
  ost:H st=none
  obd:H bd=none
  oqd:H qd=none
  ne:qd≠bd
  same:bT H H'
def xk (CM CS:ae):Sp:=fun vs H Q _=>∃ (m dx l t b q:ae) (fs:List (Str×V)) (n0 x3 x4:V) (i:Nat) (ms vb:List V) (ps:List (Str×Int)) (qs:List Str),vs=[.ref m,.int (i:Int)]/\H m=some (.ins CM dx fs)/\fs.lookup ("machines":Str)=some (V.ref l) /\
  H l=some (.lst ms)/\ms[i]?=some (.ref t)/\H t=some (.tup [n0,.ref b,.ref q,x3,x4])/\H b=some (.lst vb)/\ff H ps vb/\ps.length<=100/\H q=some (.lst (qs.map V.str))/\qs.length<=100 /\
  ∀ (st dx bd qd:ae) (ls:List ae) (H':Hp),New H H' CS st ps qs dx bd qd ls->Q (.ref st) H'
theorem CH {α β:Type} {xs:List α} {ys:List β} {i:Nat} {x:α} {y:β} (hl:ys.length=i) (hx:xs[i]?=some x):(xs.take (i + 1)).zip (ys++[y])=(xs.take i).zip ys++[(x,y)]:=by
  have lt:i < xs.length:=(aB.mp hx).1
  have e:xs.take (i + 1)=xs.take i++[x]:=by rw [gR,hx]; rfl
  rw [e,List.zip_append (by rw [cW,hl]; omega)]
  rfl
theorem AM (D:Df K mg "first_state" ic ["model","at"] f fd) (MS:Mk K CS fI) (FI:Fun K "__init__" "State.__init__" gK fI fdI) (bI:Binds K fdI ["self","boxes","queues","drawn","sent"] []) (B:Bl mg) (T:MdT K mg CM CS) :
    bX P w K mg base CX0 3 f fd ["model","at"] (xk CM CS):=by
  have GI:bX P w K mg base CX0 1 fI fdI ["self","boxes","queues","drawn","sent"] (IC CS):=GZ FI T
  refine D.F.ok Fg (fun vs H Q E h=>?_) (fun cdv A outer s H vs Q E hr h=>?_)
  · obtain ⟨m,dx,l,t,b,q,fs,n0,x3,x4,i,ms,vb,ps,qs,rfl,_⟩:=h
    rfl
  obtain ⟨m,dx,l,t,b,q,fs,n0,x3,x4,i,ms,vb,ps,qs,rfl,hm,hfs,hl,hi,ht,hb,hps,lps,hq,lqs,k⟩:=h
  have hu:=m6 hr
  refine ⟨_,ak (bF (i:=2) Fg.nd rfl (Or.inl rfl) (bN cU (cF (pv 0) rfl) (pv 1) (fun _ _=>rfl)))
    (ak (bF (i:=3) Fg.nd rfl (Or.inl rfl) p7)
    (ak (iz cI rfl (ip (bN cz (pv 2) aq (fun _ _=>rfl))) (eD (i:=4) Fg.nd rfl (Or.inl rfl)) (aG (mJ hu (pv 3) (pv 4) (fy aw) rfl)))
    (aG (bR (oK MS GI hr (by rfl) T.mS bI .nil bS (au (jL (yt rfl) (by rfl) B.dict boot_dict (au (bN cz (pv 2) aq (fun _ _=>rfl)) aw)) (au (pv 3) (au aq (au aq aw))))))))),?_⟩
  refine ⟨_,rfl,m,CM,dx,_,_,rfl,hm,T.clM,T.nM,hfs,_,rfl,l,_,_,_,rfl,rfl,SqL.of hl,gy hi,?_⟩
  intro d hd
  have s1:bT H (upd H d (.dK [])):=aR hd _
  have big:1000 < aJ:=by decide
  have a2:atI [n0,V.ref b,V.ref q,x3,x4] 2=some (V.ref q):=rfl
  have a1:atI [n0,V.ref b,V.ref q,x3,x4] 1=some (V.ref b):=rfl
  refine ⟨_,rfl,t,_,_,_,rfl,rfl,SqT.of (s1 _ _ ht),a2,q,rfl,⟨_,SqL.of (s1 _ _ hq)⟩,iY (K:=K) (a:=q) (xs:=qs.map V.str) (fun j σ G=>∃ (v4:Option V) (ls:List ae),σ=[some (.ref m),some (.int (i:Int)),some (.ref t),some (.ref d),v4]/\j<=qs.length/\G d=some (.dK (quT (qs.take j) ls))/\ls.length=j/\ls.Nodup/\(∀ z∈ls,H z=none/\G z=some (.lst []))/\bT H G)
    ⟨none,[],rfl,bK _,ao,rfl,jI,(fun z hz=>by cases hz),s1⟩ ?_ ?_ ?_⟩
  · rintro j σ G _ ⟨v4,ls,rfl,_,_,_,_,_,sm⟩
    exact SqL.of (sm _ _ hq)
  · rintro j x σ G hj ⟨v4,ls,rfl,jl,hG,ll,nd,li,sm⟩
    obtain ⟨nm,hnm,rfl⟩:∃ nm,qs[j]?=some nm/\x=V.str nm:=by
      rw [cC] at hj
      cases e:qs[j]? with
      | none=>rw [e] at hj; cases hj
      | some nm=>rw [e] at hj; cases hj; exact ⟨nm,rfl,rfl⟩
    have jlt:j < qs.length:=(aB.mp hnm).1
    refine ⟨bK _,fun z hz=>?_⟩
    have nzd:d≠z:=aH hG hz
    have hG':upd G z (.lst []) d=some (.dK (quT (qs.take j) ls)):=by rw [aV nzd]; exact hG
    have lt:(quT (qs.take j) ls).length < aJ:=by
      have q1:=xb ((((qs.take j).zip ls).map fun p=>((Sum.inr p.1:Key),V.ref p.2))) []
      rw [ah,oB,cW] at q1
      simp only [cP] at q1
      exact gE q1 (by omega)
    refine ⟨_,rfl,_,rfl,d,_,rfl,rP.k (k:=Sum.inr nm) hG' lt,?_⟩
    have fz:H z=none:=sm.free hz
    have nin:z∉ls:=fun c=>by
      have q1:=(li z c).2
      rw [hz] at q1
      cases q1
    refine ⟨_,ls++[z],rfl,jlt,?_,by rw [aI,ll]; rfl,zm nd nin,fun y hy=>?_,?_⟩
    · show upd _ d _ d=_
      rw [ao]
      show some (HO.dK (jD (quT (qs.take j) ls) (Sum.inr nm) (.ref z)))=some (HO.dK (quT (qs.take (j + 1)) (ls++[z])))
      unfold quT
      rw [CH ll hnm,cy]
      unfold pz
      rw [CI]
      rfl
    · rcases b8.mp hy with c | c
      · obtain ⟨c1,c2⟩:=li y c
        refine ⟨c1,?_⟩
        rw [aV (lU c2 hG (by intro e; cases e)),aV (aH c2 hz)]
        exact c2
      · rw [aM.mp c]
        refine ⟨fz,?_⟩
        rw [aV nzd.symm]
        exact ao
    · intro c o hc
      have c2:=sm _ _ hc
      have cd:c≠d:=aH hc hd
      rw [aV cd,aV (aH c2 hz)]
      exact c2
  · rintro σ G ⟨v4,ls,rfl,jl,hG,ll,nd,li,sm⟩
    rw [ah] at ll hG
    rw [eI] at hG
    refine ⟨_,rfl,t,_,_,_,rfl,rfl,SqT.of (sm _ _ ht),a1,b,vb,_,rfl,sm _ _ hb,ff.same sm hps,by rw [ah]; omega,fun e he=>?_⟩
    have s2:bT G (upd G e (.dK (ID ps))):=aR he _
    refine ⟨_,rfl,?_⟩
    intro x dx' nx ndx nex
    refine ⟨x,dx',_,_,_,_,rfl,ao,fun H' hx bt=>⟨rfl,k x dx' e d ls H' ?_⟩⟩
    have up:∀ {c:ae} {o:HO},upd G e (.dK (ID ps)) c=some o->H' c=some o:=fun {c o} hc=>by
      have cx:c≠x:=aH hc nx
      refine bt c o ?_ cx
      rw [aV cx,aV (aH hc ndx)]
      exact hc
    exact ⟨hx,up ao,up (s2 _ _ hG),ll,nd,fun z hz=>⟨(li z hz).1,up (s2 _ _ (li z hz).2)⟩,sm.free (s2.free nx),sm.free he,hd,aH hG he,fun c o hc=>up (s2 _ _ (sm _ _ hc))⟩
end
end My
namespace My
open PySem L2
section
variable {κ:Type} [DecidableEq κ]
theorem yG:∀ (ps m:List (κ×V)),((m++ps).map (·.1)).Nodup->pz ps m=m++ps
  | [],m,_=>by simp [pz]
  | p :: r,m,h=>by
    have nk:kY m p.1=none:=by
      cases e:kY m p.1 with
      | none=>rfl
      | some v =>
        exfalso
        rw [cy,cw] at h
        exact (iG.mp h).2.2 p.1 (EO e) p.1 aC rfl
    show pz r (jD m p.1 p.2)=_
    rw [BZ p.2 nk,yG r (m++[(p.1,p.2)]) (by rw [jJ]; exact h),jJ]
    rfl
end
theorem CJ {ss zs:List Str} {lo hi:Option Int} (h:lO (ss.map V.str) lo hi=zs.map V.str) (nd:ss.Nodup):zs.Nodup:=by
  have n1:(ss.map V.str).Nodup:=gS.mpr (uV (fun n e=>n (V.str.inj e)) nd)
  have n2:(lO (ss.map V.str) lo hi).Nodup:=by
    unfold lO
    exact (n1.sublist (List.drop_sublist _ _)).sublist (lX _ _)
  rw [h] at n2
  exact uV (fun n e=>n (by rw [e])) (gS.mp n2)
theorem ff.tups {H H':Hp} (s:∀ t xs,H t=some (.tup xs)->H' t=some (.tup xs)):∀ {ps:List (Str×Int)} {vs:List V},ff H ps vs->ff H' ps vs
  | [],_,h=>by
    cases h
    exact .nil
  | p :: ps,_,h=>by
    cases h with
    | cons a b =>
      obtain ⟨t,e,h⟩:=a
      exact .cons ⟨t,e,s _ _ h⟩ (ff.tups s (ps:=ps) b)
end My
namespace My
open PySem L2
def zD:List Str:=["plus","less","times","part","rest","below","same"]
inductive Fm where
  | num (n:Int)
  | box (x:Str)
  | long (x:Str)
  | got (j:Bool)
  | now
  | two (k:Str) (f g:Fm)
def Fm.depth:Fm->Nat
  | .two _ f g=>max f.depth g.depth + 1
  | _=>1
inductive Rs where
  | ok (r:Int)
  | nought
  | great
def xl (k:Str) (a b:Int):Rs:=
  if k="plus" then .ok (a + b) else if k="less" then .ok (a - b) else if k="times" then .ok (a * b) else if k="below" then .ok (if a < b then 1 else 0)
  else if k="same" then .ok (if a=b then 1 else 0) else if b=0 then .nought else if k="part" then .ok (a.fdiv b) else .ok (a.fmod b)
def qf (r:Int):Int:=if r < 0 then -r else r
def cap:Rs->Rs
  | .ok r=>if 10 ^ 15 < qf r then .great else .ok r
  | .nought=>.nought
  | .great=>.great
structure vP where
  bx:Str->Int
  lg:Str->Nat
  g0:Int
  g1:Int
  nw:Int
def ev (e:vP):Fm->Rs
  | .num n=>.ok n
  | .box x=>.ok (e.bx x)
  | .long x=>.ok (e.lg x)
  | .got j=>.ok (if j then e.g1 else e.g0)
  | .now=>.ok e.nw
  | .two k f g=>match ev e f with
    | .ok a=>(match ev e g with
      | .ok b=>cap (xl k a b)
      | .nought=>.nought
      | .great=>.great)
    | .nought=>.nought
    | .great=>.great
def Wo (a:Int):Prop:=-(10 ^ 15)<=a/\a<=10 ^ 15
structure vP.Ok (e:vP) (bs qs:List Str):Prop where
  bx:∀ x∈bs,Wo (e.bx x)
  lg:∀ x∈qs,e.lg x<=1000
  g0:Wo e.g0
  g1:Wo e.g1
  nw:Wo e.nw
inductive iR (bs qs:List Str) (H:Hp):V->Fm->Prop where
  | num {t:ae} {n:Int}:H t=some (.tup [.str "number",.int n])->Wo n->iR bs qs H (.ref t) (.num n)
  | box {t:ae} {x:Str}:H t=some (.tup [.str "box",.str x])->x∈bs->iR bs qs H (.ref t) (.box x)
  | long {t:ae} {x:Str}:H t=some (.tup [.str "long",.str x])->x∈qs->iR bs qs H (.ref t) (.long x)
  | got {t:ae} {j:Bool}:H t=some (.tup [.str "got",.int (if j then 1 else 0)])->iR bs qs H (.ref t) (.got j)
  | now {t:ae}:H t=some (.tup [.str "now"])->iR bs qs H (.ref t) .now
  | two {t:ae} {k:Str} {u v:V} {f g:Fm}:H t=some (.tup [.str k,u,v])->k∈zD->iR bs qs H u f->iR bs qs H v g->iR bs qs H (.ref t) (.two k f g)
theorem iR.mono {bs qs:List Str} {H H':Hp} {v:V} {f:Fm} (h:iR bs qs H v f) (s:∀ t xs,H t=some (.tup xs)->H' t=some (.tup xs)):iR bs qs H' v f:=by
  induction h with
  | num h1 h2=>exact .num (s _ _ h1) h2
  | box h1 h2=>exact .box (s _ _ h1) h2
  | long h1 h2=>exact .long (s _ _ h1) h2
  | got h1=>exact .got (s _ _ h1)
  | now h1=>exact .now (s _ _ h1)
  | two h1 h2 _ _ i1 i2=>exact .two (s _ _ h1) h2 i1 i2
theorem iR.same {bs qs:List Str} {H H':Hp} {v:V} {f:Fm} (h:iR bs qs H v f) (s:bT H H'):iR bs qs H' v f:=h.mono fun _ _ e=>s _ _ e
theorem CK {r:Int} (h:¬ 10 ^ 15 < qf r):Wo r:=by
  unfold qf at h
  unfold Wo
  split at h <;> omega
theorem CO {r:Int} (h:Wo r):¬ 10 ^ 15 < qf r:=by
  unfold Wo at h
  unfold qf
  split <;> omega
theorem IE {x:Rs} {r:Int} (h:cap x=.ok r):Wo r:=by
  cases x with
  | ok y =>
    unfold cap at h
    dsimp only at h
    by_cases c:10 ^ 15 < qf y
    · rw [if_pos c] at h
      cases h
    · rw [if_neg c] at h
      cases h
      exact CK c
  | nought=>cases h
  | great=>cases h
theorem lg_wo {n:Nat} (h:n<=1000):Wo (n:Int):=by
  unfold Wo
  omega
theorem rH {bs qs:List Str} {H:Hp} {e:vP} (ok:e.Ok bs qs) {v:V} {f:Fm} (h:iR bs qs H v f):∀ {r:Int},ev e f=.ok r->Wo r:=by
  induction h with
  | num h1 h2 =>
    intro r q
    unfold ev at q
    cases q
    exact h2
  | box h1 h2 =>
    intro r q
    unfold ev at q
    cases q
    exact ok.bx _ h2
  | long h1 h2 =>
    intro r q
    unfold ev at q
    cases q
    exact lg_wo (ok.lg _ h2)
  | @got t j h1 =>
    intro r q
    unfold ev at q
    cases q
    cases j
    · exact ok.g0
    · exact ok.g1
  | now h1 =>
    intro r q
    unfold ev at q
    cases q
    exact ok.nw
  | @two t k u v f g h1 h2 _ _ i1 i2 =>
    intro r q
    unfold ev at q
    cases e1:ev e f with
    | ok a =>
      rw [e1] at q
      cases e2:ev e g with
      | ok b =>
        rw [e2] at q
        exact IE q
      | nought=>rw [e2] at q; cases q
      | great=>rw [e2] at q; cases q
    | nought=>rw [e1] at q; cases q
    | great=>rw [e1] at q; cases q
def uW (CN CG:ae) (r:Rs) (Q:VK) (E:XK) (H:Hp):Prop:=match r with
  | .ok r=>Q (.int r) H
  | .nought=>E (.ref CN) none H
  | .great=>E (.ref CG) none H
section
variable {P:aW} {w:bO} {K:ag} {mg:Str->Option aa} {base:cE} {f fD fT fL CN CG CM CS:ae} {fd fdD fdT fdL:cu}
structure Fts (K:ag) (mg:Str->Option aa) (CN CG:ae):Prop where
  mN:mg "Nought"=some (.ref CN)
  mG:mg "Great"=some (.ref CG)
  xN:dM K CN pG "ValueError.__new__"=true
  xG:dM K CG pG "ValueError.__new__"=true
  nn:dA K (.ref CN) (.ref CN)=some true
  gn:dA K (.ref CG) (.ref CN)=some false
  gg:dA K (.ref CG) (.ref CG)=some true
def Ha (CN:ae):Sp:=fun vs H Q E=>∃ (k:Str) (a b:Int),vs=[.str k,.int a,.int b]/\Wo b/\(b=0->E (.ref CN) none H)/\(¬ b=0->k="part"->Q (.int (a.fdiv b)) H)/\(¬ b=0->¬ k="part"->Q (.int (a.fmod b)) H)
theorem scDv:bY ["kind","first","second"] ["kind","first","second"] (aF dB):=⟨rfl,rfl,rfl,by decide +kernel,rfl,by decide +kernel,by decide +kernel⟩
theorem tJ {a b:Int} (h:V.int a=V.int b):a=b:=V.int.inj h
theorem qY {a b:Str} (h:V.str a=V.str b):a=b:=V.str.inj h
theorem IF (D:Df K mg "number_of_division" dB ["kind","first","second"] f fd) (T:Fts K mg CN CG):bX P w K mg base (CXo P w) 1 f fd ["kind","first","second"] (Ha CN):=by
  refine D.F.okX scDv (fun vs H Q E h=>?_) (fun cdv A outer s H vs Q E hr h=>?_)
  · obtain ⟨k,a,b,rfl,_⟩:=h
    rfl
  obtain ⟨k,a,b,rfl,hb,h1,h2,h3⟩:=h
  refine ⟨_,ak (cZ (bL eO (pv 2) aq (cg _)) (aG (kH dZ rfl rfl T.mN T.xN (au cG aw))) cq)
    (ak (cZ (bL eO (pv 0) cG (cg _)) (aG (bR (cL B5 (pv 1) (pv 2)))) cq)
    (aG (bR (cL EB (pv 1) (pv 2))))),?_⟩
  refine ⟨_,rfl,rfl,_,rfl,?_⟩
  refine iK (fun c=>?_) (fun c=>?_)
  · exact ⟨(by show 1<=aJ; decide),h1 (tJ (j8 c))⟩
  · have nb:¬ b=0:=fun z=>kr c (by rw [z])
    refine ⟨_,rfl,rfl,_,rfl,?_⟩
    refine iK (fun c2=>?_) (fun c2=>?_)
    · refine ⟨_,rfl,_,rfl,_,_,rfl,rfl,⟨nb,?_⟩,h2 nb (qY (j8 c2))⟩
      unfold Wo at hb
      omega
    · exact ⟨_,rfl,_,rfl,_,_,rfl,rfl,nb,h3 nb (fun z=>kr c2 (by rw [z]))⟩
def Hc (CN CG:ae):Sp:=fun vs H Q E=>∃ (k:Str) (a b:Int),vs=[.str k,.int a,.int b]/\Wo a/\Wo b/\uW CN CG (xl k a b) Q E H
theorem scTw:bY ["kind","first","second"] ["kind","first","second"] (aF fk):=⟨rfl,rfl,rfl,by decide +kernel,rfl,by decide +kernel,by decide +kernel⟩
theorem IG (D:Df K mg "number_of_two" fk ["kind","first","second"] f fd) (DD:Df K mg "number_of_division" dB ["kind","first","second"] fD fdD) (T:Fts K mg CN CG) :
    bX P w K mg base (CXo P w) 2 f fd ["kind","first","second"] (Hc CN CG):=by
  have GD:bX P w K mg base (CXo P w) 1 fD fdD ["kind","first","second"] (Ha CN):=IF DD T
  refine D.F.okX scTw (fun vs H Q E h=>?_) (fun cdv A outer s H vs Q E hr h=>?_)
  · obtain ⟨k,a,b,rfl,_⟩:=h
    rfl
  obtain ⟨k,a,b,rfl,ha,hb,h⟩:=h
  unfold xl at h
  refine ⟨_,ak (cZ (bL eO (pv 0) cG (cg _)) (aG (bR (cL gW (pv 1) (pv 2)))) cq)
    (ak (cZ (bL eO (pv 0) cG (cg _)) (aG (bR (cL jc (pv 1) (pv 2)))) cq)
    (ak (cZ (bL eO (pv 0) cG (cg _)) (aG (bR (cL mC (pv 1) (pv 2)))) cq)
    (ak (cZ (bL eO (pv 0) cG (cg _)) (aG (bR (sR (bL rp (pv 1) (pv 2) (cg _)) aq aq))) cq)
    (ak (cZ (bL eO (pv 0) cG (cg _)) (aG (bR (sR (bL eO (pv 1) (pv 2) (cg _)) aq aq))) cq)
    (aG (bR (aS GD hr rfl DD.m DD.F.kp DD.b .nil (dZ.passes fun _ _ _ z=>z) (au (pv 0) (au (pv 1) (au (pv 2) aw)))))))))),?_⟩
  refine ⟨_,rfl,rfl,_,rfl,iK (fun c=>?_) (fun c=>?_)⟩
  · rw [if_pos (qY (j8 c))] at h
    exact ⟨_,rfl,_,rfl,_,_,rfl,rfl,h⟩
  rw [if_neg fun z=>kr c (by rw [z])] at h
  refine ⟨_,rfl,rfl,_,rfl,iK (fun c=>?_) (fun c=>?_)⟩
  · rw [if_pos (qY (j8 c))] at h
    exact ⟨_,rfl,_,rfl,_,_,rfl,rfl,h⟩
  rw [if_neg fun z=>kr c (by rw [z])] at h
  refine ⟨_,rfl,rfl,_,rfl,iK (fun c=>?_) (fun c=>?_)⟩
  · rw [if_pos (qY (j8 c))] at h
    refine ⟨_,rfl,_,rfl,_,_,rfl,rfl,.inl ⟨?_,?_⟩,h⟩
    · unfold Wo at ha; omega
    · unfold Wo at ha; omega
  rw [if_neg fun z=>kr c (by rw [z])] at h
  refine ⟨_,rfl,rfl,_,rfl,iK (fun c=>?_) (fun c=>?_)⟩
  · rw [if_pos (qY (j8 c))] at h
    refine ⟨_,rfl,_,rfl,_,_,rfl,rfl,_,rfl,iK (fun c2=>?_) (fun c2=>?_)⟩
    · rw [if_pos (j8 c2)] at h
      exact h
    · rw [if_neg (kr c2)] at h
      exact h
  rw [if_neg fun z=>kr c (by rw [z])] at h
  refine ⟨_,rfl,rfl,_,rfl,iK (fun c=>?_) (fun c=>?_)⟩
  · rw [if_pos (qY (j8 c))] at h
    refine ⟨_,rfl,_,rfl,rfl,_,rfl,iK (fun c2=>?_) (fun c2=>?_)⟩
    · rw [if_pos (tJ (j8 c2))] at h
      exact h
    · rw [if_neg fun z=>kr c2 (by rw [z])] at h
      exact h
  rw [if_neg fun z=>kr c (by rw [z])] at h
  refine ⟨_,rfl,_,rfl,_,rfl,k,a,b,rfl,hb,fun z=>?_,fun z1 z2=>?_,fun z1 z2=>?_⟩
  · rw [if_pos z] at h
    exact h
  · rw [if_neg z1,if_pos z2] at h
    exact h
  · rw [if_neg z1,if_neg z2] at h
    exact h
structure Holds (K:ag) (CS:ae) (bs qs:List Str) (H:Hp) (st gl:ae) (e:vP):Prop where
  ex:∃ (dx bd qd:ae) (fs:List (Str×V)) (bk qk:List (Key×V)),H st=some (.ins CS dx fs)/\fs.lookup ("boxes":Str)=some (.ref bd)/\fs.lookup ("queues":Str)=some (.ref qd)/\H bd=some (.dK bk)/\H qd=some (.dK qk) /\
    (∀ x∈bs,kY bk (Sum.inr x)=some (.int (e.bx x)))/\(∀ x∈qs,∃ l xs,kY qk (Sum.inr x)=some (.ref l)/\H l=some (.lst xs)/\xs.length=e.lg x)
  hgl:H gl=some (.lst [.int e.g0,.int e.g1])
def CQ (K:ag) (CS:ae) (bs qs:List Str):Sp:=fun vs H Q _=>∃ (v:V) (F:Fm) (st gl:ae) (e:vP),vs=[v,.ref st,.int e.nw,.ref gl]/\iR bs qs H v F/\F.depth<=1/\Holds K CS bs qs H st gl e/\∀ r,ev e F=.ok r->Q (.int r) H
theorem scLf:bY ["formula","state","now","got","kind"] ["formula","state","now","got"] (aF eR):=⟨rfl,rfl,rfl,by decide +kernel,rfl,by decide +kernel,by decide +kernel⟩
theorem CT:¬ (("box":Str)="number")/\¬ (("long":Str)="number")/\¬ (("long":Str)="box")/\¬ (("got":Str)="number")/\¬ (("got":Str)="box")/\¬ (("got":Str)="long")/\¬ (("now":Str)="number")/\¬ (("now":Str)="box")/\¬ (("now":Str)="long")/\¬ (("now":Str)="got"):=by decide +kernel
theorem rT {a b:Str} (h:¬ a=b):decide (V.str a=V.str b)=false:=decide_eq_false fun z=>h (V.str.inj z)
theorem AN (a:Str):decide (V.str a=V.str a)=true:=decide_eq_true rfl
theorem kL {c:Bool} {b:Bool} {p q:Prop} (h:c=b) (t:if b=true then p else q):if c=true then p else q:=by
  rw [h]
  exact t
theorem Fh {bs qs:List Str} (D:Df K mg "number_of_leaf" eR ["formula","state","now","got"] f fd) (T:MdT K mg CM CS) (B:Bl mg):bX P w K mg base CX0 1 f fd ["formula","state","now","got"] (CQ K CS bs qs):=by
  refine D.F.ok scLf (fun vs H Q E h=>?_) (fun cdv A outer s H vs Q E hr h=>?_)
  · obtain ⟨v,F,st,gl,e,rfl,_⟩:=h
    rfl
  obtain ⟨v,F,st,gl,e,rfl,hF,hd,⟨⟨dx,bd,qd,fs,bk,qk,h1,h2,h3,h4,h5,h6,h7⟩,h8⟩,q⟩:=h
  have hu:=m6 hr
  refine ⟨_,ak (bF (i:=4) scLf.nd rfl (Or.inl rfl) (bN cz (pv 0) aq (fun _ _=>rfl)))
    (ak (cZ (bL eO (pv 4) cG (cg _)) (aG (bR (bN cz (pv 0) aq (fun _ _=>rfl)))) cq)
    (ak (cZ (bL eO (pv 4) cG (cg _)) (aG (bR (p6 hu (cF (pv 1) rfl) (bN cz (pv 0) aq (fun _ _=>rfl)) (fun _ _=>rfl)))) cq)
    (ak (cZ (bL eO (pv 4) cG (cg _)) (aG (bR (cX hJ (by rfl) B.len cm (au (p6 hu (cF (pv 1) rfl) (bN cz (pv 0) aq (fun _ _=>rfl)) (fun _ _=>rfl)) aw)))) cq)
    (ak (cZ (bL eO (pv 4) cG (cg _)) (aG (bR (bN cU (pv 3) (bN cz (pv 0) aq (fun _ _=>rfl)) (fun _ _=>rfl)))) cq)
    (aG (bR (pv 2))))))),?_⟩
  obtain ⟨k1,k2,k3,k4,k5,k6,k7,k8,k9,k10⟩:=CT
  cases hF with
  | @num t n ht hn =>
    refine ⟨_,rfl,t,_,_,_,rfl,rfl,SqT.of ht,rfl,_,rfl,rfl,_,rfl,kL (AN _) (iJ ?_)⟩
    exact ⟨_,rfl,t,_,_,_,rfl,rfl,SqT.of ht,rfl,q _ rfl⟩
  | @box t x ht hx =>
    refine ⟨_,rfl,t,_,_,_,rfl,rfl,SqT.of ht,rfl,_,rfl,rfl,_,rfl,kL (rT k1) (hW ?_)⟩
    refine ⟨_,rfl,rfl,_,rfl,kL (AN _) (iJ ?_)⟩
    exact ⟨_,rfl,st,CS,dx,_,_,rfl,h1,T.clS,T.nB,h2,_,rfl,t,_,_,_,rfl,rfl,SqT.of ht,rfl,bd,_,rfl,(by have z:=p5.k (k:=Sum.inr x) h4; rw [h6 x hx] at z; exact z),q _ rfl⟩
  | @long t x ht hx =>
    obtain ⟨l,xs,g1,g2,g3⟩:=h7 x hx
    refine ⟨_,rfl,t,_,_,_,rfl,rfl,SqT.of ht,rfl,_,rfl,rfl,_,rfl,kL (rT k2) (hW ?_)⟩
    refine ⟨_,rfl,rfl,_,rfl,kL (rT k3) (hW ?_)⟩
    refine ⟨_,rfl,rfl,_,rfl,kL (AN _) (iJ ?_)⟩
    exact ⟨_,rfl,st,CS,dx,_,_,rfl,h1,T.clS,T.nQ,h3,_,rfl,t,_,_,_,rfl,rfl,SqT.of ht,rfl,qd,_,rfl,(by have z:=p5.k (k:=Sum.inr x) h5; rw [g1] at z; exact z),l,xs,rfl,.inl (SqL.of g2),q _ (by rw [g3]; rfl)⟩
  | @got t j ht =>
    refine ⟨_,rfl,t,_,_,_,rfl,rfl,SqT.of ht,rfl,_,rfl,rfl,_,rfl,kL (rT k4) (hW ?_)⟩
    refine ⟨_,rfl,rfl,_,rfl,kL (rT k5) (hW ?_)⟩
    refine ⟨_,rfl,rfl,_,rfl,kL (rT k6) (hW ?_)⟩
    refine ⟨_,rfl,rfl,_,rfl,kL (AN _) (iJ ?_)⟩
    cases j
    · exact ⟨_,rfl,_,rfl,t,_,_,_,rfl,rfl,SqT.of ht,rfl,gl,_,_,_,rfl,rfl,SqL.of h8,rfl,q _ rfl⟩
    · exact ⟨_,rfl,_,rfl,t,_,_,_,rfl,rfl,SqT.of ht,rfl,gl,_,_,_,rfl,rfl,SqL.of h8,rfl,q _ rfl⟩
  | @now t ht =>
    refine ⟨_,rfl,t,_,_,_,rfl,rfl,SqT.of ht,rfl,_,rfl,rfl,_,rfl,kL (rT k7) (hW ?_)⟩
    refine ⟨_,rfl,rfl,_,rfl,kL (rT k8) (hW ?_)⟩
    refine ⟨_,rfl,rfl,_,rfl,kL (rT k9) (hW ?_)⟩
    refine ⟨_,rfl,rfl,_,rfl,kL (rT k10) (hW ?_)⟩
    exact ⟨_,rfl,q _ rfl⟩
  | @two t k u v f1 f2 ht hk h1 h2 =>
    have z1:0 < f1.depth:=by cases f1 <;> exact yH _
    unfold Fm.depth at hd
    omega
def CV (K:ag) (CS CN CG:ae) (bs qs:List Str) (n:Nat):Sp:=fun vs H Q E=>∃ (v:V) (F:Fm) (st gl:ae) (e:vP),vs=[v,.ref st,.int e.nw,.ref gl]/\iR bs qs H v F/\F.depth<=n/\Holds K CS bs qs H st gl e/\e.Ok bs qs/\uW CN CG (ev e F) Q E H
theorem CW:bY ["formula","state","now","got","first","second","number"] ["formula","state","now","got"] (aF je):=⟨rfl,rfl,rfl,by decide +kernel,rfl,by decide +kernel,by decide +kernel⟩
theorem Fi {bs qs:List Str} {H:Hp} {v:V} {F:Fm} (h:iR bs qs H v F):(∃ t xs,v=.ref t/\H t=some (.tup xs)/\¬ (xs.length:Int)=3/\F.depth<=1/\∀ e:vP,∃ r,ev e F=.ok r) \/
    ∃ t k u w f g,v=.ref t/\F=.two k f g/\H t=some (.tup [.str k,u,w])/\k∈zD/\iR bs qs H u f/\iR bs qs H w g:=by
  cases h with
  | num h1 h2=>exact .inl ⟨_,_,rfl,h1,by show ¬ ((2:Nat):Int)=3; decide,aL _,fun e=>⟨_,rfl⟩⟩
  | box h1 h2=>exact .inl ⟨_,_,rfl,h1,by show ¬ ((2:Nat):Int)=3; decide,aL _,fun e=>⟨_,rfl⟩⟩
  | long h1 h2=>exact .inl ⟨_,_,rfl,h1,by show ¬ ((2:Nat):Int)=3; decide,aL _,fun e=>⟨_,rfl⟩⟩
  | got h1=>exact .inl ⟨_,_,rfl,h1,by show ¬ ((2:Nat):Int)=3; decide,aL _,fun e=>⟨_,rfl⟩⟩
  | now h1=>exact .inl ⟨_,_,rfl,h1,by show ¬ ((1:Nat):Int)=3; decide,aL _,fun e=>⟨_,rfl⟩⟩
  | two h1 h2 h3 h4=>exact .inr ⟨_,_,_,_,_,_,rfl,rfl,h1,h2,h3,h4⟩
theorem Fj {bs qs:List Str} {n:Nat} (D:Df K mg "worth_of" je ["formula","state","now","got"] f fd) (DT:Df K mg "number_of_two" fk ["kind","first","second"] fT fdT) (DD:Df K mg "number_of_division" dB ["kind","first","second"] fD fdD)
    (DL:Df K mg "number_of_leaf" eR ["formula","state","now","got"] fL fdL) (T:Fts K mg CN CG) (TM:MdT K mg CM CS) (B:Bl mg) (G:bX P w K mg base (CXo P w) (n + 2) f fd ["formula","state","now","got"] (CV K CS CN CG bs qs n)) :
    bX P w K mg base (CXo P w) (n + 3) f fd ["formula","state","now","got"] (CV K CS CN CG bs qs (n + 1)):=by
  have GT:bX P w K mg base (CXo P w) 2 fT fdT ["kind","first","second"] (Hc CN CG):=IG DT DD T
  have GL:bX P w K mg base CX0 1 fL fdL ["formula","state","now","got"] (CQ K CS bs qs):=Fh DL TM B
  refine D.F.okX CW (fun vs H Q E h=>?_) (fun cdv A outer s H vs Q E hr h=>?_)
  · obtain ⟨v,F,st,gl,e,rfl,_⟩:=h
    rfl
  obtain ⟨v,F,st,gl,e,rfl,hF,hd,ho,eo,h⟩:=h
  have r2:eA 2 _:=hr.mono (by omega)
  have r1:eA 1 _:=hr.mono (by omega)
  refine ⟨_,ak (cZ (bL eO (cX hJ (by rfl) B.len cm (au (pv 0) aw)) aq (cg _))
      (ak (bF (i:=4) CW.nd rfl (Or.inl rfl) (aS G hr rfl D.m D.F.kp D.b .nil (dZ.passes fun _ _ _ z=>z) (au (bN cz (pv 0) aq (fun _ _=>rfl)) (au (pv 1) (au (pv 2) (au (pv 3) aw))))))
      (ak (bF (i:=5) CW.nd rfl (Or.inl rfl) (aS G hr rfl D.m D.F.kp D.b .nil (dZ.passes fun _ _ _ z=>z) (au (bN cz (pv 0) aq (fun _ _=>rfl)) (au (pv 1) (au (pv 2) (au (pv 3) aw))))))
      (aG (bF (i:=6) CW.nd rfl (Or.inl rfl) (aS GT r2 rfl DT.m DT.F.kp DT.b .nil (dZ.passes fun _ _ _ z=>z) (au (bN cz (pv 0) aq (fun _ _=>rfl)) (au (pv 4) (au (pv 5) aw))))))))
      (aG (bF (i:=6) CW.nd rfl (Or.inl rfl) (aS GL r1 rfl DL.m DL.F.kp DL.b .nil bS (au (pv 0) (au (pv 1) (au (pv 2) (au (pv 3) aw))))))))
    (ak (cZ (bL mZ (cX BB (by rfl) B.abs boot_abs (au (pv 6) aw)) (cL mE aq aq) (cg _)) (aG (kH dZ rfl rfl T.mG T.xG (au cG aw))) cq)
    (aG (bR (pv 6)))),?_⟩
  have c15:wO 10 15:=⟨by decide,by decide,by decide⟩
  have l1:1<=aJ:=by decide
  rcases Fi hF with ⟨t,xs,rfl,ht,hx,hd1,hv⟩ | ⟨t,k,u,v',f1,f2,rfl,rfl,ht,hk,h1,h2⟩
  · obtain ⟨r,hr'⟩:=hv e
    refine ⟨_,rfl,t,_,rfl,.inr (SqT.of ht),rfl,_,rfl,iK (fun c=>absurd (tJ (j8 c)) hx) (fun c=>?_)⟩
    refine ⟨_,rfl,_,rfl,_,rfl,_,rfl,.ref t,F,st,gl,e,rfl,hF,hd1,ho,fun r' hr2=>?_⟩
    refine ⟨_,rfl,_,rfl,_,_,rfl,rfl,c15,_,_,rfl,rfl,_,rfl,iK (fun c=>?_) (fun c=>?_)⟩
    · exact absurd (j8 c) (CO (rH eo hF hr2))
    · rw [hr2] at h
      exact ⟨_,rfl,h⟩
  · have d1:f1.depth<=n:=by
      unfold Fm.depth at hd
      omega
    have d2:f2.depth<=n:=by
      unfold Fm.depth at hd
      omega
    refine ⟨_,rfl,t,_,rfl,.inr (SqT.of ht),rfl,_,rfl,iK (fun c=>?_) (fun c=>absurd rfl (kr c))⟩
    refine ⟨_,rfl,t,_,_,_,rfl,rfl,SqT.of ht,rfl,_,rfl,_,rfl,_,rfl,u,f1,st,gl,e,rfl,h1,d1,ho,eo,?_⟩
    unfold ev at h
    cases e1:ev e f1 with
    | nought=>rw [e1] at h; exact h
    | great=>rw [e1] at h; exact h
    | ok a =>
      rw [e1] at h
      refine ⟨_,rfl,t,_,_,_,rfl,rfl,SqT.of ht,rfl,_,rfl,_,rfl,_,rfl,v',f2,st,gl,e,rfl,h2,d2,ho,eo,?_⟩
      cases e2:ev e f2 with
      | nought=>rw [e2] at h; exact h
      | great=>rw [e2] at h; exact h
      | ok b =>
        rw [e2] at h
        have h:uW CN CG (cap (xl k a b)) Q E H:=h
        refine ⟨_,rfl,t,_,_,_,rfl,rfl,SqT.of ht,rfl,_,rfl,_,rfl,k,a,b,rfl,rH eo h1 e1,rH eo h2 e2,?_⟩
        cases e3:xl k a b with
        | nought=>rw [e3] at h; exact h
        | great=>rw [e3] at h; exact h
        | ok r =>
          rw [e3] at h
          have h':uW CN CG (if 10 ^ 15 < qf r then .great else .ok r) Q E H:=h
          refine ⟨_,rfl,_,rfl,_,_,rfl,rfl,c15,_,_,rfl,rfl,_,rfl,iK (fun c=>?_) (fun c=>?_)⟩
          · rw [if_pos (show 10 ^ 15 < qf r from j8 c)] at h'
            exact ⟨l1,h'⟩
          · rw [if_neg (show ¬ 10 ^ 15 < qf r from kr c)] at h'
            exact ⟨_,rfl,h'⟩
theorem AO (F:Fm):0 < F.depth:=by cases F <;> exact yH _
theorem Hd {bs qs:List Str} (D:Df K mg "worth_of" je ["formula","state","now","got"] f fd) (DT:Df K mg "number_of_two" fk ["kind","first","second"] fT fdT) (DD:Df K mg "number_of_division" dB ["kind","first","second"] fD fdD)
    (DL:Df K mg "number_of_leaf" eR ["formula","state","now","got"] fL fdL) (T:Fts K mg CN CG) (TM:MdT K mg CM CS) (B:Bl mg):∀ n:Nat,bX P w K mg base (CXo P w) (n + 2) f fd ["formula","state","now","got"] (CV K CS CN CG bs qs n)
  | 0=>by
    have no:∀ vs H Q E,¬ CV K CS CN CG bs qs 0 vs H Q E:=fun vs H Q E h=>by
      obtain ⟨v,F,st,gl,e,_,_,hd,_⟩:=h
      have:=AO F
      omega
    exact ⟨fun vs H Q E h=>absurd h (no vs H Q E),fun A outer s H args us vs Q E _ _ _ _ h=>absurd h (no vs H Q E)⟩
  | n + 1=>Fj D DT DD DL T TM B (Hd D DT DD DL T TM B n)
end
end My
namespace My
open PySem L2
mutual
inductive Dd where
  | put (x:Str) (f:Fm)
  | push (q:Str) (f:Fm)
  | pull (q x:Str) (o:Ds)
  | draw (x:Str) (f:Fm)
  | send (to:Int) (sg:Str) (sp:Fm) (rk:Int) (a b:Fm)
  | ife (f:Fm) (t e:Ds)
  | fin
inductive Ds where
  | nil
  | cons (d:Dd) (r:Ds)
end
inductive Flt where
  | nought
  | great
  | full
  | dry
  | span
  | late
structure Ev where
  t:Int
  r:Int
  fr:Int
  c:Int
  to:Int
  sg:Str
  a:Int
  b:Int
structure Wk where
  bx:List (Str×Int)
  qu:List (Str×List Int)
  dr:Nat
  se:Int
  wr:List Str
  out:List Ev
  en:Bool
  rk:List Fm
  qn:List Str
def Wk.len (w:Wk):Nat:=w.out.length + w.rk.length
def tK (ps:List (Str×Int)) (x:Str):Int:=(ps.lookup x).getD 0
def jE (ps:List (Str×List Int)) (x:Str):List Int:=(ps.lookup x).getD []
def mP {α:Type} (ps:List (Str×α)) (x:Str) (n:α):List (Str×α):=ps.map fun p=>if p.1=x then (p.1,n) else p
def lR (xs:List Str) (x:Str):List Str:=if x∈xs then xs else xs++[x]
def xm (h:Ev) (w:Wk):vP:=⟨tK w.bx,fun q=>(jE w.qu q).length,h.a,h.b,h.t⟩
def rck (h:Ev) (w:Wk) (f:Fm) (k:Wk->Int->Except Flt Wk):Except Flt Wk:=match ev (xm h w) f with
  | .ok n=>k {w with rk:=w.rk++[f]} n
  | .nought=>.error .nought
  | .great=>.error .great
def CZ (w:Wk) (x:Str) (n:Int):Wk:={w with bx:=mP w.bx x n,wr:=lR w.wr x}
def sendW (h:Ev) (w:Wk) (to:Int) (sg:Str) (rk t a b:Int):Wk:={w with se:=w.se + 1,out:=w.out++[⟨t,rk,h.to,w.se,to,sg,a,b⟩]}
mutual
def doD (h:Ev) (ds:List Int):Dd->Wk->Except Flt Wk
  | .put x f,w=>rck h w f fun w n=>.ok (CZ w x n)
  | .push q f,w=>rck h w f fun w n=>if 30<=(jE w.qu q).length then .error .full else .ok {w with qu:=mP w.qu q (jE w.qu q++[n]),wr:=lR w.wr q,qn:=lR w.qn q}
  | .pull q x o,w=>match jE w.qu q with
    | []=>doS h ds o {w with qn:=lR w.qn q}
    | n :: ns=>.ok {w with qu:=mP w.qu q ns,bx:=mP w.bx x n,wr:=lR (lR w.wr x) q,qn:=lR w.qn q}
  | .draw x f,w=>rck h w f fun w n=>if n < 1 then .error .nought else if ds=[] then .error .dry else .ok (CZ {w with dr:=w.dr + 1} x (ds.getD (w.dr % ds.length) 0 % n))
  | .send to sg sp rk a b,w=>rck h w sp fun w n=>if n < 1\/10 ^ 6 < n then .error .span else rck h w a fun w x=>rck h w b fun w y=>if 10 ^ 12 < h.t + n then .error .late else .ok (sendW h w to sg rk (h.t + n) x y)
  | .ife f t e,w=>rck h w f fun w n=>if n=0 then doS h ds e w else doS h ds t w
  | .fin,w=>.ok {w with en:=true}
def doS (h:Ev) (ds:List Int):Ds->Wk->Except Flt Wk
  | .nil,w=>.ok w
  | .cons d r,w=>match doD h ds d w with
    | .ok w'=>doS h ds r w'
    | .error e=>.error e
end
mutual
def Dd.deep:Dd->Nat
  | .pull _ _ o=>o.deep + 1
  | .ife _ t e=>max t.deep e.deep + 1
  | _=>0
def Ds.deep:Ds->Nat
  | .nil=>0
  | .cons d r=>max d.deep r.deep
end
def lF (H:Hp) (R:List V->Prop) (v:V):Prop:=∃ l vs,v=.ref l/\H l=some (.lst vs)/\vs.length < 1000/\R vs
def FmI (bs qs:List Str) (H:Hp) (v:V) (f:Fm):Prop:=iR bs qs H v f/\f.depth<=15
mutual
def eJ (bs qs:List Str) (H:Hp):Dd->V->Prop
  | .put x f,v=>∃ t u,v=.ref t/\H t=some (.tup [.str "put",.str x,u])/\x∈bs/\FmI bs qs H u f
  | .push q f,v=>∃ t u,v=.ref t/\H t=some (.tup [.str "push",.str q,u])/\q∈qs/\FmI bs qs H u f
  | .pull q x o,v=>∃ t u,v=.ref t/\H t=some (.tup [.str "pull",.str q,.str x,u])/\q∈qs/\x∈bs/\lF H (fg bs qs H o) u
  | .draw x f,v=>∃ t u,v=.ref t/\H t=some (.tup [.str "draw",.str x,u])/\x∈bs/\FmI bs qs H u f
  | .send to sg sp rk a b,v=>∃ t u u1 u2,v=.ref t/\H t=some (.tup [.str "send",.int to,.str sg,u,.int rk,u1,u2])/\FmI bs qs H u sp/\FmI bs qs H u1 a/\FmI bs qs H u2 b
  | .ife f x y,v=>∃ t u u1 u2,v=.ref t/\H t=some (.tup [.str "if",u,u1,u2])/\FmI bs qs H u f/\lF H (fg bs qs H x) u1/\lF H (fg bs qs H y) u2
  | .fin,v=>∃ t,v=.ref t/\H t=some (.tup [.str "end"])
def fg (bs qs:List Str) (H:Hp):Ds->List V->Prop
  | .nil,vs=>vs=[]
  | .cons d r,vs=>∃ v vr,vs=v :: vr/\eJ bs qs H d v/\fg bs qs H r vr
end
theorem lF.same {H H':Hp} (s:bT H H') {R R':List V->Prop} (f:∀ vs,R vs->R' vs) {v:V} (h:lF H R v):lF H' R' v:=by
  obtain ⟨l,vs,e,h1,h2,h3⟩:=h
  exact ⟨l,vs,e,s _ _ h1,h2,f vs h3⟩
theorem FmI.same {bs qs:List Str} {H H':Hp} (s:bT H H') {v:V} {f:Fm} (h:FmI bs qs H v f):FmI bs qs H' v f:=⟨h.1.same s,h.2⟩
mutual
theorem eJ.same {bs qs:List Str} {H H':Hp} (s:bT H H'):∀ (d:Dd) (v:V),eJ bs qs H d v->eJ bs qs H' d v
  | .put x f,v,h=>by
    obtain ⟨t,u,e,h1,h2,h3⟩:=(by simpa only [eJ] using h)
    simp only [eJ]
    exact ⟨t,u,e,s _ _ h1,h2,h3.same s⟩
  | .push q f,v,h=>by
    obtain ⟨t,u,e,h1,h2,h3⟩:=(by simpa only [eJ] using h)
    simp only [eJ]
    exact ⟨t,u,e,s _ _ h1,h2,h3.same s⟩
  | .pull q x o,v,h=>by
    obtain ⟨t,u,e,h1,h2,h3,h4⟩:=(by simpa only [eJ] using h)
    simp only [eJ]
    exact ⟨t,u,e,s _ _ h1,h2,h3,h4.same s (fg.same s o)⟩
  | .draw x f,v,h=>by
    obtain ⟨t,u,e,h1,h2,h3⟩:=(by simpa only [eJ] using h)
    simp only [eJ]
    exact ⟨t,u,e,s _ _ h1,h2,h3.same s⟩
  | .send to sg sp rk a b,v,h=>by
    obtain ⟨t,u,u1,u2,e,h1,h2,h3,h4⟩:=(by simpa only [eJ] using h)
    simp only [eJ]
    exact ⟨t,u,u1,u2,e,s _ _ h1,h2.same s,h3.same s,h4.same s⟩
  | .ife f x y,v,h=>by
    obtain ⟨t,u,u1,u2,e,h1,h2,h3,h4⟩:=(by simpa only [eJ] using h)
    simp only [eJ]
    exact ⟨t,u,u1,u2,e,s _ _ h1,h2.same s,h3.same s (fg.same s x),h4.same s (fg.same s y)⟩
  | .fin,v,h=>by
    obtain ⟨t,e,h1⟩:=(by simpa only [eJ] using h)
    simp only [eJ]
    exact ⟨t,e,s _ _ h1⟩
theorem fg.same {bs qs:List Str} {H H':Hp} (s:bT H H'):∀ (d:Ds) (vs:List V),fg bs qs H d vs->fg bs qs H' d vs
  | .nil,vs,h=>by
    simpa only [fg] using h
  | .cons d r,vs,h=>by
    obtain ⟨v,vr,e,h1,h2⟩:=(by simpa only [fg] using h)
    simp only [fg]
    exact ⟨v,vr,e,eJ.same s d v h1,fg.same s r vr h2⟩
end
def hZ (H:Hp) (v:V) (e:Ev):Prop:=∃ t k,v=.ref t/\H t=some (.tup [.ref k,.int e.to,.str e.sg,.int e.a,.int e.b])/\H k=some (.tup [.int e.t,.int e.r,.int e.fr,.int e.c])
theorem hZ.same {H H':Hp} (s:bT H H') {v:V} {e:Ev} (h:hZ H v e):hZ H' v e:=by
  obtain ⟨t,k,e1,h1,h2⟩:=h
  exact ⟨t,k,e1,s _ _ h1,s _ _ h2⟩
def boK (ps:List (Str×Int)):List (Key×V):=ps.map fun p=>((Sum.inr p.1:Key),V.int p.2)
def quK (ps:List (Str×ae)):List (Key×V):=ps.map fun p=>((Sum.inr p.1:Key),V.ref p.2)
def wrK (xs:List Str):List (Key×V):=xs.map fun x=>((Sum.inr x:Key),V.bl true)
theorem qg {α:Type} (g:α->V) (x:Str):∀ ps:List (Str×α),kY (ps.map fun p=>((Sum.inr p.1:Key),g p.2)) (Sum.inr x)=(ps.lookup x).map g
  | []=>rfl
  | p :: ps=>by
    rw [cw]
    by_cases c:p.1=x
    · rw [oa (by rw [c])]
      obtain ⟨a,b⟩:=p
      dsimp only at c
      subst c
      rw [bM]
      rfl
    · rw [oh (fun z=>c (lB z)),qg g x ps]
      obtain ⟨a,b⟩:=p
      dsimp only at c
      rw [cD]
      have:(x == a)=false:=beq_eq_false_iff_ne.mpr fun z=>c z.symm
      rw [this]
theorem Fk {α:Type} (g:α->V) (x:Str) (n:α) {ps:List (Str×α)} (h:(ps.lookup x).isSome=true):jD (ps.map fun p=>((Sum.inr p.1:Key),g p.2)) (Sum.inr x) (g n)=(mP ps x n).map fun p=>((Sum.inr p.1:Key),g p.2):=by
  unfold jD
  rw [kF,qg,qy,h,if_pos rfl]
  unfold mP
  rw [eG,eG]
  apply i5
  intro p _
  by_cases c:p.1=x
  · simp only [o8,c,if_true]
  · simp only [o8,if_neg c,if_neg (fun z=>c (lB z):¬ (Sum.inr p.1:Key)=Sum.inr x)]
theorem zE (xs:List Str) (x:Str):kY (wrK xs) (Sum.inr x)=if x∈xs then some (.bl true) else none:=by
  induction xs with
  | nil=>rfl
  | cons y xs ih =>
    unfold wrK at ih |-
    rw [cw]
    by_cases c:y=x
    · rw [oa (by rw [c]),if_pos (by rw [c]; exact aC)]
    · rw [oh (fun z=>c (lB z)),ih]
      by_cases m:x∈xs
      · rw [if_pos m,if_pos (af _ m)]
      · rw [if_neg m,if_neg]
        intro z
        rcases ax.mp z with z | z
        · exact c z.symm
        · exact m z
theorem zF (xs:List Str) (x:Str):jD (wrK xs) (Sum.inr x) (.bl true)=wrK (lR xs x):=by
  unfold jD
  rw [kF,zE]
  by_cases m:x∈xs
  · rw [if_pos m]
    unfold lR
    rw [if_pos m]
    show (if true=true then _ else _)=_
    rw [if_pos rfl]
    unfold wrK
    rw [eG]
    apply i5
    intro y _
    by_cases c:y=x
    · simp only [o8,c,if_true]
    · simp only [o8,if_neg (fun z=>c (lB z):¬ (Sum.inr y:Key)=Sum.inr x)]
  · rw [if_neg m]
    unfold lR
    rw [if_neg m]
    show (if false=true then _ else _)=_
    rw [if_neg (by decide)]
    unfold wrK
    rw [cy]
    rfl
theorem uX {α:Type} (ps:List (Str×α)) (x:Str) (n:α):(mP ps x n).map (·.1)=ps.map (·.1):=by
  unfold mP
  rw [eG]
  apply i5
  intro p _
  show (if p.1=x then (p.1,n) else p).1=p.1
  split <;> rfl
theorem me {α:Type} {x:Str}:∀ {ps:List (Str×α)},x∈ps.map (·.1)->∃ a,ps.lookup x=some a/\(x,a)∈ps
  | [],h=>by cases h
  | p :: ps,h=>by
    obtain ⟨k,a⟩:=p
    by_cases c:x=k
    · subst c
      exact ⟨a,bM,aC⟩
    · have h':x∈ps.map (·.1):=by
        rcases ax.mp h with z | z
        · exact absurd z c
        · exact z
      obtain ⟨b,h1,h2⟩:=me h'
      refine ⟨b,?_,af _ h2⟩
      rw [cD,beq_eq_false_iff_ne.mpr c]
      exact h1
theorem xn {α:Type} {x:Str} {n:α} {ps:List (Str×α)} {q:Str×α} (h:q∈mP ps x n):q∈ps\/q.2=n:=by
  obtain ⟨p,hp,e⟩:=cN.mp h
  by_cases c:p.1=x
  · rw [if_pos c] at e
    subst e
    exact .inr rfl
  · rw [if_neg c] at e
    subst e
    exact .inl hp
end My
namespace My
open PySem L2
structure DT (K:ag) (mg:Str->Option aa) (CD:ae):Prop where
  cl:Cls K CD
  nM:e8 K CD "machine"
  nH:e8 K CD "happening"
  nS:e8 K CD "state"
  nW:e8 K CD "written"
  nO:e8 K CD "outgoing"
  nE:e8 K CD "ends"
  nR:e8 K CD "reckoned"
  nQ:e8 K CD "queued"
  mD:mg "Doing"=some (.ref CD)
def dF (m h:V) (st wd od:ae) (en:Bool) (rd ud:ae):List (Str×V):=[("machine",m),("happening",h),("state",.ref st),("written",.ref wd),("outgoing",.ref od),("ends",.bl en),("reckoned",.ref rd),("queued",.ref ud)]
abbrev yI:List Str:=["machine","happening","state","written","outgoing","ends","reckoned","queued"]
theorem IH (m h:V) (st wd od:ae) (en:Bool) (rd ud:ae):(dF m h st wd od en rd ud).lookup ("machine":Str)=some m:=bM
theorem dW {k x:Str} {v:V} {r:List (Str×V)} (h:(x == k)=false):((k,v) :: r).lookup x=r.lookup x:=by rw [cD,h]
theorem Fl (m h:V) (st wd od:ae) (en:Bool) (rd ud:ae):(dF m h st wd od en rd ud).lookup ("happening":Str)=some h:=by
  unfold dF
  rw [dW (by decide +kernel),bM]
theorem uo (m h:V) (st wd od:ae) (en:Bool) (rd ud:ae):(dF m h st wd od en rd ud).lookup ("state":Str)=some (.ref st):=by
  unfold dF
  rw [dW (by decide +kernel),dW (by decide +kernel),bM]
theorem C0 (m h:V) (st wd od:ae) (en:Bool) (rd ud:ae):(dF m h st wd od en rd ud).lookup ("written":Str)=some (.ref wd):=by
  unfold dF
  rw [dW (by decide +kernel),dW (by decide +kernel),dW (by decide +kernel),bM]
theorem dF_o (m h:V) (st wd od:ae) (en:Bool) (rd ud:ae):(dF m h st wd od en rd ud).lookup ("outgoing":Str)=some (.ref od):=by
  unfold dF
  rw [dW (by decide +kernel),dW (by decide +kernel),dW (by decide +kernel),dW (by decide +kernel),bM]
theorem dF_e (m h:V) (st wd od:ae) (en:Bool) (rd ud:ae):(dF m h st wd od en rd ud).lookup ("ends":Str)=some (.bl en):=by
  unfold dF
  rw [dW (by decide +kernel),dW (by decide +kernel),dW (by decide +kernel),dW (by decide +kernel),dW (by decide +kernel),bM]
theorem dF_r (m h:V) (st wd od:ae) (en:Bool) (rd ud:ae):(dF m h st wd od en rd ud).lookup ("reckoned":Str)=some (.ref rd):=by
  unfold dF
  rw [dW (by decide +kernel),dW (by decide +kernel),dW (by decide +kernel),dW (by decide +kernel),dW (by decide +kernel),dW (by decide +kernel),bM]
theorem dF_u (m h:V) (st wd od:ae) (en:Bool) (rd ud:ae):(dF m h st wd od en rd ud).lookup ("queued":Str)=some (.ref ud):=by
  unfold dF
  rw [dW (by decide +kernel),dW (by decide +kernel),dW (by decide +kernel),dW (by decide +kernel),dW (by decide +kernel),dW (by decide +kernel),dW (by decide +kernel),bM]
theorem m7 (m h:V) (st wd od:ae) (en:Bool) (rd ud:ae) {x:Str} (hx:yI.contains x=false):(dF m h st wd od en rd ud).lookup x=none:=by
  have z:∀ k∈yI,(x == k)=false:=fun k hk=>beq_eq_false_iff_ne.mpr fun e=>by
    rw [e,oS.mpr hk] at hx
    cases hx
  unfold dF
  rw [dW (z _ (by simp)),dW (z _ (by simp)),dW (z _ (by simp)),dW (z _ (by simp)),dW (z _ (by simp)),dW (z _ (by simp)),dW (z _ (by simp)),dW (z _ (by simp))]
  rfl
theorem sne {a b:Str} (h:(a == b)=false):¬ a=b:=fun e=>by
  rw [e,beq_self_eq_true] at h
  cases h
theorem II (m h:V) (st wd od:ae) (en:Bool) (rd ud:ae):dD "queued" (.ref ud) (dD "reckoned" (.ref rd) (dD "ends" (.bl en) (dD "outgoing" (.ref od) (dD "written" (.ref wd) (dD "state" (.ref st) (dD "happening" h (dD "machine" m [])))))))=dF m h st wd od en rd ud:=by
  simp only [dF,dD,if_neg (sne (a:="machine") (b:="happening") (by decide +kernel)),if_neg (sne (a:="machine") (b:="state") (by decide +kernel)),if_neg (sne (a:="machine") (b:="written") (by decide +kernel)),if_neg (sne (a:="machine") (b:="outgoing") (by decide +kernel)),if_neg (sne (a:="machine") (b:="ends") (by decide +kernel)),if_neg (sne (a:="machine") (b:="reckoned") (by decide +kernel)),if_neg (sne (a:="machine") (b:="queued") (by decide +kernel)),if_neg (sne (a:="happening") (b:="state") (by decide +kernel)),if_neg (sne (a:="happening") (b:="written") (by decide +kernel)),if_neg (sne (a:="happening") (b:="outgoing") (by decide +kernel)),if_neg (sne (a:="happening") (b:="ends") (by decide +kernel)),if_neg (sne (a:="happening") (b:="reckoned") (by decide +kernel)),if_neg (sne (a:="happening") (b:="queued") (by decide +kernel)),if_neg (sne (a:="state") (b:="written") (by decide +kernel)),if_neg (sne (a:="state") (b:="outgoing") (by decide +kernel)),if_neg (sne (a:="state") (b:="ends") (by decide +kernel)),if_neg (sne (a:="state") (b:="reckoned") (by decide +kernel)),if_neg (sne (a:="state") (b:="queued") (by decide +kernel)),if_neg (sne (a:="written") (b:="outgoing") (by decide +kernel)),if_neg (sne (a:="written") (b:="ends") (by decide +kernel)),if_neg (sne (a:="written") (b:="reckoned") (by decide +kernel)),if_neg (sne (a:="written") (b:="queued") (by decide +kernel)),if_neg (sne (a:="outgoing") (b:="ends") (by decide +kernel)),if_neg (sne (a:="outgoing") (b:="reckoned") (by decide +kernel)),if_neg (sne (a:="outgoing") (b:="queued") (by decide +kernel)),if_neg (sne (a:="ends") (b:="reckoned") (by decide +kernel)),if_neg (sne (a:="ends") (b:="queued") (by decide +kernel)),if_neg (sne (a:="reckoned") (b:="queued") (by decide +kernel))]
theorem IJ (m h:V) (st wd od:ae) (en e2:Bool) (rd ud:ae):dD "ends" (.bl e2) (dF m h st wd od en rd ud)=dF m h st wd od e2 rd ud:=by
  simp only [dF,dD,if_neg (sne (a:="machine") (b:="ends") (by decide +kernel)),if_neg (sne (a:="happening") (b:="ends") (by decide +kernel)),if_neg (sne (a:="state") (b:="ends") (by decide +kernel)),if_neg (sne (a:="written") (b:="ends") (by decide +kernel)),if_neg (sne (a:="outgoing") (b:="ends") (by decide +kernel)),if_true]
theorem j3 (b q d e:V):mO b q d e=([("boxes",b),("queues",q),("drawn",d),("sent",e)]:List (Str×V)):=by
  simp only [mO,dD,if_neg (sne (a:="boxes") (b:="queues") (by decide +kernel)),if_neg (sne (a:="boxes") (b:="drawn") (by decide +kernel)),if_neg (sne (a:="boxes") (b:="sent") (by decide +kernel)),if_neg (sne (a:="queues") (b:="drawn") (by decide +kernel)),if_neg (sne (a:="queues") (b:="sent") (by decide +kernel)),if_neg (sne (a:="drawn") (b:="sent") (by decide +kernel))]
theorem IK (b q d e d':V):dD "drawn" d' (mO b q d e)=mO b q d' e:=by
  rw [j3,j3]
  simp only [dD,if_neg (sne (a:="boxes") (b:="drawn") (by decide +kernel)),if_neg (sne (a:="queues") (b:="drawn") (by decide +kernel)),if_true]
theorem IL (b q d e e':V):dD "sent" e' (mO b q d e)=mO b q d e':=by
  rw [j3,j3]
  simp only [dD,if_neg (sne (a:="boxes") (b:="sent") (by decide +kernel)),if_neg (sne (a:="queues") (b:="sent") (by decide +kernel)),if_neg (sne (a:="drawn") (b:="sent") (by decide +kernel)),if_true]
theorem Fn (b q d e:V):(mO b q d e).lookup ("boxes":Str)=some b:=by rw [j3,bM]
theorem Fo (b q d e:V):(mO b q d e).lookup ("queues":Str)=some q:=by rw [j3,dW (by decide +kernel),bM]
theorem IM (b q d e:V):(mO b q d e).lookup ("drawn":Str)=some d:=by rw [j3,dW (by decide +kernel),dW (by decide +kernel),bM]
theorem IP (b q d e:V):(mO b q d e).lookup ("sent":Str)=some e:=by rw [j3,dW (by decide +kernel),dW (by decide +kernel),dW (by decide +kernel),bM]
theorem st_no (b q d e:V) {x:Str} (hx:(["boxes","queues","drawn","sent"]:List Str).contains x=false):(mO b q d e).lookup x=none:=by
  have z:∀ k∈(["boxes","queues","drawn","sent"]:List Str),(x == k)=false:=fun k hk=>beq_eq_false_iff_ne.mpr fun e=>by
    rw [e,oS.mpr hk] at hx
    cases hx
  rw [j3,dW (z _ (by simp)),dW (z _ (by simp)),dW (z _ (by simp)),dW (z _ (by simp))]
  rfl
theorem C1 (b q d e:V):(mO b q d e).length < 1000:=by
  rw [j3]
  show 4 < 1000
  decide
theorem IQ (m h:V) (st wd od:ae) (en:Bool) (rd ud:ae):(dF m h st wd od en rd ud).length < 1000:=by show 8 < 1000; decide
structure Lay where
  d:ae
  dx:ae
  st:ae
  dxs:ae
  bd:ae
  qd:ae
  wd:ae
  od:ae
  rd:ae
  ud:ae
  m:V
  hv:V
  qa:List (Str×ae)
def Lay.all (L:Lay):List ae:=L.d :: L.st :: L.bd :: L.qd :: L.wd :: L.od :: L.rd :: L.ud :: L.qa.map (·.2)
def gu (G:Hp):List (Str×ae)->List (Str×List Int)->Prop:=aX fun p q=>p.1=q.1/\G p.2=some (.lst (q.2.map V.int))
structure o9 (bs qs:List Str) (w:Wk):Prop where
  kb:w.bx.map (·.1)=bs
  kq:w.qu.map (·.1)=qs
  nb:bs.Nodup
  nq:qs.Nodup
  wb:∀ p∈w.bx,Wo p.2
  wq:∀ p∈w.qu,p.2.length<=30/\∀ n∈p.2,Wo n
  nw:w.wr.Nodup
  sw:∀ x∈w.wr,x∈bs++qs
  nu:w.qn.Nodup
  su:∀ x∈w.qn,x∈bs++qs
  wo:∀ e∈w.out,Wo e.a/\Wo e.b
  fw:(bs++qs).length < 100
structure Dg (CD CS:ae) (bs qs:List Str) (H0 G:Hp) (L:Lay) (h:Ev) (ds:List Int) (w:Wk):Prop where
  sm:bT H0 G
  hd:G L.d=some (.ins CD L.dx (dF L.m L.hv L.st L.wd L.od w.en L.rd L.ud))
  hst:G L.st=some (.ins CS L.dxs (mO (.ref L.bd) (.ref L.qd) (.int w.dr) (.int w.se)))
  hb:G L.bd=some (.dK (boK w.bx))
  hq:G L.qd=some (.dK (quK L.qa))
  hl:gu G L.qa w.qu
  hw:G L.wd=some (.dK (wrK w.wr))
  ho:∃ vs,G L.od=some (.lst vs)/\aX (hZ G) vs w.out
  hr:∃ rs,G L.rd=some (.lst rs)/\aX (FmI bs qs H0) rs w.rk
  hu:G L.ud=some (.dK (wrK w.qn))
  hh:hZ H0 L.hv h
  hm:∃ t x1 x2 x3 x4 dl,L.m=.ref t/\H0 t=some (.tup [x1,x2,x3,.ref dl,x4])/\H0 dl=some (.lst (ds.map V.int))
  nd:L.all.Nodup
  fr:∀ a∈L.all,H0 a=none
  ok:o9 bs qs w
  wt:Wo h.t
  wa:Wo h.a
  wb:Wo h.b
section
variable {CD CS:ae} {bs qs:List Str} {H0 G G':Hp} {L:Lay} {h:Ev} {ds:List Int} {w:Wk}
theorem gu.keep (k:∀ a u,G a=some u->a∈L.qa.map (·.2)->G' a=some u) {qa:List (Str×ae)} {qu:List (Str×List Int)} (sub:∀ p∈qa,p∈L.qa) (q:gu G qa qu):gu G' qa qu:=by
  unfold gu at q |-
  induction q with
  | nil=>exact .nil
  | cons a _ ih=>exact .cons ⟨a.1,k _ _ a.2 (cN.mpr ⟨_,sub _ aC,rfl⟩)⟩ (ih fun p hp=>sub p (af _ hp))
theorem Paired.mono {α β:Type} {R S:α->β->Prop} (f:∀ a b,R a b->S a b) {xs:List α} {ys:List β} (r:aX R xs ys):aX S xs ys:=L2.Paired.imp' f r
theorem Dg.same (g:Dg CD CS bs qs H0 G L h ds w) (s:bT G G'):Dg CD CS bs qs H0 G' L h ds w:=by
  obtain ⟨vs,o1,o2⟩:=g.ho
  obtain ⟨rs,r1,r2⟩:=g.hr
  exact ⟨g.sm.trans s,s _ _ g.hd,s _ _ g.hst,s _ _ g.hb,s _ _ g.hq,g.hl.keep (L:=L) (fun a u e _=>s _ _ e) (fun _ hp=>hp),s _ _ g.hw,⟨vs,s _ _ o1,Paired.mono (fun _ _ z=>z.same s) o2⟩,⟨rs,s _ _ r1,r2⟩,s _ _ g.hu,g.hh,g.hm,g.nd,g.fr,g.ok,g.wt,g.wa,g.wb⟩
structure Lay.Ne (L:Lay):Prop where
  ds:L.d≠L.st
  db:L.d≠L.bd
  dq:L.d≠L.qd
  dw:L.d≠L.wd
  do_:L.d≠L.od
  dr:L.d≠L.rd
  du:L.d≠L.ud
  dl:∀ a∈L.qa.map (·.2),L.d≠a
  sb:L.st≠L.bd
  sq:L.st≠L.qd
  sw:L.st≠L.wd
  so:L.st≠L.od
  sr:L.st≠L.rd
  su:L.st≠L.ud
  sl:∀ a∈L.qa.map (·.2),L.st≠a
  bq:L.bd≠L.qd
  bw:L.bd≠L.wd
  bo:L.bd≠L.od
  br:L.bd≠L.rd
  bu:L.bd≠L.ud
  bl:∀ a∈L.qa.map (·.2),L.bd≠a
  qw:L.qd≠L.wd
  qo:L.qd≠L.od
  qr:L.qd≠L.rd
  qu:L.qd≠L.ud
  ql:∀ a∈L.qa.map (·.2),L.qd≠a
  wo:L.wd≠L.od
  wr:L.wd≠L.rd
  wu:L.wd≠L.ud
  wl:∀ a∈L.qa.map (·.2),L.wd≠a
  or:L.od≠L.rd
  ou:L.od≠L.ud
  ol:∀ a∈L.qa.map (·.2),L.od≠a
  ru:L.rd≠L.ud
  rl:∀ a∈L.qa.map (·.2),L.rd≠a
  ul:∀ a∈L.qa.map (·.2),L.ud≠a
  ll:(L.qa.map (·.2)).Nodup
theorem Lay.ne (nd:L.all.Nodup):L.Ne:=by
  unfold Lay.all at nd
  have cut:∀ {a:ae} {xs:List ae},(a :: xs).Nodup->(∀ b∈xs,a≠b)/\xs.Nodup:=fun {a xs} z=>by
    obtain ⟨z1,z2⟩:=cM.mp z
    exact ⟨fun b hb e=>z1 (by rw [e]; exact hb),z2⟩
  obtain ⟨a1,nd⟩:=cut nd
  obtain ⟨a2,nd⟩:=cut nd
  obtain ⟨a3,nd⟩:=cut nd
  obtain ⟨a4,nd⟩:=cut nd
  obtain ⟨a5,nd⟩:=cut nd
  obtain ⟨a6,nd⟩:=cut nd
  obtain ⟨a7,nd⟩:=cut nd
  obtain ⟨a8,nd⟩:=cut nd
  have i1:∀ {b:ae} {xs:List ae},b∈b :: xs:=aC
  have i2:∀ {a b:ae} {xs:List ae},b∈xs->b∈a :: xs:=fun z=>af _ z
  exact ⟨a1 _ i1,a1 _ (i2 i1),a1 _ (i2 (i2 i1)),a1 _ (i2 (i2 (i2 i1))),a1 _ (i2 (i2 (i2 (i2 i1)))),a1 _ (i2 (i2 (i2 (i2 (i2 i1))))),a1 _ (i2 (i2 (i2 (i2 (i2 (i2 i1)))))),fun a ha=>a1 _ (i2 (i2 (i2 (i2 (i2 (i2 (i2 ha))))))),a2 _ i1,a2 _ (i2 i1),a2 _ (i2 (i2 i1)),a2 _ (i2 (i2 (i2 i1))),a2 _ (i2 (i2 (i2 (i2 i1)))),a2 _ (i2 (i2 (i2 (i2 (i2 i1))))),fun a ha=>a2 _ (i2 (i2 (i2 (i2 (i2 (i2 ha)))))),a3 _ i1,a3 _ (i2 i1),a3 _ (i2 (i2 i1)),a3 _ (i2 (i2 (i2 i1))),a3 _ (i2 (i2 (i2 (i2 i1)))),fun a ha=>a3 _ (i2 (i2 (i2 (i2 (i2 ha))))),a4 _ i1,a4 _ (i2 i1),a4 _ (i2 (i2 i1)),a4 _ (i2 (i2 (i2 i1))),fun a ha=>a4 _ (i2 (i2 (i2 (i2 ha)))),a5 _ i1,a5 _ (i2 i1),a5 _ (i2 (i2 i1)),fun a ha=>a5 _ (i2 (i2 (i2 ha))),a6 _ i1,a6 _ (i2 i1),fun a ha=>a6 _ (i2 (i2 ha)),a7 _ i1,fun a ha=>a7 _ (i2 ha),fun a ha=>a8 _ ha,nd⟩
theorem lG {a:ae} {o:HO} (nt:∀ xs,G a≠some (.tup xs)) {vs:List V} {es:List Ev} (r:aX (hZ G) vs es):aX (hZ (upd G a o)) vs es:=
  Paired.mono (fun v e z=>by
    obtain ⟨t,k,e1,h1,h2⟩:=z
    refine ⟨t,k,e1,?_,?_⟩
    · rw [aV fun y=>nt _ (by rw [<- y]; exact h1)]
      exact h1
    · rw [aV fun y=>nt _ (by rw [<- y]; exact h2)]
      exact h2) r
theorem Dg.sm_upd (g:Dg CD CS bs qs H0 G L h ds w) {a:ae} (ha:a∈L.all) (o:HO):bT H0 (upd G a o):=fun b u e=>by
  rw [aV (aH e (g.fr a ha))]
  exact g.sm _ _ e
theorem in_d:L.d∈L.all:=aC
theorem He:L.st∈L.all:=af _ aC
theorem Hf:L.bd∈L.all:=af _ (af _ aC)
theorem in_qd:L.qd∈L.all:=af _ (af _ (af _ aC))
theorem in_wd:L.wd∈L.all:=af _ (af _ (af _ (af _ aC)))
theorem Hg:L.od∈L.all:=af _ (af _ (af _ (af _ (af _ aC))))
theorem in_rd:L.rd∈L.all:=af _ (af _ (af _ (af _ (af _ (af _ aC)))))
theorem in_ud:L.ud∈L.all:=af _ (af _ (af _ (af _ (af _ (af _ (af _ aC))))))
theorem in_l {a:ae} (h:a∈L.qa.map (·.2)):a∈L.all:=af _ (af _ (af _ (af _ (af _ (af _ (af _ (af _ h)))))))
theorem bA {o o':HO} {a b:ae} (e:G a=some o) (n:a≠b):upd G b o' a=some o:=by rw [aV n]; exact e
theorem lH {o:HO} {a:ae} (e:G a=some o) (n:∀ xs,o≠.tup xs):∀ xs,G a≠some (.tup xs):=fun xs z=>by
  rw [e] at z
  cases z
  exact n xs rfl
theorem Dg.box (g:Dg CD CS bs qs H0 G L h ds w) {x:Str} {n:Int} (wn:Wo n):Dg CD CS bs qs H0 (upd G L.bd (.dK (boK (mP w.bx x n)))) L h ds {w with bx:=mP w.bx x n}:=by
  have N:=Lay.ne g.nd
  obtain ⟨vs,o1,o2⟩:=g.ho
  obtain ⟨rs,r1,r2⟩:=g.hr
  refine ⟨g.sm_upd Hf _,bA g.hd N.db,bA g.hst N.sb,ao,bA g.hq N.bq.symm,g.hl.keep (L:=L) (fun a u e m=>bA e (N.bl a m).symm) (fun _ hp=>hp),bA g.hw N.bw.symm,⟨vs,bA o1 N.bo.symm,lG (lH g.hb (fun _ z=>by cases z)) o2⟩,⟨rs,bA r1 N.br.symm,r2⟩,bA g.hu N.bu.symm,g.hh,g.hm,g.nd,g.fr,?_,g.wt,g.wa,g.wb⟩
  obtain ⟨kb,kq,nb,nq,wb,wq,nw,sw,nu,su,wo,fw⟩:=g.ok
  refine ⟨(uX _ _ _).trans kb,kq,nb,nq,fun p hp=>?_,wq,nw,sw,nu,su,wo,fw⟩
  rcases xn hp with z | z
  · exact wb p z
  · rw [z]
    exact wn
theorem zG {xs:List Str} {x:Str} (h:xs.Nodup):(lR xs x).Nodup:=by
  unfold lR
  by_cases c:x∈xs
  · rw [if_pos c]
    exact h
  · rw [if_neg c]
    refine iG.mpr ⟨h,by simp,fun a ha b hb=>?_⟩
    rw [aM.mp hb]
    exact fun z=>c (by rw [<- z]; exact ha)
theorem xo {xs:List Str} {x y:Str} (h:y∈lR xs x):y∈xs\/y=x:=by
  unfold lR at h
  by_cases c:x∈xs
  · rw [if_pos c] at h
    exact .inl h
  · rw [if_neg c] at h
    rcases b8.mp h with z | z
    · exact .inl z
    · exact .inr (aM.mp z)
theorem C2 {xs:List Str}:∀ {ys:List Str},xs.Nodup->(∀ x∈xs,x∈ys)->xs.length<=ys.length:=by
  induction xs with
  | nil=>intro ys _ _; exact bK _
  | cons x xs ih =>
    intro ys nd s
    obtain ⟨n1,n2⟩:=cM.mp nd
    have hx:x∈ys:=s x aC
    have:=ih (ys:=ys.erase x) n2 fun z hz=>(List.mem_erase_of_ne (fun e=>n1 (by rw [<- e]; exact hz))).mpr (s z (af _ hz))
    rw [List.length_erase_of_mem hx] at this
    have:=List.length_pos_of_mem hx
    rw [bj]
    omega
theorem o9.few (k:o9 bs qs w):w.wr.length < 100:=gE (C2 k.nw k.sw) k.fw
theorem o9.few2 (k:o9 bs qs w):w.qn.length < 100:=gE (C2 k.nu k.su) k.fw
theorem zH (xs:List Str):(wrK xs).length=xs.length:=ah _
theorem fK:1000 < aJ:=by decide
theorem Dg.wrote (g:Dg CD CS bs qs H0 G L h ds w) {x:Str} (hx:x∈bs++qs):Dg CD CS bs qs H0 (upd G L.wd (.dK (wrK (lR w.wr x)))) L h ds {w with wr:=lR w.wr x}:=by
  have N:=Lay.ne g.nd
  obtain ⟨vs,o1,o2⟩:=g.ho
  obtain ⟨rs,r1,r2⟩:=g.hr
  refine ⟨g.sm_upd in_wd _,bA g.hd N.dw,bA g.hst N.sw,bA g.hb N.bw,bA g.hq N.qw,g.hl.keep (L:=L) (fun a u e m=>bA e (N.wl a m).symm) (fun _ hp=>hp),ao,⟨vs,bA o1 N.wo.symm,lG (lH g.hw (fun _ z=>by cases z)) o2⟩,⟨rs,bA r1 N.wr.symm,r2⟩,bA g.hu N.wu.symm,g.hh,g.hm,g.nd,g.fr,?_,g.wt,g.wa,g.wb⟩
  obtain ⟨kb,kq,nb,nq,wb,wq,nw,sw,nu,su,wo,fw⟩:=g.ok
  refine ⟨kb,kq,nb,nq,wb,wq,zG nw,fun y hy=>?_,nu,su,wo,fw⟩
  rcases xo hy with z | z
  · exact sw y z
  · rw [z]
    exact hx
theorem gu.at_ {x:Str}:∀ {qa:List (Str×ae)} {qu:List (Str×List Int)},gu G qa qu->x∈qu.map (·.1)->∃ l,qa.lookup x=some l/\G l=some (.lst ((jE qu x).map V.int))/\l∈qa.map (·.2)
  | _,_,.nil,m=>by cases m
  | (k,l) :: qa,(k',xs) :: qu,.cons a b,m=>by
    obtain ⟨e,ha⟩:=a
    dsimp only at e ha
    subst e
    by_cases c:x=k
    · subst c
      refine ⟨l,bM,?_,aC⟩
      unfold jE
      rw [bM]
      exact ha
    · have m':x∈qu.map (·.1):=by
        rcases ax.mp m with z | z
        · exact absurd z c
        · exact z
      obtain ⟨l',h1,h2,h3⟩:=gu.at_ b m'
      refine ⟨l',?_,?_,af _ h3⟩
      · rw [cD,beq_eq_false_iff_ne.mpr c]
        exact h1
      · unfold jE at h2 |-
        rw [cD,beq_eq_false_iff_ne.mpr c]
        exact h2
theorem oC {α:Type} {x:Str} {a:α}:∀ {ps:List (Str×α)},ps.lookup x=some a->(x,a)∈ps
  | [],h=>by cases h
  | (k,b) :: ps,h=>by
    by_cases c:x=k
    · subst c
      rw [bM] at h
      cases h
      exact aC
    · rw [cD,beq_eq_false_iff_ne.mpr c] at h
      exact af _ (oC h)
theorem AQ {α:Type} {x:Str} {n:α} {ps:List (Str×α)} (h:x∉ps.map (·.1)):mP ps x n=ps:=by
  unfold mP
  have:∀ p∈ps,(if p.1=x then (p.1,n) else p)=p:=fun p hp=>if_neg fun e=>h (cN.mpr ⟨p,hp,e⟩)
  rw [i5 this]
  exact List.map_id _
theorem gu.set {x:Str} {l:ae} {ns:List Int}:∀ {qa:List (Str×ae)} {qu:List (Str×List Int)},gu G qa qu->(qa.map (·.2)).Nodup->(qu.map (·.1)).Nodup->qa.lookup x=some l->gu (upd G l (.lst (ns.map V.int))) qa (mP qu x ns)
  | _,_,.nil,_,_,e=>by cases e
  | (k,l0) :: qa,(k',xs) :: qu,.cons a b,nd,nk,e=>by
    obtain ⟨ek,ha⟩:=a
    dsimp only at ek ha
    subst ek
    obtain ⟨n1,n2⟩:=cM.mp nd
    obtain ⟨m1,m2⟩:=cM.mp nk
    by_cases c:x=k
    · subst c
      rw [bM] at e
      cases e
      show gu _ _ ((if x=x then (x,ns) else (x,xs)) :: mP qu x ns)
      rw [if_pos rfl,AQ m1]
      refine .cons ⟨rfl,ao⟩ ?_
      refine gu.keep (L:=⟨0,0,0,0,0,0,0,0,0,0,.non,.non,qa⟩) (G:=G) (fun a u e m=>bA e fun z=>n1 (by rw [<- z]; exact m)) (fun _ hp=>hp) b
    · rw [cD,beq_eq_false_iff_ne.mpr c] at e
      show gu _ _ ((if k=x then (k,ns) else (k,xs)) :: mP qu x ns)
      rw [if_neg fun z=>c z.symm]
      refine .cons ⟨rfl,bA ha fun z=>n1 ?_⟩ (gu.set b n2 m2 e)
      show l0∈qa.map (·.2)
      rw [show l0=l from z]
      exact cN.mpr ⟨_,oC e,rfl⟩
theorem Dg.queue (g:Dg CD CS bs qs H0 G L h ds w) {x:Str} {l:ae} {ns:List Int} (hl:L.qa.lookup x=some l) (len:ns.length<=30) (wn:∀ n∈ns,Wo n):Dg CD CS bs qs H0 (upd G l (.lst (ns.map V.int))) L h ds {w with qu:=mP w.qu x ns}:=by
  have N:=Lay.ne g.nd
  have ml:l∈L.qa.map (·.2):=cN.mpr ⟨_,oC hl,rfl⟩
  obtain ⟨vs,o1,o2⟩:=g.ho
  obtain ⟨rs,r1,r2⟩:=g.hr
  obtain ⟨kb,kq,nb,nq,wb,wq,nw,sw,nu,su,wo,fw⟩:=g.ok
  have gl:∃ xs,G l=some (.lst xs):=by
    have key:∀ {qa:List (Str×ae)} {qu:List (Str×List Int)},gu G qa qu->l∈qa.map (·.2)->∃ xs,G l=some (.lst xs):=fun {qa qu} q=>by
      induction q with
      | nil=>intro m; cases m
      | cons a _ ih =>
        intro m
        rcases ax.mp m with z | z
        · rw [z]
          exact ⟨_,a.2⟩
        · exact ih z
    exact key g.hl ml
  obtain ⟨xs,gl⟩:=gl
  refine ⟨g.sm_upd (in_l ml) _,bA g.hd (N.dl l ml),bA g.hst (N.sl l ml),bA g.hb (N.bl l ml),bA g.hq (N.ql l ml),g.hl.set N.ll (by rw [kq]; exact nq) hl,bA g.hw (N.wl l ml),⟨vs,bA o1 (N.ol l ml),lG (lH gl (fun _ z=>by cases z)) o2⟩,⟨rs,bA r1 (N.rl l ml),r2⟩,bA g.hu (N.ul l ml),g.hh,g.hm,g.nd,g.fr,?_,g.wt,g.wa,g.wb⟩
  refine ⟨kb,(uX _ _ _).trans kq,nb,nq,wb,fun p hp=>?_,nw,sw,nu,su,wo,fw⟩
  rcases xn hp with z | z
  · exact wq p z
  · rw [z]
    exact ⟨len,wn⟩
theorem Dg.counts (g:Dg CD CS bs qs H0 G L h ds w) (dr:Nat) (se:Int):Dg CD CS bs qs H0 (upd G L.st (.ins CS L.dxs (mO (.ref L.bd) (.ref L.qd) (.int dr) (.int se)))) L h ds {w with dr:=dr,se:=se}:=by
  have N:=Lay.ne g.nd
  obtain ⟨vs,o1,o2⟩:=g.ho
  obtain ⟨rs,r1,r2⟩:=g.hr
  obtain ⟨kb,kq,nb,nq,wb,wq,nw,sw,nu,su,wo,fw⟩:=g.ok
  exact ⟨g.sm_upd He _,bA g.hd N.ds,ao,bA g.hb N.sb.symm,bA g.hq N.sq.symm,g.hl.keep (L:=L) (fun a u e m=>bA e (N.sl a m).symm) (fun _ hp=>hp),bA g.hw N.sw.symm,⟨vs,bA o1 N.so.symm,lG (lH g.hst (fun _ z=>by cases z)) o2⟩,⟨rs,bA r1 N.sr.symm,r2⟩,bA g.hu N.su.symm,g.hh,g.hm,g.nd,g.fr,⟨kb,kq,nb,nq,wb,wq,nw,sw,nu,su,wo,fw⟩,g.wt,g.wa,g.wb⟩
theorem Dg.sent (g:Dg CD CS bs qs H0 G L h ds w) {vs:List V} {v:V} {e:Ev} (hv:G L.od=some (.lst vs)) (he:hZ G v e) (we:Wo e.a/\Wo e.b):Dg CD CS bs qs H0 (upd G L.od (.lst (vs++[v]))) L h ds {w with out:=w.out++[e]}:=by
  have N:=Lay.ne g.nd
  obtain ⟨vs',o1,o2⟩:=g.ho
  obtain ⟨rs,r1,r2⟩:=g.hr
  rw [hv] at o1
  cases o1
  obtain ⟨kb,kq,nb,nq,wb,wq,nw,sw,nu,su,wo,fw⟩:=g.ok
  refine ⟨g.sm_upd Hg _,bA g.hd N.do_,bA g.hst N.so,bA g.hb N.bo,bA g.hq N.qo,g.hl.keep (L:=L) (fun a u e m=>bA e (N.ol a m).symm) (fun _ hp=>hp),bA g.hw N.wo,⟨_,ao,?_⟩,⟨rs,bA r1 N.or.symm,r2⟩,bA g.hu N.ou.symm,g.hh,g.hm,g.nd,g.fr,⟨kb,kq,nb,nq,wb,wq,nw,sw,nu,su,fun x hx=>(b8.mp hx).elim (wo x) fun z=>by rw [aM.mp z]; exact we,fw⟩,g.wt,g.wa,g.wb⟩
  exact lG (lH hv (fun _ z=>by cases z)) (eU o2 he)
theorem Dg.ended (g:Dg CD CS bs qs H0 G L h ds w):Dg CD CS bs qs H0 (upd G L.d (.ins CD L.dx (dF L.m L.hv L.st L.wd L.od true L.rd L.ud))) L h ds {w with en:=true}:=by
  have N:=Lay.ne g.nd
  obtain ⟨vs,o1,o2⟩:=g.ho
  obtain ⟨rs,r1,r2⟩:=g.hr
  obtain ⟨kb,kq,nb,nq,wb,wq,nw,sw,nu,su,wo,fw⟩:=g.ok
  exact ⟨g.sm_upd in_d _,ao,bA g.hst N.ds.symm,bA g.hb N.db.symm,bA g.hq N.dq.symm,g.hl.keep (L:=L) (fun a u e m=>bA e (N.dl a m).symm) (fun _ hp=>hp),bA g.hw N.dw.symm,⟨vs,bA o1 N.do_.symm,lG (lH g.hd (fun _ z=>by cases z)) o2⟩,⟨rs,bA r1 N.dr.symm,r2⟩,bA g.hu N.du.symm,g.hh,g.hm,g.nd,g.fr,⟨kb,kq,nb,nq,wb,wq,nw,sw,nu,su,wo,fw⟩,g.wt,g.wa,g.wb⟩
theorem Dg.reckoned (g:Dg CD CS bs qs H0 G L h ds w) {rs:List V} {v:V} {F:Fm} (hr:G L.rd=some (.lst rs)) (hF:FmI bs qs H0 v F):Dg CD CS bs qs H0 (upd G L.rd (.lst (rs++[v]))) L h ds {w with rk:=w.rk++[F]}:=by
  have N:=Lay.ne g.nd
  obtain ⟨vs,o1,o2⟩:=g.ho
  obtain ⟨rs',r1,r2⟩:=g.hr
  rw [hr] at r1
  cases r1
  obtain ⟨kb,kq,nb,nq,wb,wq,nw,sw,nu,su,wo,fw⟩:=g.ok
  exact ⟨g.sm_upd in_rd _,bA g.hd N.dr,bA g.hst N.sr,bA g.hb N.br,bA g.hq N.qr,g.hl.keep (L:=L) (fun a u e m=>bA e (N.rl a m).symm) (fun _ hp=>hp),bA g.hw N.wr,⟨vs,bA o1 N.or,lG (lH hr (fun _ z=>by cases z)) o2⟩,⟨_,ao,eU r2 hF⟩,bA g.hu N.ru.symm,g.hh,g.hm,g.nd,g.fr,⟨kb,kq,nb,nq,wb,wq,nw,sw,nu,su,wo,fw⟩,g.wt,g.wa,g.wb⟩
theorem Dg.queued (g:Dg CD CS bs qs H0 G L h ds w) {x:Str} (hx:x∈bs++qs):Dg CD CS bs qs H0 (upd G L.ud (.dK (wrK (lR w.qn x)))) L h ds {w with qn:=lR w.qn x}:=by
  have N:=Lay.ne g.nd
  obtain ⟨vs,o1,o2⟩:=g.ho
  obtain ⟨rs,r1,r2⟩:=g.hr
  obtain ⟨kb,kq,nb,nq,wb,wq,nw,sw,nu,su,wo,fw⟩:=g.ok
  refine ⟨g.sm_upd in_ud _,bA g.hd N.du,bA g.hst N.su,bA g.hb N.bu,bA g.hq N.qu,g.hl.keep (L:=L) (fun a u e m=>bA e (N.ul a m).symm) (fun _ hp=>hp),bA g.hw N.wu,⟨vs,bA o1 N.ou,lG (lH g.hu (fun _ z=>by cases z)) o2⟩,⟨rs,bA r1 N.ru,r2⟩,ao,g.hh,g.hm,g.nd,g.fr,⟨kb,kq,nb,nq,wb,wq,nw,sw,zG nu,fun y hy=>?_,wo,fw⟩,g.wt,g.wa,g.wb⟩
  rcases xo hy with z | z
  · exact su y z
  · rw [z]
    exact hx
theorem C3 {x:Str} {ps:List (Str×Int)} (m:x∈ps.map (·.1)):kY (boK ps) (Sum.inr x)=some (.int (tK ps x)):=by
  obtain ⟨a,h1,_⟩:=me m
  have z:=qg V.int x ps
  rw [h1] at z
  unfold tK
  rw [h1]
  exact z
theorem C4 {x:Str} {l:ae} {qa:List (Str×ae)} (m:qa.lookup x=some l):kY (quK qa) (Sum.inr x)=some (.ref l):=by
  have z:=qg V.ref x qa
  rw [m] at z
  exact z
theorem Fp {x:Str} (k:o9 bs qs w) (m:x∈bs):Wo (tK w.bx x):=by
  obtain ⟨a,h1,h2⟩:=me (ps:=w.bx) (x:=x) (by rw [k.kb]; exact m)
  unfold tK
  rw [h1]
  exact k.wb _ h2
theorem vQ {x:Str} (k:o9 bs qs w) (m:x∈qs):(jE w.qu x).length<=30/\∀ n∈jE w.qu x,Wo n:=by
  obtain ⟨a,h1,h2⟩:=me (ps:=w.qu) (x:=x) (by rw [k.kq]; exact m)
  unfold jE
  rw [h1]
  exact k.wq _ h2
theorem Dg.asks (g:Dg CD CS bs qs H0 G L h ds w):(xm h w).Ok bs qs:=
  ⟨fun x m=>Fp g.ok m,fun x m=>by
    have:=(vQ g.ok m).1
    show (jE w.qu x).length<=1000
    omega,g.wa,g.wb,g.wt⟩
theorem Dg.holds {K:ag} (g:Dg CD CS bs qs H0 G L h ds w) {gl:ae} (hg:G gl=some (.lst [.int h.a,.int h.b])):Holds K CS bs qs G L.st gl (xm h w):=
  ⟨⟨L.dxs,L.bd,L.qd,_,_,_,g.hst,Fn _ _ _ _,Fo _ _ _ _,g.hb,g.hq,fun x m=>C3 (by rw [g.ok.kb]; exact m),fun x m=>by
    obtain ⟨l,h1,h2,_⟩:=g.hl.at_ (x:=x) (by rw [g.ok.kq]; exact m)
    exact ⟨l,_,C4 h1,h2,ah _⟩⟩,hg⟩
end
end My
namespace L2
open PySem
theorem rA.own {X:Cx} {E:XK} (hb:rA X E):PassesOwn (bD X.prog X.w) X.A X.env X.xe:=by
  rw [hb.xe]
  exact PassesOwn.leaving
end L2
namespace My
open PySem L2
structure Mt (K:ag) (C:ae) (x qual:Str) (st:dP) (ps:List Str) (f:ae) (fd:cu):Prop where
  F:Fun K x qual st f fd
  b:Binds K fd ps []
  m:j5 K C x f
structure C5 (K:ag) (mg:Str->Option aa) (cf:Flt->ae):Prop where
  two:Fts K mg (cf .nought) (cf .great)
  mF:mg "Full"=some (.ref (cf .full))
  mD:mg "Dry"=some (.ref (cf .dry))
  mS:mg "Span"=some (.ref (cf .span))
  mL:mg "Late"=some (.ref (cf .late))
  xF:dM K (cf .full) pG "ValueError.__new__"=true
  xD:dM K (cf .dry) pG "ValueError.__new__"=true
  xS:dM K (cf .span) pG "ValueError.__new__"=true
  xL:dM K (cf .late) pG "ValueError.__new__"=true
def qZ (cf:Flt->ae) (dg:Wk->Hp->Prop) (H0:Hp) (n:Nat) (r:Except Flt Wk) (Q:VK) (E:XK):Prop:=match r with
  | .ok w'=>∀ G',dg w' G'->w'.len<=n->Q .non G'
  | .error e=>∀ G',bT H0 G'->E (.ref (cf e)) none G'
theorem kM {cf:Flt->ae} {dg:Wk->Hp->Prop} {H0 G':Hp} {n:Nat} {h:Ev} {w:Wk} {f:Fm} {k:Wk->Int->Except Flt Wk} {Q0 Q:VK} {E:XK} (p:qZ cf dg H0 n (rck h w f k) Q0 E) (s:bT H0 G')
    (hq:∀ r,ev (xm h w) f=.ok r->qZ cf dg H0 n (k {w with rk:=w.rk++[f]} r) Q0 E->Q (.int r) G'):uW (cf .nought) (cf .great) (ev (xm h w) f) Q E G':=by
  unfold rck at p
  cases e:ev (xm h w) f with
  | ok r =>
    rw [e] at p
    exact hq r e p
  | nought =>
    rw [e] at p
    exact p G' s
  | great =>
    rw [e] at p
    exact p G' s
theorem yJ {w:Wk} {F:Fm}:w.out.length + (w.rk++[F]).length<=w.len + 4:=by
  rw [aI]
  show _ + (_ + 1)<=w.out.length + w.rk.length + 4
  omega
theorem Fq {w:Wk} {F F1 F2:Fm} {e:Ev}:(w.out++[e]).length + (w.rk++[F]++[F1]++[F2]).length<=w.len + 4:=by
  rw [aI,aI,aI,aI]
  show _ + 1 + (_ + 1 + 1 + 1)<=w.out.length + w.rk.length + 4
  omega
theorem Fs {x:Str} {n:Int} {ps:List (Str×Int)} (m:x∈ps.map (·.1)):jD (boK ps) (Sum.inr x) (.int n)=boK (mP ps x n):=by
  obtain ⟨a,h1,_⟩:=me m
  exact Fk V.int x n (by rw [h1]; rfl)
theorem Ft (ps:List (Str×Int)):(boK ps).length=ps.length:=ah _
section
variable {CD CS:ae} {bs qs:List Str} {H0 G G':Hp} {L:Lay} {h:Ev} {ds:List Int} {w:Wk}
theorem Dg.few (g:Dg CD CS bs qs H0 G L h ds w):(boK w.bx).length < aJ/\(wrK w.wr).length < aJ:=by
  have:=g.ok.few
  have:=g.ok.fw
  have:=fK
  rw [Ft,zH]
  have e:=congrArg pf g.ok.kb
  rw [ah] at e
  rw [aI] at *
  omega
theorem Dg.putB (g:Dg CD CS bs qs H0 G L h ds w) {x:Str} {n:Int} (m:x∈bs):rP G L.bd (.str x) (.int n) (upd G L.bd (.dK (boK (mP w.bx x n)))):=by
  have z:=rP.k (k:=Sum.inr x) (v:=.int n) g.hb g.few.1
  rw [Fs (by rw [g.ok.kb]; exact m)] at z
  exact z
theorem Dg.putW (g:Dg CD CS bs qs H0 G L h ds w) (x:Str):rP G L.wd (.str x) (.bl true) (upd G L.wd (.dK (wrK (lR w.wr x)))):=by
  have z:=rP.k (k:=Sum.inr x) (v:=.bl true) g.hw g.few.2
  rw [zF] at z
  exact z
theorem Dg.putU (g:Dg CD CS bs qs H0 G L h ds w) (x:Str):rP G L.ud (.str x) (.bl true) (upd G L.ud (.dK (wrK (lR w.qn x)))):=by
  have z:=rP.k (k:=Sum.inr x) (v:=.bl true) g.hu (by
    have:=g.ok.few2
    have:=fK
    rw [zH]
    omega)
  rw [zF] at z
  exact z
theorem Dg.getL (g:Dg CD CS bs qs H0 G L h ds w) {x:Str} (m:x∈qs):∃ l,L.qa.lookup x=some l/\G l=some (.lst ((jE w.qu x).map V.int))/\p5 G L.qd (.str x) (some (.ref l)):=by
  obtain ⟨l,h1,h2,_⟩:=g.hl.at_ (x:=x) (by rw [g.ok.kq]; exact m)
  refine ⟨l,h1,h2,?_⟩
  have z:=p5.k (k:=Sum.inr x) g.hq
  rw [C4 h1] at z
  exact z
end
section
variable {P:aW} {w:bO} {K:ag} {mg:Str->Option aa} {base:cE} {f fN fR fF fW fT fD fL fQ CD CS CM:ae} {fd fdN fdR fdF fdW fdT fdD fdL fdQ:cu} {cf:Flt->ae} {bs qs:List Str}
def C6 (CD CS:ae) (bs qs:List Str):Sp:=fun vs H Q _=>∃ (H0:Hp) (L:Lay) (h:Ev) (ds:List Int) (w:Wk),vs=[.ref L.d]/\Dg CD CS bs qs H0 H L h ds w/\Q (.int h.t) H
theorem scNw:bY ["self"] ["self"] (aF gJ):=⟨rfl,rfl,rfl,by decide +kernel,rfl,by decide +kernel,by decide +kernel⟩
theorem C7 (M:Mt K CD "now" "Doing.now" gJ ["self"] f fd) (T:DT K mg CD):bX P w K mg base CX0 1 f fd ["self"] (C6 CD CS bs qs):=by
  refine M.F.ok scNw (fun vs H Q E h=>?_) (fun cdv A outer s H vs Q E hr h=>?_)
  · obtain ⟨H0,L,e,ds,w,rfl,_⟩:=h
    rfl
  obtain ⟨H0,L,e,ds,w,rfl,g,q⟩:=h
  obtain ⟨t,k,ev,h1,h2⟩:=g.hh
  refine ⟨_,aG (bR (bN cz (bN cz (cF (pv 0) rfl) aq (fun _ _=>rfl)) aq (fun _ _=>rfl))),?_⟩
  exact ⟨_,rfl,L.d,CD,L.dx,_,_,rfl,g.hd,T.cl,T.nH,Fl _ _ _ _ _ _ _ _,t,_,_,_,ev,rfl,SqT.of (g.sm _ _ h1),rfl,k,_,_,_,rfl,rfl,SqT.of (g.sm _ _ h2),rfl,q⟩
def q5 (cf:Flt->ae) (CD CS:ae) (bs qs:List Str):Sp:=fun vs H Q E=>∃ (H0:Hp) (L:Lay) (h:Ev) (ds:List Int) (w:Wk) (v:V) (F:Fm),vs=[.ref L.d,v]/\Dg CD CS bs qs H0 H L h ds w/\FmI bs qs H0 v F/\w.len < 400000/\∀ G',Dg CD CS bs qs H0 G' L h ds {w with rk:=w.rk++[F]}->uW (cf .nought) (cf .great) (ev (xm h w) F) Q E G'
theorem scRk:bY ["self","formula"] ["self","formula"] (aF dU):=⟨rfl,rfl,rfl,by decide +kernel,rfl,by decide +kernel,by decide +kernel⟩
theorem sL (M:Mt K CD "reckon" "Doing.reckon" dU ["self","formula"] f fd) (MN:Mt K CD "now" "Doing.now" gJ ["self"] fN fdN) (DW:Df K mg "worth_of" je ["formula","state","now","got"] fW fdW) (DT2:Df K mg "number_of_two" fk ["kind","first","second"] fT fdT) (DD:Df K mg "number_of_division" dB ["kind","first","second"] fD fdD)
    (DL:Df K mg "number_of_leaf" eR ["formula","state","now","got"] fL fdL) (T:DT K mg CD) (TF:C5 K mg cf) (TM:MdT K mg CM CS) (B:Bl mg):bX P w K mg base (CXo P w) 18 f fd ["self","formula"] (q5 cf CD CS bs qs):=by
  have GN:bX P w K mg base CX0 1 fN fdN ["self"] (C6 CD CS bs qs):=C7 MN T
  have GW:bX P w K mg base (CXo P w) 17 fW fdW ["formula","state","now","got"] (CV K CS (cf .nought) (cf .great) bs qs 15):=Hd DW DT2 DD DL TF.two TM B 15
  refine M.F.okX scRk (fun vs H Q E h=>?_) (fun cdv A outer s H vs Q E hr h=>?_)
  · obtain ⟨H0,L,e,ds,w,v,F,rfl,_⟩:=h
    rfl
  obtain ⟨H0,L,e,ds,w,v,F,rfl,g,hF,fw,q⟩:=h
  obtain ⟨t,k,eh,h1,h2⟩:=g.hh
  have r1:eA 1 _:=hr.mono (by omega)
  obtain ⟨rs,r1',r2⟩:=g.hr
  have g0:=g.reckoned r1' hF
  refine ⟨_,ak (eT (lY cv cJ cK gX (cF (pv 0) rfl) (au (pv 1) aw))) (aG (bR (aS GW hr rfl DW.m DW.F.kp DW.b .nil (dZ.passes fun _ _ _ z=>z) (au (pv 1) (au (cF (pv 0) rfl) (au (pX (pv 0) T.cl MN.m GN r1 MN.b .nil bS) (au (fy (au (bN cz (cF (pv 0) rfl) aq (fun _ _=>rfl)) (au (bN cz (cF (pv 0) rfl) aq (fun _ _=>rfl)) aw))) aw))))))),?_⟩
  have rl:rs.length < aJ:=by
    have z:rs.length=w.rk.length:=bJ r2
    have:400000 < aJ:=by decide
    have:w.out.length + w.rk.length < 400000:=fw
    omega
  refine ⟨_,rfl,L.d,CD,L.dx,_,_,rfl,g.hd,T.cl,T.nR,dF_r _ _ _ _ _ _ _ _,.inl ⟨rfl,_,SqL.of r1'⟩,_,rfl,L.rd,_,_,rfl,rfl,r1',rl,?_⟩
  refine ⟨_,rfl,_,rfl,L.d,CD,L.dx,_,_,rfl,g0.hd,T.cl,T.nS,uo _ _ _ _ _ _ _ _,?_⟩
  refine ⟨_,rfl,L.d,L.dx,_,rfl,g0.hd,m7 _ _ _ _ _ _ _ _ (by decide +kernel),H0,L,e,ds,_,rfl,g0,?_⟩
  refine ⟨_,rfl,L.d,CD,L.dx,_,_,rfl,g0.hd,T.cl,T.nH,Fl _ _ _ _ _ _ _ _,t,_,_,_,eh,rfl,SqT.of (g0.sm _ _ h1),rfl,?_⟩
  refine ⟨_,rfl,L.d,CD,L.dx,_,_,rfl,g0.hd,T.cl,T.nH,Fl _ _ _ _ _ _ _ _,t,_,_,_,eh,rfl,SqT.of (g0.sm _ _ h1),rfl,?_⟩
  refine ⟨lt2,fun l hl=>?_⟩
  have s2:=aR hl (.lst [.int e.a,.int e.b])
  have g2:=g0.same s2
  exact ⟨v,F,L.st,l,xm e w,rfl,(hF.1.same g2.sm),hF.2,g2.holds ao,g2.asks,q _ g2⟩
def C8 (CD CS:ae) (bs qs:List Str):Sp:=fun vs H Q _=>∃ (H0:Hp) (L:Lay) (h:Ev) (ds:List Int) (w:Wk) (x:Str),vs=[.ref L.d,.str x]/\Dg CD CS bs qs H0 H L h ds w/\x∈qs/\∀ G' l,Dg CD CS bs qs H0 G' L h ds {w with qn:=lR w.qn x}->L.qa.lookup x=some l->G' l=some (.lst ((jE w.qu x).map V.int))->Q (.ref l) G'
theorem scQo:bY ["self","name"] ["self","name"] (aF dH):=⟨rfl,rfl,rfl,by decide +kernel,rfl,by decide +kernel,by decide +kernel⟩
theorem C9 (M:Mt K CD "queue_of" "Doing.queue_of" dH ["self","name"] f fd) (T:DT K mg CD) (TM:MdT K mg CM CS):bX P w K mg base CX0 1 f fd ["self","name"] (C8 CD CS bs qs):=by
  refine M.F.ok scQo (fun vs H Q E h=>?_) (fun cdv A outer s H vs Q E hr h=>?_)
  · obtain ⟨H0,L,e,ds,w,x,rfl,_⟩:=h
    rfl
  obtain ⟨H0,L,e,ds,w,x,rfl,g,hx,q⟩:=h
  have hu:=m6 hr
  refine ⟨_,ak (mJ hu (cF (pv 0) rfl) (pv 1) lC rfl) (aG (bR (p6 hu (cF (cF (pv 0) rfl) rfl) (pv 1) (fun _ _=>rfl)))),?_⟩
  have g1:=g.queued (x:=x) (bC _ hx)
  obtain ⟨l,hl,gl,dl⟩:=g1.getL hx
  refine ⟨_,rfl,L.d,CD,L.dx,_,_,rfl,g.hd,T.cl,T.nQ,dF_u _ _ _ _ _ _ _ _,_,rfl,L.ud,_,rfl,g.putU x,?_⟩
  exact ⟨_,rfl,L.d,CD,L.dx,_,_,rfl,g1.hd,T.cl,T.nS,uo _ _ _ _ _ _ _ _,L.st,CS,L.dxs,_,_,rfl,g1.hst,TM.clS,TM.nQ,Fo _ _ _ _,_,rfl,L.qd,_,rfl,dl,q _ l g1 hl gl⟩
def vR (CD CS:ae) (bs qs:List Str):Sp:=fun vs H Q _=>∃ (H0:Hp) (L:Lay) (h:Ev) (ds:List Int) (w:Wk) (x:Str) (n:Int),vs=[.ref L.d,.str x,.int n]/\Dg CD CS bs qs H0 H L h ds w/\x∈bs/\Wo n/\∀ G',Dg CD CS bs qs H0 G' L h ds (CZ w x n)->Q .non G'
theorem scFl:bY ["self","box","worth"] ["self","box","worth"] (aF e9):=⟨rfl,rfl,rfl,by decide +kernel,rfl,by decide +kernel,by decide +kernel⟩
theorem vS (M:Mt K CD "fill" "Doing.fill" e9 ["self","box","worth"] f fd) (T:DT K mg CD) (TM:MdT K mg CM CS):bX P w K mg base CX0 1 f fd ["self","box","worth"] (vR CD CS bs qs):=by
  refine M.F.ok scFl (fun vs H Q E h=>?_) (fun cdv A outer s H vs Q E hr h=>?_)
  · obtain ⟨H0,L,e,ds,w,x,n,rfl,_⟩:=h
    rfl
  obtain ⟨H0,L,e,ds,w,x,n,rfl,g,hx,hn,q⟩:=h
  have hu:=m6 hr
  refine ⟨_,ak (mJ hu (cF (cF (pv 0) rfl) rfl) (pv 1) (pv 2) rfl) (aG (mJ hu (cF (pv 0) rfl) (pv 1) lC rfl)),?_⟩
  have g1:=g.box (x:=x) hn
  have g2:=g1.wrote (x:=x) (fZ _ hx)
  refine ⟨_,rfl,_,rfl,L.d,CD,L.dx,_,_,rfl,g.hd,T.cl,T.nS,uo _ _ _ _ _ _ _ _,L.st,CS,L.dxs,_,_,rfl,g.hst,TM.clS,TM.nB,Fn _ _ _ _,_,rfl,L.bd,_,rfl,g.putB hx,?_⟩
  exact ⟨_,rfl,L.d,CD,L.dx,_,_,rfl,g1.hd,T.cl,T.nW,C0 _ _ _ _ _ _ _ _,_,rfl,L.wd,_,rfl,g1.putW x,q _ g2⟩
def yK (cf:Flt->ae) (CD CS:ae) (bs qs:List Str):Sp:=fun vs H Q E=>∃ (H0:Hp) (L:Lay) (h:Ev) (ds:List Int) (w:Wk) (x:Str) (v:V) (F:Fm),vs=[.ref L.d,.str x,v]/\Dg CD CS bs qs H0 H L h ds w/\x∈qs/\FmI bs qs H0 v F/\w.len < 400000 /\
  qZ cf (fun w' G'=>Dg CD CS bs qs H0 G' L h ds w') H0 (w.len + 4) (doD h ds (.push x F) w) Q E
theorem IR:bY ["doing","name","formula","worth","queue"] ["doing","name","formula"] (aF jS):=⟨rfl,rfl,rfl,by decide +kernel,rfl,by decide +kernel,by decide +kernel⟩
theorem Fu (D:Df K mg "do_push" jS ["doing","name","formula"] f fd) (MR:Mt K CD "reckon" "Doing.reckon" dU ["self","formula"] fR fdR) (GR:bX P w K mg base (CXo P w) 18 fR fdR ["self","formula"] (q5 cf CD CS bs qs)) (MQ:Mt K CD "queue_of" "Doing.queue_of" dH ["self","name"] fQ fdQ) (T:DT K mg CD) (TF:C5 K mg cf) (TM:MdT K mg CM CS) (B:Bl mg) :
    bX P w K mg base (CXo P w) 19 f fd ["doing","name","formula"] (yK cf CD CS bs qs):=by
  have GQ:bX P w K mg base CX0 1 fQ fdQ ["self","name"] (C8 CD CS bs qs):=C9 MQ T TM
  refine D.F.okX IR (fun vs H Q E h=>?_) (fun cdv A outer s H vs Q E hr h=>?_)
  · obtain ⟨H0,L,e,ds,w,x,v,F,rfl,_⟩:=h
    rfl
  obtain ⟨H0,L,e,ds,w,x,v,F,rfl,g,hx,hF,fw,p⟩:=h
  have hu:=m6 hr
  have r1:eA 1 _:=hr.mono (by omega)
  refine ⟨_,ak (bF (i:=3) IR.nd rfl (Or.inl rfl) (iq (pv 0) T.cl MR.m GR hr MR.b .nil (dZ.passes fun _ _ _ z=>z) (au (pv 2) aw)))
    (ak (bF (i:=4) IR.nd rfl (Or.inl rfl) (iq (pv 0) T.cl MQ.m GQ r1 MQ.b .nil bS (au (pv 1) aw)))
    (ak (cZ (bL op_ge (cX hJ (by rfl) B.len cm (au (pv 4) aw)) aq (cg _)) (aG (kH dZ rfl rfl TF.mF TF.xF (au cG aw))) cq)
    (ak (eT (lY cv cJ cK gX (pv 4) (au (pv 3) aw)))
    (aG (mJ hu (cF (pv 0) rfl) (pv 1) lC rfl))))),?_⟩
  simp only [doD] at p
  refine ⟨_,rfl,L.d,L.dx,_,rfl,g.hd,m7 _ _ _ _ _ _ _ _ (by decide +kernel),_,rfl,H0,L,e,ds,w,v,F,rfl,g,hF,fw,fun G0 g0=>?_⟩
  refine kM p g0.sm fun n en p=>?_
  dsimp only at p
  refine ⟨_,rfl,L.d,L.dx,_,rfl,g0.hd,m7 _ _ _ _ _ _ _ _ (by decide +kernel),_,rfl,H0,L,e,ds,_,x,rfl,g0,hx,fun G1 l g1 hl gl=>?_⟩
  refine ⟨_,rfl,l,_,rfl,.inl (SqL.of gl),_,_,rfl,rfl,_,rfl,iK (fun c=>?_) (fun c=>?_)⟩
  · have c:(30:Int)<=((((jE w.qu x).map V.int).length:Nat):Int):=j8 c
    rw [ah] at c
    rw [if_pos (by omega)] at p
    exact ⟨(by show 1<=aJ; decide),p _ g1.sm⟩
  · have c:¬ (30:Int)<=((((jE w.qu x).map V.int).length:Nat):Int):=kr c
    rw [ah] at c
    rw [if_neg (by omega)] at p
    have wn:Wo n:=rH g1.asks (hF.1.same g1.sm) en
    have gq:=vQ g1.ok hx
    have g2:=g1.queue (x:=x) (l:=l) (ns:=jE w.qu x++[n]) hl (by rw [aI]; simp only [bj,cP]; omega) (fun m hm=>by
      rcases b8.mp hm with z | z
      · exact gq.2 m z
      · rw [aM.mp z]
        exact wn)
    have g3:=g2.wrote (x:=x) (bC _ hx)
    have lt:((jE w.qu x).map V.int).length < aJ:=by
      rw [ah]
      have:=fK
      omega
    refine ⟨_,rfl,.inl ⟨rfl,_,SqL.of gl⟩,_,rfl,l,_,_,rfl,rfl,gl,lt,?_⟩
    have eq:(jE w.qu x).map V.int++[V.int n]=(jE w.qu x++[n]).map V.int:=by rw [cy]; rfl
    rw [eq]
    exact ⟨_,rfl,L.d,CD,L.dx,_,_,rfl,g2.hd,T.cl,T.nW,C0 _ _ _ _ _ _ _ _,_,rfl,L.wd,_,rfl,g2.putW x,p _ g3 (yJ (w:=w) (F:=F))⟩
end
end My
namespace My
open PySem L2
theorem Da (ds:List Int) (i:Nat) (h:i < ds.length):(ds.map V.int)[i]?=some (.int (ds.getD i 0)):=by
  rw [cC,aA h,dN,aA h]
  rfl
section
variable {P:aW} {w:bO} {K:ag} {mg:Str->Option aa} {base:cE} {f fN fR fF CD CS CM:ae} {fd fdN fdR fdF:cu} {cf:Flt->ae} {bs qs:List Str}
def vT (cf:Flt->ae) (CD CS:ae) (bs qs:List Str):Sp:=fun vs H Q E=>∃ (H0:Hp) (L:Lay) (h:Ev) (ds:List Int) (w:Wk) (x:Str) (v:V) (F:Fm),vs=[.ref L.d,.str x,v]/\Dg CD CS bs qs H0 H L h ds w/\x∈bs/\FmI bs qs H0 v F/\w.len < 400000 /\
  qZ cf (fun w' G'=>Dg CD CS bs qs H0 G' L h ds w') H0 (w.len + 4) (doD h ds (.draw x F) w) Q E
theorem Fv:bY ["doing","box","formula","divisor","draws","draw"] ["doing","box","formula"] (aF jU):=⟨rfl,rfl,rfl,by decide +kernel,rfl,by decide +kernel,by decide +kernel⟩
theorem Dc (D:Df K mg "do_draw" jU ["doing","box","formula"] f fd) (MR:Mt K CD "reckon" "Doing.reckon" dU ["self","formula"] fR fdR) (GR:bX P w K mg base (CXo P w) 18 fR fdR ["self","formula"] (q5 cf CD CS bs qs)) (MF:Mt K CD "fill" "Doing.fill" e9 ["self","box","worth"] fF fdF) (T:DT K mg CD) (TF:C5 K mg cf) (TM:MdT K mg CM CS) (B:Bl mg) :
    bX P w K mg base (CXo P w) 19 f fd ["doing","box","formula"] (vT cf CD CS bs qs):=by
  have GF:bX P w K mg base CX0 1 fF fdF ["self","box","worth"] (vR CD CS bs qs):=vS MF T TM
  refine D.F.okX Fv (fun vs H Q E h=>?_) (fun cdv A outer s H vs Q E hr h=>?_)
  · obtain ⟨H0,L,e,ds,w,x,v,F,rfl,_⟩:=h
    rfl
  obtain ⟨H0,L,e,ds,w,x,v,F,rfl,g,hx,hF,fw,p⟩:=h
  have r1:eA 1 _:=hr.mono (by omega)
  refine ⟨_,ak (bF (i:=3) Fv.nd rfl (Or.inl rfl) (iq (pv 0) T.cl MR.m GR hr MR.b .nil (dZ.passes fun _ _ _ z=>z) (au (pv 2) aw)))
    (ak (cZ (bL rp (pv 3) aq (cg _)) (aG (kH dZ rfl rfl TF.two.mN TF.two.xN (au cG aw))) cq)
    (ak (bF (i:=4) Fv.nd rfl (Or.inl rfl) (bN cz (cF (pv 0) rfl) aq (fun _ _=>rfl)))
    (ak (cZ (vm (sT (pv 4) (fun _=>rfl))) (aG (kH dZ rfl rfl TF.mD TF.xD (au cG aw))) cq)
    (ak (bF (i:=5) Fv.nd rfl (Or.inl rfl) (bN cU (pv 4) (cL nJ (cF (cF (pv 0) rfl) rfl) (cX hJ (by rfl) B.len cm (au (pv 4) aw))) (fun _ _=>rfl)))
    (ak (uB (cF (pv 0) rfl) aq BF)
    (aG (eT (iq (pv 0) T.cl MF.m GF r1 MF.b .nil bS (au (pv 1) (au (cL nJ (pv 5) (pv 3)) aw)))))))))),?_⟩
  simp only [doD] at p
  refine ⟨_,rfl,L.d,L.dx,_,rfl,g.hd,m7 _ _ _ _ _ _ _ _ (by decide +kernel),_,rfl,H0,L,e,ds,w,v,F,rfl,g,hF,fw,fun G1 g1=>?_⟩
  refine kM p g1.sm fun n en p=>?_
  refine ⟨_,rfl,_,_,rfl,rfl,_,rfl,iK (fun c=>?_) (fun c=>?_)⟩
  · rw [if_pos (j8 c)] at p
    exact ⟨(by show 1<=aJ; decide),p _ g1.sm⟩
  have c:¬ n < 1:=kr c
  rw [if_neg c] at p
  obtain ⟨t,x1,x2,x3,x4,dl,em,hm,hdl⟩:=g1.hm
  refine ⟨_,rfl,L.d,CD,L.dx,_,_,rfl,g1.hd,T.cl,T.nM,IH _ _ _ _ _ _ _ _,t,_,_,_,em,rfl,SqT.of (g1.sm _ _ hm),rfl,?_⟩
  have hdl1:=g1.sm _ _ hdl
  refine ⟨_,rfl,_,.inl ⟨_,SqL.of hdl1,rfl⟩,?_⟩
  cases hds:ds with
  | nil =>
    rw [hds] at p
    refine iJ ?_
    exact ⟨(by show 1<=aJ; decide),p _ g1.sm⟩
  | cons d0 dr =>
    rw [<- hds]
    have ne:¬ ds=[]:=by rw [hds]; intro z; cases z
    have pos:0 < ds.length:=by rw [hds]; exact yH _
    rw [if_neg ne] at p
    have nb:(!(!(ds.map V.int).isEmpty))=false:=by rw [hds]; rfl
    rw [nb]
    refine hW ?_
    have lt:w.dr % ds.length < ds.length:=Nat.mod_lt _ pos
    have ix:atI (ds.map V.int) ((w.dr:Int) % (((ds.map V.int).length:Nat):Int))=some (.int (ds.getD (w.dr % ds.length) 0)):=by
      rw [ah,<- Int.natCast_emod]
      exact gy (Da ds _ lt)
    refine ⟨_,rfl,_,rfl,L.d,CD,L.dx,_,_,rfl,g1.hd,T.cl,T.nS,uo _ _ _ _ _ _ _ _,L.st,CS,L.dxs,_,_,rfl,g1.hst,TM.clS,TM.nD,IM _ _ _ _,_,rfl,dl,_,rfl,.inl (SqL.of hdl1),_,_,rfl,rfl,(by rw [ah]; omega),dl,_,_,_,rfl,rfl,SqL.of hdl1,ix,?_⟩
    refine ⟨_,rfl,L.d,CD,L.dx,_,_,rfl,g1.hd,T.cl,T.nS,uo _ _ _ _ _ _ _ _,L.st,CS,L.dxs,_,_,rfl,g1.hst,TM.clS,TM.nD,IM _ _ _ _,_,_,rfl,rfl,L.dxs,_,g1.hst,C1 _ _ _ _,?_⟩
    rw [IK]
    have g2:=g1.counts (w.dr + 1) w.se
    have wn:Wo n:=rH g1.asks (hF.1.same g1.sm) en
    have wm:Wo (ds.getD (w.dr % ds.length) 0 % n):=by
      have a1:=ju (ds.getD (w.dr % ds.length) 0) (show n≠0 by omega)
      have a2:=il (ds.getD (w.dr % ds.length) 0) (show 0 < n by omega)
      unfold Wo at wn |-
      omega
    exact ⟨_,rfl,L.d,L.dx,_,rfl,g2.hd,m7 _ _ _ _ _ _ _ _ (by decide +kernel),_,rfl,_,rfl,_,rfl,_,_,rfl,rfl,(by omega),H0,L,e,ds,_,x,_,rfl,g2,hx,wm,fun G' g3=>p G' g3 (yJ (w:=w) (F:=F))⟩
def yL (cf:Flt->ae) (CD CS:ae) (bs qs:List Str):Sp:=fun vs H Q E=>∃ (H0:Hp) (L:Lay) (h:Ev) (ds:List Int) (w:Wk) (t:ae) (u u1 u2:V) (to:Int) (sg:Str) (rk:Int) (F F1 F2:Fm),vs=[.ref L.d,.ref t]/\Dg CD CS bs qs H0 H L h ds w/\H0 t=some (.tup [.str "send",.int to,.str sg,u,.int rk,u1,u2]) /\
  FmI bs qs H0 u F/\FmI bs qs H0 u1 F1/\FmI bs qs H0 u2 F2/\w.len + 4 < 400000/\qZ cf (fun w' G'=>Dg CD CS bs qs H0 G' L h ds w') H0 (w.len + 4) (doD h ds (.send to sg F rk F1 F2) w) Q E
theorem AR:bY ["doing","deed","span","first","second","when","key"] ["doing","deed"] (aF jV):=⟨rfl,rfl,rfl,by decide +kernel,rfl,by decide +kernel,by decide +kernel⟩
theorem Fw (D:Df K mg "do_send" jV ["doing","deed"] f fd) (MR:Mt K CD "reckon" "Doing.reckon" dU ["self","formula"] fR fdR) (GR:bX P w K mg base (CXo P w) 18 fR fdR ["self","formula"] (q5 cf CD CS bs qs)) (MN:Mt K CD "now" "Doing.now" gJ ["self"] fN fdN) (T:DT K mg CD) (TF:C5 K mg cf) (TM:MdT K mg CM CS) (B:Bl mg) :
    bX P w K mg base (CXo P w) 19 f fd ["doing","deed"] (yL cf CD CS bs qs):=by
  have GN:bX P w K mg base CX0 1 fN fdN ["self"] (C6 CD CS bs qs):=C7 MN T
  refine D.F.okX AR (fun vs H Q E h=>?_) (fun cdv A outer s H vs Q E hr h=>?_)
  · obtain ⟨H0,L,e,ds,w,t,u,u1,u2,to,sg,rk,F,F1,F2,rfl,_⟩:=h
    rfl
  obtain ⟨H0,L,e,ds,w,t,u,u1,u2,to,sg,rk,F,F1,F2,rfl,g,ht,hF,hF1,hF2,lo,p⟩:=h
  have r1:eA 1 _:=hr.mono (by omega)
  refine ⟨_,ak (bF (i:=2) AR.nd rfl (Or.inl rfl) (iq (pv 0) T.cl MR.m GR hr MR.b .nil (dZ.passes fun _ _ _ z=>z) (au (bN cz (pv 1) aq (fun _ _=>rfl)) aw)))
    (ak (cZ (za (bL rp (pv 2) aq (cg _)) (xU (bL mZ (pv 2) (cL mE aq aq) (cg _)))).pt (aG (kH dZ rfl rfl TF.mS TF.xS (au cG aw))) cq)
    (ak (bF (i:=3) AR.nd rfl (Or.inl rfl) (iq (pv 0) T.cl MR.m GR hr MR.b .nil (dZ.passes fun _ _ _ z=>z) (au (bN cz (pv 1) aq (fun _ _=>rfl)) aw)))
    (ak (bF (i:=4) AR.nd rfl (Or.inl rfl) (iq (pv 0) T.cl MR.m GR hr MR.b .nil (dZ.passes fun _ _ _ z=>z) (au (bN cz (pv 1) aq (fun _ _=>rfl)) aw)))
    (ak (bF (i:=5) AR.nd rfl (Or.inl rfl) (cL gW (pX (pv 0) T.cl MN.m GN r1 MN.b .nil bS) (pv 2)))
    (ak (cZ (bL mZ (pv 5) (cL mE aq aq) (cg _)) (aG (kH dZ rfl rfl TF.mL TF.xL (au cG aw))) cq)
    (ak (bF (i:=6) AR.nd rfl (Or.inl rfl) (eE (au (pv 5) (au (bN cz (pv 1) aq (fun _ _=>rfl)) (au (bN cz (cF (pv 0) rfl) aq (fun _ _=>rfl)) (au (cF (cF (pv 0) rfl) rfl) aw))))))
    (ak (uB (cF (pv 0) rfl) aq BF)
    (aG (eT (lY cv cJ cK gX (cF (pv 0) rfl) (au (eE (au (pv 6) (au (bN cz (pv 1) aq (fun _ _=>rfl)) (au (bN cz (pv 1) aq (fun _ _=>rfl)) (au (pv 3) (au (pv 4) aw)))))) aw))))))))))),?_⟩
  simp only [doD] at p
  have f0:w.len < 400000:=by omega
  have f1:Wk.len {w with rk:=w.rk++[F]} < 400000:=by
    show w.out.length + (w.rk++[F]).length < 400000
    rw [aI]
    have:w.out.length + w.rk.length + 4 < 400000:=lo
    show _ + (_ + 1) < _
    omega
  have f2:Wk.len {w with rk:=w.rk++[F]++[F1]} < 400000:=by
    show w.out.length + (w.rk++[F]++[F1]).length < 400000
    rw [aI,aI]
    have:w.out.length + w.rk.length + 4 < 400000:=lo
    show _ + (_ + 1 + 1) < _
    omega
  have l1:1<=aJ:=by decide
  have c6:wO 10 6:=⟨by decide,by decide,by decide⟩
  have c12:wO 10 12:=⟨by decide,by decide,by decide⟩
  have tt:∀ {G:Hp},bT H0 G->SqT K G t [.str "send",.int to,.str sg,u,.int rk,u1,u2]:=fun {G} z=>SqT.of (z _ _ ht)
  refine ⟨_,rfl,L.d,L.dx,_,rfl,g.hd,m7 _ _ _ _ _ _ _ _ (by decide +kernel),_,rfl,t,_,_,_,rfl,rfl,tt g.sm,rfl,H0,L,e,ds,w,u,F,rfl,g,hF,f0,fun G1 g1=>?_⟩
  refine kM p g1.sm fun n en p=>?_
  refine ⟨_,rfl,_,_,rfl,rfl,_,rfl,iK (fun c=>?_) (fun c=>?_)⟩
  · rw [if_pos (.inl (j8 c))] at p
    exact iJ ⟨l1,p _ g1.sm⟩
  have c:¬ n < 1:=kr c
  refine ⟨_,rfl,_,_,rfl,rfl,c6,_,_,rfl,rfl,_,rfl,iK (fun c2=>?_) (fun c2=>?_)⟩
  · rw [if_pos (.inr (j8 c2))] at p
    exact ⟨l1,p _ g1.sm⟩
  have c2:¬ 10 ^ 6 < n:=kr c2
  rw [if_neg (fun z=>z.elim c c2)] at p
  refine ⟨_,rfl,L.d,L.dx,_,rfl,g1.hd,m7 _ _ _ _ _ _ _ _ (by decide +kernel),_,rfl,t,_,_,_,rfl,rfl,tt g1.sm,rfl,H0,L,e,ds,_,u1,F1,rfl,g1,hF1,f1,fun G2 g2=>?_⟩
  refine kM p g2.sm fun n1 en1 p=>?_
  refine ⟨_,rfl,L.d,L.dx,_,rfl,g2.hd,m7 _ _ _ _ _ _ _ _ (by decide +kernel),_,rfl,t,_,_,_,rfl,rfl,tt g2.sm,rfl,H0,L,e,ds,_,u2,F2,rfl,g2,hF2,f2,fun G3 g3=>?_⟩
  refine kM p g3.sm fun n2 en2 p=>?_
  refine ⟨_,rfl,L.d,L.dx,_,rfl,g3.hd,m7 _ _ _ _ _ _ _ _ (by decide +kernel),H0,L,e,ds,_,rfl,g3,_,rfl,_,_,rfl,rfl,?_⟩
  refine ⟨_,rfl,_,_,rfl,rfl,c12,_,_,rfl,rfl,_,rfl,iK (fun c3=>?_) (fun c3=>?_)⟩
  · rw [if_pos (show 10 ^ 12 < e.t + n from j8 c3)] at p
    exact ⟨l1,p _ g3.sm⟩
  rw [if_neg (show ¬ 10 ^ 12 < e.t + n from kr c3)] at p
  obtain ⟨th,kh,eh,h1,h2⟩:=g3.hh
  refine ⟨_,rfl,_,rfl,t,_,_,_,rfl,rfl,tt g3.sm,rfl,_,rfl,L.d,CD,L.dx,_,_,rfl,g3.hd,T.cl,T.nH,Fl _ _ _ _ _ _ _ _,th,_,_,_,eh,rfl,SqT.of (g3.sm _ _ h1),rfl,_,rfl,L.d,CD,L.dx,_,_,rfl,g3.hd,T.cl,T.nS,uo _ _ _ _ _ _ _ _,L.st,CS,L.dxs,_,_,rfl,g3.hst,TM.clS,TM.nS,IP _ _ _ _,(by show 4<=aJ; decide),fun ky hk=>?_⟩
  have s4:=aR hk (.tup [.int (e.t + n),.int rk,.int e.to,.int w.se])
  have g4:=g3.same s4
  refine ⟨_,rfl,L.d,CD,L.dx,_,_,rfl,g4.hd,T.cl,T.nS,uo _ _ _ _ _ _ _ _,L.st,CS,L.dxs,_,_,rfl,g4.hst,TM.clS,TM.nS,IP _ _ _ _,_,_,rfl,rfl,L.dxs,_,g4.hst,C1 _ _ _ _,?_⟩
  rw [IL]
  have g5:=g4.counts w.dr (w.se + 1)
  have hky:∀ {G:Hp} {o o':HO},G ky=some (.tup [.int (e.t + n),.int rk,.int e.to,.int w.se])->G L.st=some o'->(∀ xs,o'≠.tup xs)->upd G L.st o ky=some (.tup [.int (e.t + n),.int rk,.int e.to,.int w.se]):=fun h1 h2 h3=>bA h1 (lU h1 h2 (fun z=>h3 _ z.symm))
  have k5:=hky (o:=.ins CS L.dxs (mO (.ref L.bd) (.ref L.qd) (.int w.dr) (.int (w.se + 1)))) (ao:upd G3 ky _ ky=_) g4.hst (fun xs z=>by cases z)
  obtain ⟨vs,o1,o2⟩:=g5.ho
  refine ⟨_,rfl,L.d,CD,L.dx,_,_,rfl,g5.hd,T.cl,T.nO,dF_o _ _ _ _ _ _ _ _,.inl ⟨rfl,_,SqL.of o1⟩,?_⟩
  refine ⟨_,rfl,_,rfl,t,_,_,_,rfl,rfl,tt g5.sm,rfl,_,rfl,t,_,_,_,rfl,rfl,tt g5.sm,rfl,_,rfl,_,rfl,lt5,fun ev hev=>?_⟩
  have s6:=aR hev (.tup [.ref ky,.int to,.str sg,.int n1,.int n2])
  have g6:=g5.same s6
  have ol:vs.length < aJ:=by
    have:=bJ o2
    have z:vs.length=w.out.length:=this
    have:400000 < aJ:=by decide
    have:w.out.length + w.rk.length + 4 < 400000:=lo
    omega
  refine ⟨L.od,vs,_,rfl,rfl,s6 _ _ o1,ol,?_⟩
  have g7:=g6.sent (v:=.ref ev) (e:=⟨e.t + n,rk,e.to,w.se,to,sg,n1,n2⟩) (s6 _ _ o1) ⟨ev,ky,rfl,ao,s6 _ _ k5⟩ ⟨rH g1.asks (hF1.1.same g1.sm) en1,rH g2.asks (hF2.1.same g2.sm) en2⟩
  exact p _ g7 (Fq (w:=w) (F:=F) (F1:=F1) (F2:=F2))
end
end My
namespace My
open PySem L2
mutual
def Dd.size:Dd->Nat
  | .pull _ _ o=>o.size + 1
  | .ife _ t e=>t.size + e.size + 1
  | _=>1
def Ds.size:Ds->Nat
  | .nil=>0
  | .cons d r=>d.size + r.size
end
theorem qZ.le {cf:Flt->ae} {dg:Wk->Hp->Prop} {H0:Hp} {m n:Nat} {r:Except Flt Wk} {Q:VK} {E:XK} (p:qZ cf dg H0 n r Q E) (h:m<=n):qZ cf dg H0 m r Q E:=by
  cases r with
  | ok w=>exact fun G g l=>p G g (cT l h)
  | error e=>exact p
section
variable {P:aW} {w:bO} {K:ag} {mg:Str->Option aa} {base:cE} {f fR fF fP fD fU fW fS f1 fQ CD CS CM:ae} {fd fdR fdF fdP fdD fdU fdW fdS fd1 fdQ:cu} {cf:Flt->ae} {bs qs:List Str}
def tL (cf:Flt->ae) (CD CS:ae) (bs qs:List Str) (n:Nat):Sp:=fun vs H Q E=>∃ (H0:Hp) (L:Lay) (h:Ev) (ds:List Int) (w:Wk) (v:V) (D:Ds),vs=[.ref L.d,v]/\Dg CD CS bs qs H0 H L h ds w/\lF H0 (fg bs qs H0 D) v/\D.deep < n/\w.len + 4 * D.size < 400000 /\
  qZ cf (fun w' G'=>Dg CD CS bs qs H0 G' L h ds w') H0 (w.len + 4 * D.size) (doS h ds D w) Q E
def spDd (cf:Flt->ae) (CD CS:ae) (bs qs:List Str) (n:Nat):Sp:=fun vs H Q E=>∃ (H0:Hp) (L:Lay) (h:Ev) (ds:List Int) (w:Wk) (v:V) (D:Dd),vs=[.ref L.d,v]/\Dg CD CS bs qs H0 H L h ds w/\eJ bs qs H0 D v/\D.deep < n/\w.len + 4 * D.size < 400000 /\
  qZ cf (fun w' G'=>Dg CD CS bs qs H0 G' L h ds w') H0 (w.len + 4 * D.size) (doD h ds D w) Q E
def De (cf:Flt->ae) (CD CS:ae) (bs qs:List Str) (n:Nat):Sp:=fun vs H Q E=>∃ (H0:Hp) (L:Lay) (h:Ev) (ds:List Int) (w:Wk) (q x:Str) (v:V) (D:Ds),vs=[.ref L.d,.str q,.str x,v]/\Dg CD CS bs qs H0 H L h ds w/\q∈qs/\x∈bs/\lF H0 (fg bs qs H0 D) v/\D.deep < n/\w.len + 4 * D.size < 400000 /\
  qZ cf (fun w' G'=>Dg CD CS bs qs H0 G' L h ds w') H0 (w.len + 4 * D.size) (doD h ds (.pull q x D) w) Q E
theorem scPl:bY ["doing","name","box","otherwise","queue"] ["doing","name","box","otherwise"] (aF jT):=⟨rfl,rfl,rfl,by decide +kernel,rfl,by decide +kernel,by decide +kernel⟩
theorem Fx {n k:Nat} (hk:1<=k) (D:Df K mg "do_pull" jT ["doing","name","box","otherwise"] f fd) (DD:Df K mg "do_deeds" gO ["doing","deeds"] fD fdD) (GD:bX P w K mg base (CXo P w) k fD fdD ["doing","deeds"] (tL cf CD CS bs qs n)) (MF:Mt K CD "fill" "Doing.fill" e9 ["self","box","worth"] fF fdF) (MQ:Mt K CD "queue_of" "Doing.queue_of" dH ["self","name"] fQ fdQ) (T:DT K mg CD) (TM:MdT K mg CM CS) :
    bX P w K mg base (CXo P w) (k + 1) f fd ["doing","name","box","otherwise"] (De cf CD CS bs qs n):=by
  have GF:bX P w K mg base CX0 1 fF fdF ["self","box","worth"] (vR CD CS bs qs):=vS MF T TM
  have GQ:bX P w K mg base CX0 1 fQ fdQ ["self","name"] (C8 CD CS bs qs):=C9 MQ T TM
  refine D.F.okX scPl (fun vs H Q E h=>?_) (fun cdv A outer s H vs Q E hr h=>?_)
  · obtain ⟨H0,L,e,ds,w,q,x,v,D,rfl,_⟩:=h
    rfl
  obtain ⟨H0,L,e,ds,w,q,x,v,D,rfl,g,hq,hx,hv,hn,ho,p⟩:=h
  have r1:eA 1 _:=hr.mono hk
  have hu:=m6 hr
  refine ⟨_,ak (bF (i:=4) scPl.nd rfl (Or.inl rfl) (iq (pv 0) T.cl MQ.m GQ r1 MQ.b .nil bS (au (pv 1) aw)))
    (aG (cZ (sT (pv 4) (fun _=>rfl))
      (ak (eT (iq (pv 0) T.cl MF.m GF r1 MF.b .nil bS (au (pv 2) (au (lY cv wG wH BV (pv 4) (au aq aw)) aw))))
      (aG (mJ hu (cF (pv 0) rfl) (pv 1) lC rfl)))
      (aG (eT (aS GD hr rfl DD.m DD.F.kp DD.b .nil (dZ.passes fun _ _ _ z=>z) (au (pv 0) (au (pv 3) aw))))))),?_⟩
  simp only [doD] at p
  refine ⟨_,rfl,L.d,L.dx,_,rfl,g.hd,m7 _ _ _ _ _ _ _ _ (by decide +kernel),_,rfl,H0,L,e,ds,w,q,rfl,g,hq,fun G0 l g0 hl gl=>?_⟩
  refine ⟨_,rfl,_,.inl ⟨_,SqL.of gl,rfl⟩,?_⟩
  have gq:(jE w.qu q).length<=30/\∀ n∈jE w.qu q,Wo n:=vQ g.ok hq
  cases e1:jE w.qu q with
  | nil =>
    rw [e1] at p
    refine hW ?_
    exact ⟨_,rfl,_,rfl,H0,L,e,ds,_,v,D,rfl,g0,hv,hn,ho,p⟩
  | cons m ms =>
    rw [e1] at p gl gq
    refine iJ ?_
    have g1:=g0.queue (x:=q) (l:=l) (ns:=ms) hl (by have:=gq.1; rw [bj] at this; omega) (fun z hz=>gq.2 z (af _ hz))
    refine ⟨_,rfl,L.d,L.dx,_,rfl,g0.hd,m7 _ _ _ _ _ _ _ _ (by decide +kernel),_,rfl,_,rfl,.inl ⟨rfl,_,SqL.of gl⟩,l,_,_,0,.int m,rfl,rfl,gl,(by decide),(by decide),(vC (n:=((m :: ms).map V.int).length) (i:=0) (j:=0) (by unfold ixN; rw [if_pos (by decide),if_pos (by rw [ah,bj]; omega)]; rfl)).1,rfl,?_⟩
    refine ⟨H0,L,e,ds,_,x,m,rfl,g1,hx,gq.2 m aC,fun G2 g2=>?_⟩
    have g3:=g2.wrote (x:=q) (bC _ hq)
    exact ⟨_,rfl,L.d,CD,L.dx,_,_,rfl,g2.hd,T.cl,T.nW,C0 _ _ _ _ _ _ _ _,_,rfl,L.wd,_,rfl,g2.putW q,p _ g3 (nh _ _)⟩
theorem scDd:bY ["doing","deed","kind"] ["doing","deed"] (aF jR):=⟨rfl,rfl,rfl,by decide +kernel,rfl,by decide +kernel,by decide +kernel⟩
theorem Fy {n k:Nat} (hk:19<=k) (D:Df K mg "do_deed" jR ["doing","deed"] f fd) (DD:Df K mg "do_deeds" gO ["doing","deeds"] fD fdD) (GD:bX P w K mg base (CXo P w) k fD fdD ["doing","deeds"] (tL cf CD CS bs qs n))
    (MF:Mt K CD "fill" "Doing.fill" e9 ["self","box","worth"] fF fdF) (MR:Mt K CD "reckon" "Doing.reckon" dU ["self","formula"] fR fdR) (GR:bX P w K mg base (CXo P w) 18 fR fdR ["self","formula"] (q5 cf CD CS bs qs))
    (DP:Df K mg "do_pull" jT ["doing","name","box","otherwise"] fP fdP) (DU:Df K mg "do_push" jS ["doing","name","formula"] fU fdU) (GU:bX P w K mg base (CXo P w) 19 fU fdU ["doing","name","formula"] (yK cf CD CS bs qs))
    (DW:Df K mg "do_draw" jU ["doing","box","formula"] fW fdW) (GW:bX P w K mg base (CXo P w) 19 fW fdW ["doing","box","formula"] (vT cf CD CS bs qs)) (DS:Df K mg "do_send" jV ["doing","deed"] fS fdS) (GS:bX P w K mg base (CXo P w) 19 fS fdS ["doing","deed"] (yL cf CD CS bs qs)) (MQ:Mt K CD "queue_of" "Doing.queue_of" dH ["self","name"] fQ fdQ) (T:DT K mg CD) (TM:MdT K mg CM CS) :
    bX P w K mg base (CXo P w) (k + 2) f fd ["doing","deed"] (spDd cf CD CS bs qs (n + 1)):=by
  have GF:bX P w K mg base CX0 1 fF fdF ["self","box","worth"] (vR CD CS bs qs):=vS MF T TM
  have GP:bX P w K mg base (CXo P w) (k + 1) fP fdP ["doing","name","box","otherwise"] (De cf CD CS bs qs n):=Fx (by omega) DP DD GD MF MQ T TM
  refine D.F.okX scDd (fun vs H Q E h=>?_) (fun cdv A outer s H vs Q E hr h=>?_)
  · obtain ⟨H0,L,e,ds,w,v,D,rfl,_⟩:=h
    rfl
  obtain ⟨H0,L,e,ds,w,v,D,rfl,g,hv,hn,ho,p⟩:=h
  have r1:eA 1 _:=hr.mono (by omega)
  have r18:eA 18 _:=hr.mono (by omega)
  have r19:eA 19 _:=hr.mono (by omega)
  have rk:eA k _:=hr.mono (by omega)
  refine ⟨_,ak (bF (i:=2) scDd.nd rfl (Or.inl rfl) (bN cz (pv 1) aq (fun _ _=>rfl)))
    (aG (cZ (bL eO (pv 2) cG (cg _)) (aG (eT (iq (pv 0) T.cl MF.m GF r1 MF.b .nil bS (au (bN cz (pv 1) aq (fun _ _=>rfl)) (au (iq (pv 0) T.cl MR.m GR r18 MR.b .nil (dZ.passes fun _ _ _ z=>z) (au (bN cz (pv 1) aq (fun _ _=>rfl)) aw)) aw)))))
    (aG (cZ (bL eO (pv 2) cG (cg _)) (aG (eT (aS GU r19 rfl DU.m DU.F.kp DU.b .nil (dZ.passes fun _ _ _ z=>z) (au (pv 0) (au (bN cz (pv 1) aq (fun _ _=>rfl)) (au (bN cz (pv 1) aq (fun _ _=>rfl)) aw))))))
    (aG (cZ (bL eO (pv 2) cG (cg _)) (aG (eT (aS GP hr rfl DP.m DP.F.kp DP.b .nil (dZ.passes fun _ _ _ z=>z) (au (pv 0) (au (bN cz (pv 1) aq (fun _ _=>rfl)) (au (bN cz (pv 1) aq (fun _ _=>rfl)) (au (bN cz (pv 1) aq (fun _ _=>rfl)) aw)))))))
    (aG (cZ (bL eO (pv 2) cG (cg _)) (aG (eT (aS GW r19 rfl DW.m DW.F.kp DW.b .nil (dZ.passes fun _ _ _ z=>z) (au (pv 0) (au (bN cz (pv 1) aq (fun _ _=>rfl)) (au (bN cz (pv 1) aq (fun _ _=>rfl)) aw))))))
    (aG (cZ (bL eO (pv 2) cG (cg _)) (aG (eT (aS GS r19 rfl DS.m DS.F.kp DS.b .nil (dZ.passes fun _ _ _ z=>z) (au (pv 0) (au (pv 1) aw)))))
    (aG (cZ (bL eO (pv 2) cG (cg _)) (aG (eT (aS GD rk rfl DD.m DD.F.kp DD.b .nil (dZ.passes fun _ _ _ z=>z) (au (pv 0) (au (sR (bL Gu (iq (pv 0) T.cl MR.m GR r18 MR.b .nil (dZ.passes fun _ _ _ z=>z) (au (bN cz (pv 1) aq (fun _ _=>rfl)) aw)) aq (cg _)) (bN cz (pv 1) aq (fun _ _=>rfl)) (bN cz (pv 1) aq (fun _ _=>rfl))) aw)))))
    (aG (cZ (bL eO (pv 2) cG (cg _)) (aG (gf (pv 0) lC rfl)) cq)))))))))))))),?_⟩
  have no:∀ {m:Str},yI.contains m=false->(dF L.m L.hv L.st L.wd L.od w.en L.rd L.ud).lookup m=none:=fun z=>m7 _ _ _ _ _ _ _ _ z
  have nx:∀ {a b:Str} {p1 p2:Prop},(a == b)=false->p2->(if decide (V.str a=V.str b)=true then p1 else p2):=fun z q=>kL (rT (sne z)) (hW q)
  have yx:∀ {a:Str} {p1 p2:Prop},p1->(if decide (V.str a=V.str a)=true then p1 else p2):=fun q=>kL (AN _) (iJ q)
  have fw:w.len < 400000:=by omega
  cases D with
  | put x F =>
    obtain ⟨t,u,rfl,ht,hx,hF⟩:=(by simpa only [eJ] using hv)
    have tt:=SqT.of (K:=K) (g.sm _ _ ht)
    simp only [doD] at p
    refine ⟨_,rfl,t,_,_,_,rfl,rfl,tt,rfl,_,rfl,rfl,_,rfl,yx ?_⟩
    refine ⟨_,rfl,L.d,L.dx,_,rfl,g.hd,no (by decide +kernel),_,rfl,t,_,_,_,rfl,rfl,tt,rfl,?_⟩
    refine ⟨_,rfl,L.d,L.dx,_,rfl,g.hd,no (by decide +kernel),_,rfl,t,_,_,_,rfl,rfl,tt,rfl,H0,L,e,ds,w,u,F,rfl,g,hF,fw,fun G1 g1=>?_⟩
    refine kM p g1.sm fun m em p=>?_
    exact ⟨H0,L,e,ds,_,x,m,rfl,g1,hx,rH g1.asks (hF.1.same g1.sm) em,fun G' g'=>p G' g' (yJ (w:=w) (F:=F))⟩
  | push x F =>
    obtain ⟨t,u,rfl,ht,hx,hF⟩:=(by simpa only [eJ] using hv)
    have tt:=SqT.of (K:=K) (g.sm _ _ ht)
    refine ⟨_,rfl,t,_,_,_,rfl,rfl,tt,rfl,_,rfl,rfl,_,rfl,nx (by decide +kernel) ?_⟩
    refine ⟨_,rfl,rfl,_,rfl,yx ?_⟩
    exact ⟨_,rfl,_,rfl,t,_,_,_,rfl,rfl,tt,rfl,_,rfl,t,_,_,_,rfl,rfl,tt,rfl,H0,L,e,ds,w,x,u,F,rfl,g,hx,hF,fw,p⟩
  | pull q x o =>
    obtain ⟨t,u,rfl,ht,hq,hx,hl⟩:=(by simpa only [eJ] using hv)
    have tt:=SqT.of (K:=K) (g.sm _ _ ht)
    simp only [Dd.deep] at hn
    simp only [Dd.size] at ho p
    refine ⟨_,rfl,t,_,_,_,rfl,rfl,tt,rfl,_,rfl,rfl,_,rfl,nx (by decide +kernel) ?_⟩
    refine ⟨_,rfl,rfl,_,rfl,nx (by decide +kernel) ?_⟩
    refine ⟨_,rfl,rfl,_,rfl,yx ?_⟩
    exact ⟨_,rfl,_,rfl,t,_,_,_,rfl,rfl,tt,rfl,_,rfl,t,_,_,_,rfl,rfl,tt,rfl,_,rfl,t,_,_,_,rfl,rfl,tt,rfl,H0,L,e,ds,w,q,x,u,o,rfl,g,hq,hx,hl,(by omega),(by omega),p.le (by omega)⟩
  | draw x F =>
    obtain ⟨t,u,rfl,ht,hx,hF⟩:=(by simpa only [eJ] using hv)
    have tt:=SqT.of (K:=K) (g.sm _ _ ht)
    refine ⟨_,rfl,t,_,_,_,rfl,rfl,tt,rfl,_,rfl,rfl,_,rfl,nx (by decide +kernel) ?_⟩
    refine ⟨_,rfl,rfl,_,rfl,nx (by decide +kernel) ?_⟩
    refine ⟨_,rfl,rfl,_,rfl,nx (by decide +kernel) ?_⟩
    refine ⟨_,rfl,rfl,_,rfl,yx ?_⟩
    exact ⟨_,rfl,_,rfl,t,_,_,_,rfl,rfl,tt,rfl,_,rfl,t,_,_,_,rfl,rfl,tt,rfl,H0,L,e,ds,w,x,u,F,rfl,g,hx,hF,fw,p⟩
  | send to sg F rk F1 F2 =>
    obtain ⟨t,u,u1,u2,rfl,ht,hF,hF1,hF2⟩:=(by simpa only [eJ] using hv)
    have tt:=SqT.of (K:=K) (g.sm _ _ ht)
    simp only [Dd.size] at ho p
    refine ⟨_,rfl,t,_,_,_,rfl,rfl,tt,rfl,_,rfl,rfl,_,rfl,nx (by decide +kernel) ?_⟩
    refine ⟨_,rfl,rfl,_,rfl,nx (by decide +kernel) ?_⟩
    refine ⟨_,rfl,rfl,_,rfl,nx (by decide +kernel) ?_⟩
    refine ⟨_,rfl,rfl,_,rfl,nx (by decide +kernel) ?_⟩
    refine ⟨_,rfl,rfl,_,rfl,yx ?_⟩
    exact ⟨_,rfl,_,rfl,H0,L,e,ds,w,t,u,u1,u2,to,sg,rk,F,F1,F2,rfl,g,ht,hF,hF1,hF2,(by omega),p⟩
  | ife F x y =>
    obtain ⟨t,u,u1,u2,rfl,ht,hF,hX,hY⟩:=(by simpa only [eJ] using hv)
    simp only [Dd.deep] at hn
    simp only [Dd.size] at ho p
    simp only [doD] at p
    have tt:=SqT.of (K:=K) (g.sm _ _ ht)
    refine ⟨_,rfl,t,_,_,_,rfl,rfl,tt,rfl,_,rfl,rfl,_,rfl,nx (by decide +kernel) ?_⟩
    refine ⟨_,rfl,rfl,_,rfl,nx (by decide +kernel) ?_⟩
    refine ⟨_,rfl,rfl,_,rfl,nx (by decide +kernel) ?_⟩
    refine ⟨_,rfl,rfl,_,rfl,nx (by decide +kernel) ?_⟩
    refine ⟨_,rfl,rfl,_,rfl,nx (by decide +kernel) ?_⟩
    refine ⟨_,rfl,rfl,_,rfl,yx ?_⟩
    refine ⟨_,rfl,_,rfl,L.d,L.dx,_,rfl,g.hd,no (by decide +kernel),_,rfl,t,_,_,_,rfl,rfl,tt,rfl,H0,L,e,ds,w,u,F,rfl,g,hF,fw,fun G1 g1=>?_⟩
    have tt1:=SqT.of (K:=K) (g1.sm _ _ ht)
    have lw:Wk.len {w with rk:=w.rk++[F]}=w.len + 1:=by
      show w.out.length + (w.rk++[F]).length=w.out.length + w.rk.length + 1
      rw [aI]
      rfl
    refine kM p g1.sm fun m em p=>?_
    refine ⟨rfl,_,rfl,?_⟩
    by_cases c:m=0
    · subst c
      rw [if_pos rfl] at p
      refine kL (b:=false) rfl (hW ?_)
      exact ⟨_,rfl,t,_,_,_,rfl,rfl,tt1,rfl,H0,L,e,ds,_,u2,y,rfl,g1,hY,(by omega),(by rw [lw]; omega),p.le (by rw [lw]; omega)⟩
    · rw [if_neg c] at p
      refine kL (b:=true) (by rw [decide_eq_false (fun z=>c (tJ z))]; rfl) (iJ ?_)
      exact ⟨_,rfl,t,_,_,_,rfl,rfl,tt1,rfl,H0,L,e,ds,_,u1,x,rfl,g1,hX,(by omega),(by rw [lw]; omega),p.le (by rw [lw]; omega)⟩
  | fin =>
    obtain ⟨t,rfl,ht⟩:=(by simpa only [eJ] using hv)
    have tt:=SqT.of (K:=K) (g.sm _ _ ht)
    simp only [doD] at p
    refine ⟨_,rfl,t,_,_,_,rfl,rfl,tt,rfl,_,rfl,rfl,_,rfl,nx (by decide +kernel) ?_⟩
    refine ⟨_,rfl,rfl,_,rfl,nx (by decide +kernel) ?_⟩
    refine ⟨_,rfl,rfl,_,rfl,nx (by decide +kernel) ?_⟩
    refine ⟨_,rfl,rfl,_,rfl,nx (by decide +kernel) ?_⟩
    refine ⟨_,rfl,rfl,_,rfl,nx (by decide +kernel) ?_⟩
    refine ⟨_,rfl,rfl,_,rfl,nx (by decide +kernel) ?_⟩
    refine ⟨_,rfl,rfl,_,rfl,yx ?_⟩
    refine ⟨_,rfl,L.d,CD,L.dx,_,rfl,g.hd,T.cl,T.nE,IQ _ _ _ _ _ _ _ _,?_⟩
    rw [IJ]
    exact p _ g.ended (nh _ _)
theorem scDs:bY ["doing","deeds","deed"] ["doing","deeds"] (aF gO):=⟨rfl,rfl,rfl,by decide +kernel,rfl,by decide +kernel,by decide +kernel⟩
theorem AS {n k:Nat} (D:Df K mg "do_deeds" gO ["doing","deeds"] f fd) (D1:Df K mg "do_deed" jR ["doing","deed"] f1 fd1) (G1:bX P w K mg base (CXo P w) k f1 fd1 ["doing","deed"] (spDd cf CD CS bs qs n)) :
    bX P w K mg base (CXo P w) (k + 1) f fd ["doing","deeds"] (tL cf CD CS bs qs n):=by
  refine D.F.okX scDs (fun vs H Q E h=>?_) (fun cdv A outer s H vs Q E hr h=>?_)
  · obtain ⟨H0,L,e,ds,w,v,D,rfl,_⟩:=h
    rfl
  obtain ⟨H0,L,e,ds,w,v,D,rfl,g,⟨l,vs,rfl,hl,hlen,hD⟩,hn,ho,p⟩:=h
  refine ⟨_,aG (iz dZ.own rfl (ip (pv 1)) (eD (i:=2) scDs.nd rfl (Or.inl rfl)) (aG (eT (aS G1 hr rfl D1.m D1.F.kp D1.b .nil (dZ.passes fun _ _ _ z=>z) (au (pv 0) (au (pv 2) aw)))))),?_⟩
  refine ⟨_,rfl,l,rfl,⟨_,SqL.of (g.sm _ _ hl)⟩,iY (K:=K) (a:=l) (xs:=vs) (fun i σ G=>∃ (D':Ds) (w':Wk) (u:Option V),σ=[some (.ref L.d),some (.ref l),u]/\Dg CD CS bs qs H0 G L e ds w'/\fg bs qs H0 D' (vs.drop i)/\D'.deep < n/\w'.len + 4 * D'.size<=w.len + 4 * D.size /\
    qZ cf (fun w' G'=>Dg CD CS bs qs H0 G' L e ds w') H0 (w.len + 4 * D.size) (doS e ds D' w') Q E) ⟨D,w,none,rfl,g,hD,hn,aL _,p⟩ ?_ ?_ ?_⟩
  · rintro i σ G _ ⟨D',w',u,rfl,g',_⟩
    exact SqL.of (g'.sm _ _ hl)
  · rintro i x σ G hi ⟨D',w',u,rfl,g',hD',hn',ho',p'⟩
    have lt:i < vs.length:=(aB.mp hi).1
    have hx:vs[i]=x:=(aB.mp hi).2
    rw [vU lt,hx] at hD'
    cases D' with
    | nil =>
      simp only [fg] at hD'
      cases hD'
    | cons d r =>
      obtain ⟨v0,vr,ev,hd,hr'⟩:=(by simpa only [fg] using hD')
      cases ev
      simp only [Ds.deep] at hn'
      simp only [Ds.size] at ho'
      refine ⟨_,rfl,_,rfl,H0,L,e,ds,w',x,d,rfl,g',hd,(by omega),(by omega),?_⟩
      simp only [doS] at p'
      cases ed:doD e ds d w' with
      | error er =>
        rw [ed] at p'
        exact p'
      | ok w2 =>
        rw [ed] at p'
        intro G2 g2 l2
        exact ⟨r,w2,_,rfl,g2,hr',(by omega),(by omega),p'⟩
  · rintro σ G ⟨D',w',u,rfl,g',hD',hn',ho',p'⟩
    rw [Em] at hD'
    cases D' with
    | nil =>
      simp only [doS] at p'
      exact p' G g' (by omega)
    | cons d r =>
      obtain ⟨v0,vr,ev,_⟩:=(by simpa only [fg] using hD')
      cases ev
theorem xp (D:Df K mg "do_deeds" gO ["doing","deeds"] f fd) (D1:Df K mg "do_deed" jR ["doing","deed"] f1 fd1)
    (MF:Mt K CD "fill" "Doing.fill" e9 ["self","box","worth"] fF fdF) (MR:Mt K CD "reckon" "Doing.reckon" dU ["self","formula"] fR fdR) (GR:bX P w K mg base (CXo P w) 18 fR fdR ["self","formula"] (q5 cf CD CS bs qs))
    (DP:Df K mg "do_pull" jT ["doing","name","box","otherwise"] fP fdP) (DU:Df K mg "do_push" jS ["doing","name","formula"] fU fdU) (GU:bX P w K mg base (CXo P w) 19 fU fdU ["doing","name","formula"] (yK cf CD CS bs qs))
    (DW:Df K mg "do_draw" jU ["doing","box","formula"] fW fdW) (GW:bX P w K mg base (CXo P w) 19 fW fdW ["doing","box","formula"] (vT cf CD CS bs qs)) (DS:Df K mg "do_send" jV ["doing","deed"] fS fdS) (GS:bX P w K mg base (CXo P w) 19 fS fdS ["doing","deed"] (yL cf CD CS bs qs)) (MQ:Mt K CD "queue_of" "Doing.queue_of" dH ["self","name"] fQ fdQ) (T:DT K mg CD) (TM:MdT K mg CM CS) :
    ∀ n:Nat,bX P w K mg base (CXo P w) (20 + 3 * n) f fd ["doing","deeds"] (tL cf CD CS bs qs n)
  | 0=>by
    have no:∀ vs H Q E,¬ tL cf CD CS bs qs 0 vs H Q E:=fun vs H Q E h=>by
      obtain ⟨H0,L,e,ds,w,v,D,_,_,_,hn,_⟩:=h
      omega
    exact ⟨fun vs H Q E h=>absurd h (no vs H Q E),fun A outer s H args us vs Q E _ _ _ _ h=>absurd h (no vs H Q E)⟩
  | n + 1=>AS D D1 (Fy (n:=n) (k:=20 + 3 * n) (by omega) D1 D (xp D D1 MF MR GR DP DU GU DW GW DS GS MQ T TM n) MF MR GR DP DU GU DW GW DS GS MQ T TM)
end
end My
namespace L2
open PySem PySem.Spec PyProof.Rows
theorem yM {X:Cx}:mY X (.type "dict") (fun xs H Q=>∃ d kvs,xs=[V.ref d]/\H d=some (.dK kvs)/\∀ p,H p=none->Q (.ref p) (upd H p (.dK kvs))):=by
  intro pins s σ H xs us Q I r h
  obtain ⟨d,kvs,rfl,hd,q⟩:=h
  obtain ⟨u,rfl,ru⟩:=vals1 r
  cases ru
  obtain ⟨hz,n1,ws,k1,m1⟩:=(show eM X.prog X.w H s.heap d (.dK kvs) from I.hok d _ hd)
  refine kt_call_dict (knd:=fX X.prog X.w) n1 m1 (by rw [<- k1.length]; exact hz) fun h' hn sb=>?_
  have kk:∀ b o,s.heap.get? b=some o->h'.get? b=some o:=fun b o e=>(sb.2 b (aU (aT e))).trans (aQ _ e)
  exact ⟨.ref s.heap.objs.size,_,I.laid (a:=s.heap.objs.size) (o:=.dK kvs) (t':=s.toks) kk (aL _) (ym hz (beq_eq_false_iff_ne.mpr (fY (aU I.big))) k1 hn),rfl,q _ (I.hok.fresh (aL _))⟩
end L2
namespace My
open PySem L2
def lu (CS:ae) (H:Hp) (st:ae) (bx:List (Str×Int)) (qu:List (Str×List Int)) (dr:Nat) (se:Int):Prop:=
  ∃ dx bd qd qa,H st=some (.ins CS dx (mO (.ref bd) (.ref qd) (.int dr) (.int se)))/\H bd=some (.dK (boK bx))/\H qd=some (.dK (quK qa))/\gu H qa qu
theorem gu.same {G G':Hp} (s:bT G G') {qa:List (Str×ae)} {qu:List (Str×List Int)} (q:gu G qa qu):gu G' qa qu:=
  gu.keep (L:=⟨0,0,0,0,0,0,0,0,0,0,.non,.non,qa⟩) (fun a u e _=>s _ _ e) (fun _ h=>h) q
theorem lu.same {CS:ae} {H H':Hp} (s:bT H H') {st:ae} {bx:List (Str×Int)} {qu:List (Str×List Int)} {dr:Nat} {se:Int} (h:lu CS H st bx qu dr se):lu CS H' st bx qu dr se:=by
  obtain ⟨dx,bd,qd,qa,h1,h2,h3,h4⟩:=h
  exact ⟨dx,bd,qd,qa,s _ _ h1,s _ _ h2,s _ _ h3,h4.same s⟩
structure StNew (CS:ae) (H G:Hp) (st:ae) (bx:List (Str×Int)) (qu:List (Str×List Int)) (dr:Nat) (se:Int) (dxs bd qd:ae) (qa:List (Str×ae)):Prop where
  sm:bT H G
  hst:G st=some (.ins CS dxs (mO (.ref bd) (.ref qd) (.int dr) (.int se)))
  hb:G bd=some (.dK (boK bx))
  hq:G qd=some (.dK (quK qa))
  hl:gu G qa qu
  nd:(st :: bd :: qd :: qa.map (·.2)).Nodup
  fr:∀ a∈st :: bd :: qd :: qa.map (·.2),H a=none
def Dh (CS:ae):Sp:=fun vs H Q _=>∃ (st:ae) (bx:List (Str×Int)) (qu:List (Str×List Int)) (dr:Nat) (se:Int),vs=[.ref st]/\lu CS H st bx qu dr se/\(qu.map (·.1)).Nodup/\qu.length < 100 /\
  ∀ (G:Hp) (st' dxs bd qd:ae) (qa:List (Str×ae)),StNew CS H G st' bx qu dr se dxs bd qd qa->Q (.ref st') G
theorem Fz {qa:List (Str×ae)} {x:Str} {l:ae} (h:x∉qa.map (·.1)):jD (quK qa) (Sum.inr x) (.ref l)=quK (qa++[(x,l)]):=by
  have e:qa.lookup x=none:=by
    cases z:qa.lookup x with
    | none=>rfl
    | some a=>exact absurd (cN.mpr ⟨_,oC z,rfl⟩) h
  unfold jD
  have v:kY (quK qa) (Sum.inr x)=none:=by
    have z:=qg V.ref x qa
    rw [e] at z
    exact z
  rw [kF,v]
  show (if false=true then _ else _)=_
  rw [if_neg (by decide)]
  unfold quK
  rw [cy]
  rfl
theorem zI (qa:List (Str×ae)):(quK qa).length=qa.length:=ah _
theorem gu.len {G:Hp} {qa:List (Str×ae)} {qu:List (Str×List Int)} (q:gu G qa qu):qa.length=qu.length:=bJ q
theorem gu.nm {G:Hp}:∀ {qa:List (Str×ae)} {qu:List (Str×List Int)},gu G qa qu->qa.map (·.1)=qu.map (·.1)
  | _,_,.nil=>rfl
  | _ :: _,_ :: _,.cons a b=>by rw [cw,cw,a.1,gu.nm b]
theorem gu.nth {G:Hp}:∀ {qa:List (Str×ae)} {qu:List (Str×List Int)} {i:Nat} {p:Str×ae},gu G qa qu->qa[i]?=some p->∃ q,qu[i]?=some q/\p.1=q.1/\G p.2=some (.lst (q.2.map V.int))
  | _,_,i,p,.nil,h=>by simp at h
  | _ :: _,_ :: _,0,p,.cons a b,h=>by
    simp at h
    subst h
    exact ⟨_,rfl,a.1,a.2⟩
  | _ :: _,_ :: _,i + 1,p,.cons a b,h=>by
    obtain ⟨q,h1,h2⟩:=gu.nth (i:=i) (p:=p) b (by simpa using h)
    exact ⟨q,by simpa using h1,h2⟩
section
variable {P:aW} {w:bO} {K:ag} {mg:Str->Option aa} {base:cE} {f fI CD CS CM:ae} {fd fdI:cu}
theorem FA:bY ["self","queues","name","worths"] ["self"] (aF gL):=⟨rfl,rfl,rfl,by decide +kernel,rfl,by decide +kernel,by decide +kernel⟩
theorem FB (F:Fun K "copy" "State.copy" gL f fd) (MS:Mk K CS fI) (FI:Fun K "__init__" "State.__init__" gK fI fdI) (bI:Binds K fdI ["self","boxes","queues","drawn","sent"] []) (B:Bl mg) (T:MdT K mg CM CS) :
    bX P w K mg base CX0 3 f fd ["self"] (Dh CS):=by
  have GI:bX P w K mg base CX0 1 fI fdI ["self","boxes","queues","drawn","sent"] (IC CS):=GZ FI T
  refine F.ok FA (fun vs H Q E h=>?_) (fun cdv A outer s H vs Q E hr h=>?_)
  · obtain ⟨st,bx,qu,dr,se,rfl,_⟩:=h
    rfl
  obtain ⟨st,bx,qu,dr,se,rfl,⟨dx,bd,qd,qa,hst,hb,hq,hl⟩,ndq,lq,k⟩:=h
  have hu:=m6 hr
  refine ⟨_,ak (bF (i:=1) FA.nd rfl (Or.inl rfl) p7)
    (ak (E4 (iz cI rfl (Cf (cF (pv 0) rfl)) (Bs rfl (lV (eD (i:=2) FA.nd rfl (Or.inl rfl)) (lV (eD (i:=3) FA.nd rfl (Or.inl rfl)) vp))) (aG (mJ hu (pv 1) (pv 2) (jL p0 (by rfl) B.list boot_list (au (pv 3) aw)) rfl))))
    (aG (bR (oK MS GI hr (by rfl) T.mS bI .nil bS (au (jL yM (by rfl) B.dict boot_dict (au (cF (pv 0) rfl) aw)) (au (pv 1) (au (cF (pv 0) rfl) (au (cF (pv 0) rfl) aw)))))))),?_⟩
  intro d hd
  have s1:bT H (upd H d (.dK [])):=aR hd _
  have nf:∀ (ob:Obj) (u:HO),H qd≠some (.frz ob u):=fun ob u z=>by
    rw [hq] at z
    cases z
  have ndd:d≠qd:=(aH hq hd).symm
  have nlq:(qa.map (·.1)).Nodup:=by
    rw [hl.nm]
    exact ndq
  refine ⟨_,rfl,st,CS,dx,_,_,rfl,s1 _ _ hst,T.clS,T.nQ,Fo _ _ _ _,qd,_,rfl,s1 _ _ hq,nf,fun od=>?_⟩
  refine AF (d:=qd) (od:=od) (kvs:=quK qa) (fun i σ G=>∃ (v2 v3:Option V) (qa':List (Str×ae)),σ=[some (.ref st),some (.ref d),v2,v3]/\G qd=some (.frz od (.dK (quK qa)))/\(∀ b o,H b=some o->b≠qd->G b=some o)/\G d=some (.dK (quK qa')) /\
    gu G qa' (qu.take i)/\(qa'.map (·.2)).Nodup/\∀ a∈qa'.map (·.2),H a=none/\a≠d) ⟨none,none,[],rfl,ao,fun b o e n=>?_,?_,?_,jI,fun a h=>by cases h⟩ ?_ ?_ ?_
  · rw [aV n]
    exact s1 _ _ e
  · rw [aV ndd]
    exact ao
  · rw [lI]
    exact .nil
  · rintro i σ G _ ⟨_,_,_,_,h1,_⟩
    exact h1
  · rintro i kv t σ G hi ⟨v2,v3,qa',rfl,g1,g2,g3,g4,g5,g6⟩ ht
    obtain ⟨p,hp,rfl⟩:∃ p,qa[i]?=some p/\kv=((Sum.inr p.1:Key),V.ref p.2):=by
      unfold quK at hi
      rw [cC] at hi
      cases z:qa[i]? with
      | none =>
        rw [z] at hi
        cases hi
      | some p =>
        rw [z] at hi
        cases hi
        exact ⟨p,rfl,rfl⟩
    obtain ⟨q,hq1,hq2,hq3⟩:=hl.nth hp
    have st_:=aR ht (.tup [kV (Sum.inr p.1),.ref p.2])
    have npq:p.2≠qd:=lU hq3 hq (by intro z; cases z)
    refine ⟨t,_,rfl,SqT.of ao,rfl,_,_,rfl,_,_,rfl,rfl,?_⟩
    refine ⟨_,rfl,p.2,_,rfl,.inl (SqL.of (st_ _ _ (g2 _ _ hq3 npq))),fun l hl'=>?_⟩
    have sl:=aR hl' (.lst (q.2.map V.int))
    have gd2:=sl _ _ (st_ _ _ g3)
    have lti:i < qu.length:=(aB.mp hq1).1
    have tk:(qu.take (i + 1))=qu.take i++[q]:=by
      rw [gR,hq1]
      rfl
    have nin:p.1∉qa'.map (·.1):=by
      rw [g4.nm,hq2]
      intro z
      have nd2:((qu.take (i + 1)).map (·.1)).Nodup:=by
        rw [wI]
        exact ndq.sublist (lX _ _)
      rw [tk,cy] at nd2
      exact (iG.mp nd2).2.2 _ z q.1 (by simp) rfl
    have len':(quK qa').length < aJ:=by
      have z:=g4.len
      rw [cW] at z
      rw [zI]
      have:=fK
      omega
    have dp:=rP.k (k:=Sum.inr p.1) (v:=.ref l) gd2 len'
    rw [Fz nin] at dp
    refine ⟨_,rfl,_,rfl,d,_,rfl,dp,?_⟩
    have nlG:G l=none:=by
      cases z:G l with
      | none=>rfl
      | some o =>
        have:=st_ _ _ z
        rw [hl'] at this
        cases this
    have nl0:H l=none:=by
      cases z:H l with
      | none=>rfl
      | some o =>
        by_cases c:l=qd
        · rw [c,g1] at nlG
          cases nlG
        · rw [g2 _ _ z c] at nlG
          cases nlG
    have nld:l≠d:=fun z=>by rw [z,g3] at nlG; cases nlG
    refine ⟨_,_,qa'++[(p.1,l)],rfl,?_,fun b o e n=>?_,ao,?_,?_,fun a ha=>?_⟩
    · rw [aV ndd.symm]
      exact sl _ _ (st_ _ _ g1)
    · rw [aV (aH e hd)]
      exact sl _ _ (st_ _ _ (g2 _ _ e n))
    · rw [tk]
      have old:gu (upd (upd (upd G t (.tup [kV (Sum.inr p.1),.ref p.2])) l (.lst (q.2.map V.int))) d (.dK (quK (qa'++[(p.1,l)])))) qa' (qu.take i):=
        gu.keep (L:=⟨0,0,0,0,0,0,0,0,0,0,.non,.non,qa'⟩) (fun a u e m=>bA (sl _ _ (st_ _ _ e)) (g6 a m).2) (fun _ h=>h) g4
      exact eU old ⟨hq2,bA ao nld⟩
    · rw [cy]
      refine iG.mpr ⟨g5,by simp,fun a ha b hb=>?_⟩
      rw [aM.mp hb]
      intro z
      obtain ⟨pp,hpp,e⟩:=cN.mp ha
      obtain ⟨j,hj⟩:=cV hpp
      obtain ⟨_,_,_,y⟩:=g4.nth hj
      rw [e,z,nlG] at y
      cases y
    · rw [cy] at ha
      rcases b8.mp ha with z | z
      · exact g6 a z
      · rw [aM.mp z]
        exact ⟨nl0,nld⟩
  · rintro σ G ⟨v2,v3,qa',rfl,g1,g2,g3,g4,g5,g6⟩
    rw [zI,hl.len,eI] at g4
    refine ⟨qd,od,_,g1,nf,?_⟩
    have sH:bT H (upd G qd (.dK (quK qa))):=fun b o e=>by
      by_cases c:b=qd
      · rw [c,ao]
        rw [c,hq] at e
        exact e
      · rw [aV c]
        exact g2 _ _ e c
    have g3':upd G qd (.dK (quK qa)) d=some (.dK (quK qa')):=bA g3 ndd
    have g4':gu (upd G qd (.dK (quK qa))) qa' qu:=
      gu.keep (L:=⟨0,0,0,0,0,0,0,0,0,0,.non,.non,qa'⟩) (fun a u e m=>bA e (aH hq (g6 a m).1).symm) (fun _ h=>h) g4
    generalize upd G qd (.dK (quK qa))=G2 at sH g3' g4'
    refine ⟨_,rfl,st,CS,dx,_,_,rfl,sH _ _ hst,T.clS,T.nB,Fn _ _ _ _,bd,_,rfl,sH _ _ hb,fun e he=>?_⟩
    have s3:=aR he (.dK (boK bx))
    refine ⟨_,rfl,_,rfl,st,CS,dx,_,_,rfl,s3 _ _ (sH _ _ hst),T.clS,T.nD,IM _ _ _ _,_,rfl,st,CS,dx,_,_,rfl,s3 _ _ (sH _ _ hst),T.clS,T.nS,IP _ _ _ _,?_⟩
    intro x dx' nx ndx nex
    refine ⟨x,dx',_,_,_,_,rfl,ao,fun H' hx bt=>⟨rfl,?_⟩⟩
    have sm:bT (upd G2 e (.dK (boK bx))) H':=fun b o e2=>by
      have cx:b≠x:=aH e2 nx
      refine bt b o ?_ cx
      rw [aV cx,aV (aH e2 ndx)]
      exact e2
    have sm2:=s3.trans sm
    have fresh:∀ {a:ae},upd G2 e (.dK (boK bx)) a=none->H a=none:=fun {a} z=>by
      cases y:H a with
      | none=>rfl
      | some o =>
        rw [s3 _ _ (sH _ _ y)] at z
        cases z
    have he0:H e=none:=by
      cases y:H e with
      | none=>rfl
      | some o =>
        rw [sH _ _ y] at he
        cases he
    refine k H' x dx' e d qa' ⟨sH.trans sm2,hx,sm _ _ ao,sm2 _ _ g3',g4'.same sm2,?_,?_⟩
    · have nx_e:x≠e:=(aH (ao:upd G2 e (.dK (boK bx)) e=_) nx).symm
      have nx_d:x≠d:=(aH (s3 _ _ g3') nx).symm
      have ne_d:e≠d:=(aH g3' he).symm
      have ql:∀ a∈qa'.map (·.2),∃ o,G2 a=some o:=fun a ha=>by
        obtain ⟨pp,hpp,e⟩:=cN.mp ha
        obtain ⟨j,hj⟩:=cV hpp
        obtain ⟨_,_,_,y⟩:=g4'.nth hj
        rw [<- e]
        exact ⟨_,y⟩
      refine cM.mpr ⟨fun z=>?_,cM.mpr ⟨fun z=>?_,cM.mpr ⟨fun z=>(g6 d z).2 rfl,g5⟩⟩⟩
      · rcases ax.mp z with z | z
        · exact nx_e z
        · rcases ax.mp z with z | z
          · exact nx_d z
          · obtain ⟨o,y⟩:=ql x z
            exact (aH (s3 _ _ y) nx) rfl
      · rcases ax.mp z with z | z
        · exact ne_d z
        · obtain ⟨o,y⟩:=ql e z
          exact (aH y he) rfl
    · intro a ha
      rcases ax.mp ha with z | z
      · rw [z]
        exact fresh nx
      · rcases ax.mp z with z | z
        · rw [z]
          exact he0
        · rcases ax.mp z with z | z
          · rw [z]
            exact hd
          · exact (g6 a z).1
end
end My
namespace My
open PySem L2
theorem Dg.base {CD CS:ae} {bs qs:List Str} {H0 H0' G G':Hp} {L:Lay} {h:Ev} {ds:List Int} {w:Wk} (g:Dg CD CS bs qs H0 G L h ds w) (s:bT G G') (s0:bT H0 H0') (s1:bT H0' G') (fr:∀ a∈L.all,H0' a=none):Dg CD CS bs qs H0' G' L h ds w:=by
  obtain ⟨t,x1,x2,x3,x4,dl,em,hm,hdl⟩:=g.hm
  have g':=g.same s
  obtain ⟨rs,r1,r2⟩:=g'.hr
  exact ⟨s1,g'.hd,g'.hst,g'.hb,g'.hq,g'.hl,g'.hw,g'.ho,⟨rs,r1,Paired.mono (fun _ _ z=>z.same s0) r2⟩,g'.hu,g.hh.same s0,⟨t,x1,x2,x3,x4,dl,em,s0 _ _ hm,s0 _ _ hdl⟩,g.nd,fr,g.ok,g.wt,g.wa,g.wb⟩
theorem gu.there {G:Hp} {qa:List (Str×ae)} {qu:List (Str×List Int)} (q:gu G qa qu) {a:ae} (h:a∈qa.map (·.2)):∃ xs,G a=some (.lst xs):=by
  obtain ⟨pp,hpp,e⟩:=cN.mp h
  obtain ⟨j,hj⟩:=cV hpp
  obtain ⟨_,_,_,y⟩:=q.nth hj
  rw [<- e]
  exact ⟨_,y⟩
theorem Dg.there {CD CS:ae} {bs qs:List Str} {H0 G:Hp} {L:Lay} {h:Ev} {ds:List Int} {w:Wk} (g:Dg CD CS bs qs H0 G L h ds w):∀ a∈L.all,∃ o,G a=some o:=fun a ha=>by
  obtain ⟨vs,o1,_⟩:=g.ho
  obtain ⟨rs,r1,_⟩:=g.hr
  unfold Lay.all at ha
  simp only [ax] at ha
  rcases ha with rfl | rfl | rfl | rfl | rfl | rfl | rfl | rfl | ha
  · exact ⟨_,g.hd⟩
  · exact ⟨_,g.hst⟩
  · exact ⟨_,g.hb⟩
  · exact ⟨_,g.hq⟩
  · exact ⟨_,g.hw⟩
  · exact ⟨_,o1⟩
  · exact ⟨_,r1⟩
  · exact ⟨_,g.hu⟩
  · obtain ⟨xs,e⟩:=g.hl.there ha
    exact ⟨_,e⟩
def AU (bs qs:List Str) (H:Hp) (v:V) (p:Str×Ds):Prop:=∃ t u,v=.ref t/\H t=some (.tup [.str p.1,u])/\lF H (fg bs qs H p.2) u
def jx (hs:List (Str×Ds)) (sg:Str):Ds:=(hs.lookup sg).getD .nil
theorem AU.same {bs qs:List Str} {H H':Hp} (s:bT H H') {v:V} {p:Str×Ds} (h:AU bs qs H v p):AU bs qs H' v p:=by
  obtain ⟨t,u,e,h1,h2⟩:=h
  exact ⟨t,u,e,s _ _ h1,h2.same s (fg.same s p.2)⟩
section
variable {P:aW} {w:bO} {K:ag} {mg:Str->Option aa} {base:cE} {f fC fI CD CS CM:ae} {fd fdC fdI:cu} {bs qs:List Str}
theorem gm {G:Hp} {a b:ae} {o:HO} (h:upd G a o b=none):b≠a/\G b=none:=by
  by_cases c:b=a
  · rw [c,ao] at h
    cases h
  · rw [aV c] at h
    exact ⟨c,h⟩
theorem xq {G:Hp} {d wd od rd ud a:ae} {i3 i4 i6 i7 i8 o:HO} (hwd:G wd=none) (hod:G od=none) (hrd:G rd=none) (hud:G ud=none) (e:G a=some o) (n:a≠d):upd (upd (upd (upd (upd (upd (upd (upd (upd G d i3) wd (.dK [])) d i4) od (.lst [])) d i6) rd (.lst [])) d i7) ud (.dK [])) d i8 a=some o:=
  bA (bA (bA (bA (bA (bA (bA (bA (bA e n) (aH e hwd)) n) (aH e hod)) n) (aH e hrd)) n) (aH e hud)) n
def IS (CD CS:ae) (bs qs:List Str):Sp:=fun vs H Q _=>∃ (H0:Hp) (d dx st:ae) (m hv:V) (h:Ev) (ds:List Int) (bx:List (Str×Int)) (qu:List (Str×List Int)) (dr:Nat) (se:Int),vs=[.ref d,m,.ref st,hv]/\H d=some (.ins CD dx [])/\H0 d=none/\bT H0 H/\lu CS H0 st bx qu dr se /\
  hZ H0 hv h/\(∃ t x1 x2 x3 x4 dl,m=.ref t/\H0 t=some (.tup [x1,x2,x3,.ref dl,x4])/\H0 dl=some (.lst (ds.map V.int)))/\o9 bs qs ⟨bx,qu,dr,se,[],[],false,[],[]⟩/\Wo h.t/\Wo h.a/\Wo h.b /\
  ∀ (G:Hp) (L:Lay),L.d=d->L.m=m->Dg CD CS bs qs H0 G L h ds ⟨bx,qu,dr,se,[],[],false,[],[]⟩->Q .non G
theorem scDI:bY ["self","machine","state","happening"] ["self","machine","state","happening"] (aF iO):=⟨rfl,rfl,rfl,by decide +kernel,rfl,by decide +kernel,by decide +kernel⟩
theorem ok_DI (F:Fun K "__init__" "Doing.__init__" iO f fd) (MC:Mt K CS "copy" "State.copy" gL ["self"] fC fdC) (GC:bX P w K mg base CX0 3 fC fdC ["self"] (Dh CS)) (T:DT K mg CD) (TM:MdT K mg CM CS):bX P w K mg base CX0 4 f fd ["self","machine","state","happening"] (IS CD CS bs qs):=by
  refine F.ok scDI (fun vs H Q E h=>?_) (fun cdv A outer s H vs Q E hr h=>?_)
  · obtain ⟨H0,d,dx,st,m,hv,h,ds,bx,qu,dr,se,rfl,_⟩:=h
    rfl
  obtain ⟨H0,d,dx,st,m,hv,h,ds,bx,qu,dr,se,rfl,hd,nd0,s0,hS,hE,hM,ok,wt,wa,wb,k⟩:=h
  refine ⟨_,ak (gf (pv 0) (pv 1) rfl) (ak (gf (pv 0) (pv 3) rfl) (ak (gf (pv 0) (pX (pv 2) TM.clS MC.m GC hr MC.b .nil bS) rfl) (ak (gf (pv 0) p7 rfl) (ak (gf (pv 0) (fy aw) rfl) (ak (gf (pv 0) lC rfl) (ak (gf (pv 0) (fy aw) rfl) (aG (gf (pv 0) p7 rfl)))))))),?_⟩
  have l1:=gT "machine" m []
  have l2:=gT "happening" hv (dD "machine" m [])
  simp only [cP] at l1
  refine ⟨_,rfl,_,rfl,d,CD,dx,[],rfl,hd,T.cl,T.nM,(by show 0 < 1000; decide),?_⟩
  refine ⟨_,rfl,_,rfl,d,CD,dx,_,rfl,ao,T.cl,T.nH,(by omega),?_⟩
  rw [y8]
  have sd:∀ (o:HO),bT H0 (upd H d o):=fun o b u e=>by
    rw [aV (aH e nd0)]
    exact s0 _ _ e
  obtain ⟨dxs0,bd0,qd0,qa0,hst0,_⟩:=id hS
  refine ⟨_,rfl,st,dxs0,_,rfl,sd _ _ _ hst0,st_no _ _ _ _ (by decide +kernel),st,bx,qu,dr,se,rfl,hS.same (sd _),(by rw [ok.kq]; exact ok.nq),?_,fun G st' dxs bd qd qa N=>?_⟩
  · have e:=congrArg pf ok.kq
    rw [ah] at e
    have:=ok.fw
    rw [aI] at this
    show qu.length < 100
    have e:qu.length=qs.length:=e
    omega
  have gd:G d=some (.ins CD dx (dD "happening" hv (dD "machine" m []))):=N.sm _ _ ao
  have l3:=gT "state" (.ref st') (dD "happening" hv (dD "machine" m []))
  have l4:=fun wd=>gT "written" (.ref wd) (dD "state" (.ref st') (dD "happening" hv (dD "machine" m [])))
  have l5:=fun od wd=>gT "outgoing" (.ref od) (dD "written" (.ref wd) (dD "state" (.ref st') (dD "happening" hv (dD "machine" m []))))
  refine ⟨_,rfl,d,CD,dx,_,rfl,gd,T.cl,T.nS,(by omega),?_⟩
  have l6:=fun od wd=>gT "ends" (.bl false) (dD "outgoing" (.ref od) (dD "written" (.ref wd) (dD "state" (.ref st') (dD "happening" hv (dD "machine" m [])))))
  have l7:=fun rd od wd=>gT "reckoned" (.ref rd) (dD "ends" (.bl false) (dD "outgoing" (.ref od) (dD "written" (.ref wd) (dD "state" (.ref st') (dD "happening" hv (dD "machine" m []))))))
  intro wd hwd
  obtain ⟨nwd,hwd⟩:=gm hwd
  refine ⟨_,rfl,d,CD,dx,_,rfl,(by rw [aV nwd.symm]; exact ao),T.cl,T.nW,(by omega),bK _,fun od hod=>?_⟩
  obtain ⟨nod,hod⟩:=gm hod
  obtain ⟨now_,hod⟩:=gm hod
  obtain ⟨_,hod⟩:=gm hod
  have l4':=l4 wd
  have l5':=l5 od wd
  have l6':=l6 od wd
  refine ⟨_,rfl,d,CD,dx,_,rfl,(by rw [aV nod.symm]; exact ao),T.cl,T.nO,(by omega),?_⟩
  refine ⟨_,rfl,d,CD,dx,_,rfl,ao,T.cl,T.nE,(by omega),bK _,fun rd hrd=>?_⟩
  rw [y8] at hrd |-
  obtain ⟨nrd,hrd⟩:=gm hrd
  obtain ⟨nro,hrd⟩:=gm hrd
  obtain ⟨_,hrd⟩:=gm hrd
  obtain ⟨nrw,hrd⟩:=gm hrd
  obtain ⟨_,hrd⟩:=gm hrd
  have l7':=l7 rd od wd
  refine ⟨_,rfl,d,CD,dx,_,rfl,(by rw [aV nrd.symm]; exact ao),T.cl,T.nR,(by omega),?_⟩
  intro ud hud
  obtain ⟨nud,hud⟩:=gm hud
  obtain ⟨nur,hud⟩:=gm hud
  obtain ⟨_,hud⟩:=gm hud
  obtain ⟨nuo,hud⟩:=gm hud
  obtain ⟨_,hud⟩:=gm hud
  obtain ⟨nuw,hud⟩:=gm hud
  obtain ⟨_,hud⟩:=gm hud
  refine ⟨_,rfl,d,CD,dx,_,rfl,(by rw [aV nud.symm]; exact ao),T.cl,T.nQ,(by omega),?_⟩
  rw [II]
  have frH:∀ {a:ae},G a=none->H0 a=none:=fun {a} z=>by
    cases y:H0 a with
    | none=>rfl
    | some o =>
      rw [N.sm _ _ (sd _ _ _ y)] at z
      cases z
  have fr0:∀ a∈st' :: bd :: qd :: qa.map (·.2),H0 a=none/\a≠d:=fun a ha=>by
    have z:=N.fr a ha
    have n:a≠d:=fun y=>by
      rw [y,ao] at z
      cases z
    rw [aV n] at z
    refine ⟨?_,n⟩
    cases y:H0 a with
    | none=>rfl
    | some o =>
      rw [s0 _ _ y] at z
      cases z
  have thG:∀ a∈st' :: bd :: qd :: qa.map (·.2),∃ o,G a=some o:=fun a ha=>by
    simp only [ax] at ha
    rcases ha with rfl | rfl | rfl | ha
    · exact ⟨_,N.hst⟩
    · exact ⟨_,N.hb⟩
    · exact ⟨_,N.hq⟩
    · obtain ⟨xs,e⟩:=N.hl.there ha
      exact ⟨_,e⟩
  have i1:∀ {b:ae} {xs:List ae},b∈b :: xs:=aC
  have i2:∀ {a b:ae} {xs:List ae},b∈xs->b∈a :: xs:=fun z=>af _ z
  refine k _ ⟨d,dx,st',dxs,bd,qd,wd,od,rd,ud,m,hv,qa⟩ rfl rfl ⟨fun b o e=>xq hwd hod hrd hud (N.sm _ _ (sd _ _ _ e)) (aH e nd0),ao,xq hwd hod hrd hud N.hst (fr0 _ i1).2,xq hwd hod hrd hud N.hb (fr0 _ (i2 i1)).2,xq hwd hod hrd hud N.hq (fr0 _ (i2 (i2 i1))).2,?_,?_,⟨[],?_,.nil⟩,⟨[],?_,.nil⟩,?_,hE,hM,?_,?_,ok,wt,wa,wb⟩
  · exact gu.keep (L:=⟨0,0,0,0,0,0,0,0,0,0,.non,.non,qa⟩) (fun a u e m=>xq hwd hod hrd hud e (fr0 a (i2 (i2 (i2 m)))).2) (fun _ h=>h) N.hl
  · show upd _ d _ wd=some (.dK [])
    rw [aV nwd,aV nuw.symm,aV nwd,aV nrw.symm,aV nwd,aV now_.symm,aV nwd,ao]
  · show upd _ d _ od=some (.lst [])
    rw [aV nod,aV nuo.symm,aV nod,aV nro.symm,aV nod,ao]
  · show upd _ d _ rd=some (.lst [])
    rw [aV nrd,aV nur.symm,aV nrd,ao]
  · show upd _ d _ ud=some (.dK [])
    rw [aV nud,ao]
  · have nd:=N.nd
    have hn:∀ {a:ae} {xs:List ae},a∉xs->xs.Nodup->(a :: xs).Nodup:=fun p q=>cM.mpr ⟨p,q⟩
    obtain ⟨n1,nd⟩:=cM.mp nd
    obtain ⟨n2,nd⟩:=cM.mp nd
    obtain ⟨n3,nd⟩:=cM.mp nd
    simp only [ax,not_or] at n1 n2 n3
    have wdn:∀ a∈st' :: bd :: qd :: qa.map (·.2),a≠wd:=fun a ha z=>by
      obtain ⟨o,y⟩:=thG a ha
      rw [z,hwd] at y
      cases y
    have odn:∀ a∈st' :: bd :: qd :: qa.map (·.2),a≠od:=fun a ha z=>by
      obtain ⟨o,y⟩:=thG a ha
      rw [z,hod] at y
      cases y
    have rdn:∀ a∈st' :: bd :: qd :: qa.map (·.2),a≠rd:=fun a ha z=>by
      obtain ⟨o,y⟩:=thG a ha
      rw [z,hrd] at y
      cases y
    have udn:∀ a∈st' :: bd :: qd :: qa.map (·.2),a≠ud:=fun a ha z=>by
      obtain ⟨o,y⟩:=thG a ha
      rw [z,hud] at y
      cases y
    show (d :: st' :: bd :: qd :: wd :: od :: rd :: ud :: qa.map (·.2)).Nodup
    refine hn ?_ (hn ?_ (hn ?_ (hn ?_ (hn ?_ (hn ?_ (hn ?_ (hn ?_ nd)))))))
    · simp only [ax,not_or]
      exact ⟨fun z=>(fr0 _ i1).2 z.symm,fun z=>(fr0 _ (i2 i1)).2 z.symm,fun z=>(fr0 _ (i2 (i2 i1))).2 z.symm,nwd.symm,nod.symm,nrd.symm,nud.symm,fun z=>(fr0 d (i2 (i2 (i2 z)))).2 rfl⟩
    · simp only [ax,not_or]
      exact ⟨n1.1,n1.2.1,wdn _ i1,odn _ i1,rdn _ i1,udn _ i1,n1.2.2⟩
    · simp only [ax,not_or]
      exact ⟨n2.1,wdn _ (i2 i1),odn _ (i2 i1),rdn _ (i2 i1),udn _ (i2 i1),n2.2⟩
    · simp only [ax,not_or]
      exact ⟨wdn _ (i2 (i2 i1)),odn _ (i2 (i2 i1)),rdn _ (i2 (i2 i1)),udn _ (i2 (i2 i1)),n3⟩
    · simp only [ax,not_or]
      exact ⟨now_.symm,nrw.symm,nuw.symm,fun z=>wdn wd (i2 (i2 (i2 z))) rfl⟩
    · simp only [ax,not_or]
      exact ⟨nro.symm,nuo.symm,fun z=>odn od (i2 (i2 (i2 z))) rfl⟩
    · simp only [ax,not_or]
      exact ⟨nur.symm,fun z=>rdn rd (i2 (i2 (i2 z))) rfl⟩
    · exact fun z=>udn ud (i2 (i2 (i2 z))) rfl
  · intro a ha
    unfold Lay.all at ha
    simp only [ax] at ha
    rcases ha with rfl | rfl | rfl | rfl | rfl | rfl | rfl | rfl | ha
    · exact nd0
    · exact (fr0 _ i1).1
    · exact (fr0 _ (i2 i1)).1
    · exact (fr0 _ (i2 (i2 i1))).1
    · exact frH hwd
    · exact frH hod
    · exact frH hrd
    · exact frH hud
    · exact (fr0 a (i2 (i2 (i2 ha)))).1
def IT (bs qs:List Str):Sp:=fun vs H Q _=>∃ (H0:Hp) (t hl:ae) (x0 x1 x2 x3:V) (hv:List V) (hs:List (Str×Ds)) (sg:Str),vs=[.ref t,.str sg]/\bT H0 H/\H0 t=some (.tup [x0,x1,x2,x3,.ref hl])/\H0 hl=some (.lst hv)/\aX (AU bs qs H0) hv hs /\
  (∀ u,lF H0 (fg bs qs H0 (jx hs sg)) u->Q u H)/\∀ l,H l=none->jx hs sg=.nil->Q (.ref l) (upd H l (.lst []))
theorem scBy:bY ["machine","sign","heard"] ["machine","sign"] (aF gj):=⟨rfl,rfl,rfl,by decide +kernel,rfl,by decide +kernel,by decide +kernel⟩
theorem jY {α β:Type} {R:α->β->Prop}:∀ {xs:List α} {ys:List β} {i:Nat} {x:α},aX R xs ys->xs[i]?=some x->∃ y,ys[i]?=some y/\R x y
  | _,_,i,x,.nil,h=>by simp at h
  | _,_,0,x,.cons a b,h=>by
    simp at h
    subst h
    exact ⟨_,rfl,a⟩
  | _,_,i + 1,x,.cons a b,h=>by
    obtain ⟨y,h1,h2⟩:=jY (i:=i) (x:=x) b (by simpa using h)
    exact ⟨y,by simpa using h1,h2⟩
theorem ok_by (D:Df K mg "deeds_by_sign" gj ["machine","sign"] f fd):bX P w K mg base CX0 1 f fd ["machine","sign"] (IT bs qs):=by
  refine D.F.ok scBy (fun vs H Q E h=>?_) (fun cdv A outer s H vs Q E hr h=>?_)
  · obtain ⟨H0,t,hl,x0,x1,x2,x3,hv,hs,sg,rfl,_⟩:=h
    rfl
  obtain ⟨H0,t,hl,x0,x1,x2,x3,hv,hs,sg,rfl,sm,ht,hh,pr,k1,k2⟩:=h
  have ht:=sm _ _ ht
  have hh:=sm _ _ hh
  refine ⟨_,ak (iz cI rfl (ip (bN cz (pv 0) aq (fun _ _=>rfl))) (eD (i:=2) scBy.nd rfl (Or.inl rfl)) (aG (cZ (bL eO (bN cz (pv 2) aq (fun _ _=>rfl)) (pv 1) (cg _)) (aG (bR (bN cz (pv 2) aq (fun _ _=>rfl)))) cq)))
    (aG (bR (fy aw))),?_⟩
  refine ⟨_,rfl,t,_,_,_,rfl,rfl,SqT.of ht,rfl,hl,rfl,⟨_,SqL.of hh⟩,iY (K:=K) (a:=hl) (xs:=hv) (fun i σ G=>G=H/\(∃ u,σ=[some (.ref t),some (.str sg),u])/\jx hs sg=jx (hs.drop i) sg) ⟨rfl,⟨_,rfl⟩,by rw [uM]⟩ ?_ ?_ ?_⟩
  · rintro i σ G _ ⟨rfl,_⟩
    exact SqL.of hh
  · rintro i x σ G hi ⟨rfl,⟨u,rfl⟩,e⟩
    obtain ⟨p,hp,t',u',rfl,ht',hl'⟩:=jY pr hi
    have ht':=sm _ _ ht'
    have lt:i < hs.length:=(aB.mp hp).1
    have hx:hs[i]=p:=(aB.mp hp).2
    rw [vU lt,hx] at e
    obtain ⟨pn,pd⟩:=p
    refine ⟨_,rfl,t',_,_,_,rfl,rfl,SqT.of ht',rfl,_,rfl,rfl,_,rfl,?_⟩
    by_cases c:pn=sg
    · subst c
      refine kL (AN _) (iJ ?_)
      refine ⟨_,rfl,t',_,_,_,rfl,rfl,SqT.of ht',rfl,k1 u' ?_⟩
      rw [e]
      unfold jx
      rw [bM]
      exact hl'
    · refine kL (rT c) (hW ?_)
      refine ⟨rfl,⟨_,rfl⟩,?_⟩
      rw [e]
      unfold jx
      rw [cD,beq_eq_false_iff_ne.mpr (fun z=>c z.symm)]
  · rintro σ G ⟨rfl,⟨u,rfl⟩,e⟩
    have ln:=bJ pr
    rw [ln,Em] at e
    exact ⟨bK _,fun l hl'=>k2 l hl' e⟩
end
end My
namespace My
open PySem L2
structure tM (bs qs:List Str) (ds:List Int) (hs:List (Str×Ds)) (H:Hp) (m:V):Prop where
  ex:∃ (t bl ql dl hl:ae) (nm:V) (vb hv:List V),m=.ref t/\H t=some (.tup [nm,.ref bl,.ref ql,.ref dl,.ref hl])/\H bl=some (.lst vb)/\aX (fun v (x:Str)=>∃ a n,v=.ref a/\H a=some (.tup [.str x,n])) vb bs/\H ql=some (.lst (qs.map V.str))/\H dl=some (.lst (ds.map V.int))/\H hl=some (.lst hv)/\aX (AU bs qs H) hv hs
theorem tM.same {bs qs:List Str} {ds:List Int} {hs:List (Str×Ds)} {H H':Hp} (s:bT H H') {m:V} (h:tM bs qs ds hs H m):tM bs qs ds hs H' m:=by
  obtain ⟨t,bl,ql,dl,hl,nm,vb,hv,e,h1,h2,h3,h4,h5,h6,h7⟩:=h
  exact ⟨t,bl,ql,dl,hl,nm,vb,hv,e,s _ _ h1,s _ _ h2,Paired.mono (fun v x z=>by
    obtain ⟨a,n,e,y⟩:=z
    exact ⟨a,n,e,s _ _ y⟩) h3,s _ _ h4,s _ _ h5,s _ _ h6,Paired.mono (fun _ _ z=>z.same s) h7⟩
def wrB (bs:List Str) (w:Wk):List (Str×Int):=(bs.filter fun x=>decide (x∈w.wr)).map fun x=>(x,tK w.bx x)
def wrQ (qs:List Str) (w:Wk):List (Str×List Int):=(qs.filter fun x=>decide (x∈w.wr)).map fun x=>(x,jE w.qu x)
def vV (G:Hp) (v:V) (p:Str×Int):Prop:=∃ t,v=.ref t/\G t=some (.tup [.str p.1,.int p.2])
def xr (G:Hp) (v:V) (p:Str×ae):Prop:=∃ t,v=.ref t/\G t=some (.tup [.str p.1,.ref p.2])
theorem vV.keep {G G':Hp} (k:∀ a xs,G a=some (.tup xs)->G' a=some (.tup xs)) {v:V} {p:Str×Int} (h:vV G v p):vV G' v p:=by
  obtain ⟨t,e,h1⟩:=h
  exact ⟨t,e,k _ _ h1⟩
theorem xr.keep {G G':Hp} (k:∀ a xs,G a=some (.tup xs)->G' a=some (.tup xs)) {v:V} {p:Str×ae} (h:xr G v p):xr G' v p:=by
  obtain ⟨t,e,h1⟩:=h
  exact ⟨t,e,k _ _ h1⟩
structure WrIn (bs qs:List Str) (w:Wk) (H G:Hp) (wl:ae) (ws1 ws2:List V) (qa:List (Str×ae)):Prop where
  hl:G wl=some (.lst (ws1++ws2))
  b:aX (vV G) ws1 (wrB bs w)
  q:aX (xr G) ws2 qa
  l:gu G qa (wrQ qs w)
  nd:(wl :: qa.map (·.2)).Nodup
  fr:∀ a∈wl :: qa.map (·.2),H a=none
theorem rJ {p:Str->Bool} {xs:List Str} {i:Nat} {x:Str} (h:xs[i]?=some x):(xs.take (i + 1)).filter p=(xs.take i).filter p++if p x=true then [x] else []:=by
  rw [gR,h,List.filter_append]
  show _++[x].filter p=_
  by_cases c:p x=true
  · rw [if_pos c,List.filter_cons_of_pos c]
    rfl
  · rw [if_neg c,List.filter_cons_of_neg c]
    rfl
theorem tN {H G:Hp} {a:ae} (s:bT H G) (n:H a=none) (o:HO):bT H (upd G a o):=fun b u e=>by
  rw [aV (aH e n)]
  exact s _ _ e
theorem none_of {H G:Hp} (s:bT H G) {a:ae} (n:G a=none):H a=none:=by
  cases z:H a with
  | none=>rfl
  | some o =>
    rw [s _ _ z] at n
    cases n
section
variable {P:aW} {w:bO} {K:ag} {mg:Str->Option aa} {base:cE} {f CD CS CM:ae} {fd:cu} {bs qs:List Str}
def spWr (CD CS:ae) (bs qs:List Str):Sp:=fun vs H Q _=>∃ (H0:Hp) (L:Lay) (h:Ev) (ds:List Int) (w:Wk) (hs:List (Str×Ds)),vs=[.ref L.d]/\Dg CD CS bs qs H0 H L h ds w/\tM bs qs ds hs H0 L.m /\
  ∀ (G:Hp) (wl:ae) (ws1 ws2:List V) (qa:List (Str×ae)),bT H G->WrIn bs qs w H G wl ws1 ws2 qa->Q (.ref wl) G
theorem FC:bY ["doing","writes","box","name"] ["doing"] (aF jm):=⟨rfl,rfl,rfl,by decide +kernel,rfl,by decide +kernel,by decide +kernel⟩
theorem AV (D:Df K mg "writes_of" jm ["doing"] f fd) (T:DT K mg CD) (TM:MdT K mg CM CS) (B:Bl mg):bX P w K mg base CX0 1 f fd ["doing"] (spWr CD CS bs qs):=by
  refine D.F.ok FC (fun vs H Q E h=>?_) (fun cdv A outer s H vs Q E hr h=>?_)
  · obtain ⟨H0,L,h,ds,w,hs,rfl,_⟩:=h
    rfl
  obtain ⟨H0,L,h,ds,w,hs,rfl,g,⟨t,bl,ql,dl,hl,nm,vb,hv,em,ht,hbl,pb,hql,hdl,hhl,_⟩,k⟩:=h
  have hu:=m6 hr
  refine ⟨_,ak (bF (i:=1) FC.nd rfl (Or.inl rfl) (fy aw))
    (ak (iz cI rfl (ip (bN cz (cF (pv 0) rfl) aq (fun _ _=>rfl))) (eD (i:=2) FC.nd rfl (Or.inl rfl)) (aG (cZ (sQ (B0 hu (bN cz (pv 2) aq (fun _ _=>rfl)) (cF (pv 0) rfl)))
      (aG (eT (lY cv cJ cK gX (pv 1) (au (eE (au (bN cz (pv 2) aq (fun _ _=>rfl)) (au (p6 hu (cF (cF (pv 0) rfl) rfl) (bN cz (pv 2) aq (fun _ _=>rfl)) (fun _ _=>rfl)) aw))) aw)))) cq)))
    (ak (iz cI rfl (ip (bN cz (cF (pv 0) rfl) aq (fun _ _=>rfl))) (eD (i:=3) FC.nd rfl (Or.inl rfl)) (aG (cZ (sQ (B0 hu (pv 3) (cF (pv 0) rfl)))
      (aG (eT (lY cv cJ cK gX (pv 1) (au (eE (au (pv 3) (au (jL p0 (by rfl) B.list boot_list (au (p6 hu (cF (cF (pv 0) rfl) rfl) (pv 3) (fun _ _=>rfl)) aw)) aw))) aw)))) cq)))
    (aG (bR (pv 1))))),?_⟩
  have big:=fK
  have fw:=g.ok.fw
  rw [aI] at fw
  refine ⟨bK _,fun wl hwl=>?_⟩
  have s0:=aR hwl (.lst [])
  have inW:∀ {G:Hp} (g:Dg CD CS bs qs H0 G L h ds w) (x:Str),p5 G L.wd (.str x) (if x∈w.wr then some (.bl true) else none):=fun {G} g x=>by
    have z:=p5.k (k:=Sum.inr x) g.hw
    rw [zE] at z
    exact z
  refine ⟨_,rfl,L.d,CD,L.dx,_,_,rfl,s0 _ _ g.hd,T.cl,T.nM,IH _ _ _ _ _ _ _ _,t,_,_,_,em,rfl,SqT.of (s0 _ _ (g.sm _ _ ht)),rfl,bl,rfl,⟨_,SqL.of (s0 _ _ (g.sm _ _ hbl))⟩,?_⟩
  refine iY (K:=K) (a:=bl) (xs:=vb) (fun i σ G=>∃ (u:Option V) (ws:List V),σ=[some (.ref L.d),some (.ref wl),u,none]/\bT H G/\G wl=some (.lst ws)/\aX (vV G) ws (((bs.take i).filter fun x=>decide (x∈w.wr)).map fun x=>(x,tK w.bx x))) ⟨none,[],rfl,s0,ao,by rw [lI]; exact .nil⟩ ?_ ?_ ?_
  · rintro i σ G _ ⟨_,_,rfl,sm,_⟩
    exact SqL.of (sm _ _ (g.sm _ _ hbl))
  · rintro i x σ G hi ⟨u,ws,rfl,sm,gw,pw⟩
    have g1:=g.same sm
    obtain ⟨y,hy,a,n,rfl,ha⟩:=jY pb hi
    have ha:=g1.sm _ _ ha
    have my:y∈bs:=bQ hy
    have ft:=rJ (p:=fun x=>decide (x∈w.wr)) hy
    refine ⟨_,rfl,a,_,_,_,rfl,rfl,SqT.of ha,rfl,_,rfl,L.d,CD,L.dx,_,_,rfl,g1.hd,T.cl,T.nW,C0 _ _ _ _ _ _ _ _,L.wd,_,rfl,inW g1 y,_,rfl,?_⟩
    by_cases c:y∈w.wr
    · rw [if_pos c]
      rw [if_pos (decide_eq_true c)] at ft
      refine iJ ?_
      refine ⟨_,rfl,.inl ⟨rfl,_,SqL.of gw⟩,_,rfl,a,_,_,_,rfl,rfl,SqT.of ha,rfl,_,rfl,L.d,CD,L.dx,_,_,rfl,g1.hd,T.cl,T.nS,uo _ _ _ _ _ _ _ _,L.st,CS,L.dxs,_,_,rfl,g1.hst,TM.clS,TM.nB,Fn _ _ _ _,_,rfl,a,_,_,_,rfl,rfl,SqT.of ha,rfl,L.bd,_,rfl,(by have z:=p5.k (k:=Sum.inr y) g1.hb; rw [C3 (by rw [g1.ok.kb]; exact my)] at z; exact z),lt2,fun tt htt=>?_⟩
      have st_:=aR htt (.tup [.str y,.int (tK w.bx y)])
      have lw:=bJ pw
      have lf:(((bs.take i).filter fun x=>decide (x∈w.wr)).map fun x=>(x,tK w.bx x)).length<=bs.length:=by
        rw [ah]
        refine cT (oU _ _) ?_
        rw [cW]
        omega
      refine ⟨wl,ws,_,rfl,rfl,st_ _ _ gw,(by omega),_,_,rfl,tN (sm.trans st_) hwl _,ao,?_⟩
      rw [ft,cy]
      have kp:∀ b xs,upd G tt (.tup [.str y,.int (tK w.bx y)]) b=some (.tup xs)->upd (upd G tt (.tup [.str y,.int (tK w.bx y)])) wl (.lst (ws++[.ref tt])) b=some (.tup xs):=fun b xs z=>bA z (lU z (st_ _ _ gw) (by intro q; cases q))
      exact eU (Paired.mono (fun _ _ z=>(z.keep fun b xs e=>st_ _ _ e).keep kp) pw) ⟨tt,rfl,kp _ _ ao⟩
    · rw [if_neg c]
      rw [if_neg (by rw [decide_eq_false c]; decide),dC] at ft
      refine hW ⟨_,ws,rfl,sm,gw,?_⟩
      rw [ft]
      exact pw
  rintro σ G ⟨u,ws1,rfl,sm,gw,pw⟩
  have g1:=g.same sm
  have ev1:vb.length=bs.length:=bJ pb
  rw [ev1,eI] at pw
  refine ⟨_,rfl,L.d,CD,L.dx,_,_,rfl,g1.hd,T.cl,T.nM,IH _ _ _ _ _ _ _ _,t,_,_,_,em,rfl,SqT.of (g1.sm _ _ ht),rfl,ql,rfl,⟨_,SqL.of (g1.sm _ _ hql)⟩,?_⟩
  refine iY (K:=K) (a:=ql) (xs:=qs.map V.str) (fun i σ G=>∃ (u v:Option V) (ws2:List V) (qa:List (Str×ae)),σ=[some (.ref L.d),some (.ref wl),u,v]/\bT H G/\G wl=some (.lst (ws1++ws2))/\aX (vV G) ws1 (wrB bs w)/\aX (xr G) ws2 qa /\
    gu G qa (((qs.take i).filter fun x=>decide (x∈w.wr)).map fun x=>(x,jE w.qu x))/\(wl :: qa.map (·.2)).Nodup/\∀ a∈wl :: qa.map (·.2),H a=none) ⟨_,_,[],[],rfl,sm,by rw [dC]; exact gw,pw,.nil,by rw [lI]; exact .nil,by simp,fun a ha=>by rw [aM.mp ha]; exact hwl⟩ ?_ ?_ ?_
  · rintro i σ G _ ⟨_,_,_,_,rfl,sm,_⟩
    exact SqL.of (sm _ _ (g.sm _ _ hql))
  · rintro i x σ G hi ⟨u,v,ws2,qa,rfl,sm,gw,pw,pq,pl,nd,fr⟩
    have g1:=g.same sm
    obtain ⟨y,hy,rfl⟩:∃ y,qs[i]?=some y/\x=.str y:=by
      rw [cC] at hi
      cases z:qs[i]? with
      | none =>
        rw [z] at hi
        cases hi
      | some y =>
        rw [z] at hi
        cases hi
        exact ⟨y,rfl,rfl⟩
    have my:y∈qs:=bQ hy
    have ft:=rJ (p:=fun x=>decide (x∈w.wr)) hy
    refine ⟨_,rfl,_,rfl,L.d,CD,L.dx,_,_,rfl,g1.hd,T.cl,T.nW,C0 _ _ _ _ _ _ _ _,L.wd,_,rfl,inW g1 y,_,rfl,?_⟩
    by_cases c:y∈w.wr
    · rw [if_pos c]
      rw [if_pos (decide_eq_true c)] at ft
      refine iJ ?_
      obtain ⟨l,h1,h2,h3⟩:=g1.getL my
      refine ⟨_,rfl,.inl ⟨rfl,_,SqL.of gw⟩,_,rfl,_,rfl,L.d,CD,L.dx,_,_,rfl,g1.hd,T.cl,T.nS,uo _ _ _ _ _ _ _ _,L.st,CS,L.dxs,_,_,rfl,g1.hst,TM.clS,TM.nQ,Fo _ _ _ _,_,rfl,L.qd,_,rfl,h3,l,_,rfl,.inl (SqL.of h2),fun nl hnl=>?_⟩
      have sn:=aR hnl (.lst ((jE w.qu y).map V.int))
      refine ⟨lt2,fun tt htt=>?_⟩
      have st_:=aR htt (.tup [.str y,.ref nl])
      have lw:=bJ pq
      have lb:=bJ pw
      have lq:=bJ pl
      have lf:(((qs.take i).filter fun x=>decide (x∈w.wr)).map fun x=>(x,jE w.qu x)).length<=qs.length:=by
        rw [ah]
        refine cT (oU _ _) ?_
        rw [cW]
        omega
      have lf2:(wrB bs w).length<=bs.length:=by
        unfold wrB
        rw [ah]
        exact oU _ _
      have gw':=st_ _ _ (sn _ _ gw)
      have nlw:nl≠wl:=(aH gw hnl).symm
      have kp:∀ b xs,upd (upd G nl (.lst ((jE w.qu y).map V.int))) tt (.tup [.str y,.ref nl]) b=some (.tup xs)->upd (upd (upd G nl (.lst ((jE w.qu y).map V.int))) tt (.tup [.str y,.ref nl])) wl (.lst (ws1++ws2++[.ref tt])) b=some (.tup xs):=fun b xs z=>bA z (lU z gw' (by intro q; cases q))
      refine ⟨wl,_,_,rfl,rfl,gw',(by rw [aI]; omega),_,_,ws2++[.ref tt],qa++[(y,nl)],rfl,tN ((sm.trans sn).trans st_) hwl _,(by rw [<- jJ]; exact ao),?_,?_,?_,?_,?_⟩
      · exact Paired.mono (fun _ _ z=>(z.keep fun b xs e=>st_ _ _ (sn _ _ e)).keep kp) pw
      · exact eU (Paired.mono (fun _ _ z=>(z.keep fun b xs e=>st_ _ _ (sn _ _ e)).keep kp) pq) ⟨tt,rfl,kp _ _ ao⟩
      · rw [ft,cy]
        refine eU (gu.keep (L:=⟨0,0,0,0,0,0,0,0,0,0,.non,.non,qa⟩) (fun a u e m=>bA (st_ _ _ (sn _ _ e)) fun z=>?_) (fun _ h=>h) pl) ⟨rfl,bA (st_ _ _ ao) nlw⟩
        rw [z] at m
        exact (cM.mp nd).1 m
      · rw [cy,<- En]
        refine iG.mpr ⟨nd,by simp,fun a ha b hb=>?_⟩
        rw [aM.mp hb]
        intro z
        rcases ax.mp ha with q | q
        · exact nlw ((show a=nl from z).symm.trans q)
        · obtain ⟨xs,q⟩:=pl.there q
          rw [show a=nl from z,hnl] at q
          cases q
      · intro a ha
        rw [cy,<- En] at ha
        rcases b8.mp ha with z | z
        · exact fr a z
        · rw [aM.mp z]
          exact none_of sm hnl
    · rw [if_neg c]
      rw [if_neg (by rw [decide_eq_false c]; decide),dC] at ft
      refine hW ⟨_,_,ws2,qa,rfl,sm,gw,pw,pq,?_,nd,fr⟩
      rw [ft]
      exact pl
  rintro σ G ⟨u,v,ws2,qa,rfl,sm,gw,pw,pq,pl,nd,fr⟩
  rw [ah,eI] at pl
  exact ⟨_,rfl,k G wl ws1 ws2 qa sm ⟨gw,pw,pq,pl,nd,fr⟩⟩
end
end My
namespace My
open PySem L2
structure Di (CD CS:ae) (bs qs:List Str) (H G:Hp) (L:Lay) (h:Ev) (ds:List Int) (w:Wk) (t rc wl:ae) (ws1 ws2:List V) (qa:List (Str×ae)):Prop where
  dg:∃ H0,bT H H0/\Dg CD CS bs qs H0 G L h ds w
  ht:G t=some (.tup [.ref L.st,.ref rc,.bl w.en])
  hrc:∃ k,G rc=some (.tup [.ref k,.int h.to,.str h.sg,.int h.a,.int h.b,.ref wl,.ref L.od])/\H k=some (.tup [.int h.t,.int h.r,.int h.fr,.int h.c])
  wr:WrIn bs qs w H G wl ws1 ws2 qa
  nd:(L.all++wl :: qa.map (·.2)).Nodup
theorem Di.sm {CD CS:ae} {bs qs:List Str} {H G:Hp} {L:Lay} {h:Ev} {ds:List Int} {w:Wk} {t rc wl:ae} {ws1 ws2:List V} {qa:List (Str×ae)} (n:Di CD CS bs qs H G L h ds w t rc wl ws1 ws2 qa):bT H G:=by
  obtain ⟨H0,s,g⟩:=n.dg
  exact s.trans g.sm
def w0 (bx:List (Str×Int)) (qu:List (Str×List Int)) (dr:Nat) (se:Int):Wk:=⟨bx,qu,dr,se,[],[],false,[],[]⟩
section
variable {P:aW} {w:bO} {K:ag} {mg:Str->Option aa} {base:cE} {f fI fS fB fW fO CD CS CM:ae} {fd fdI fdS fdB fdW fdO:cu} {bs qs:List Str} {cf:Flt->ae}
def Dj (cf:Flt->ae) (CM CD CS:ae) (bs qs:List Str) (n:Nat):Sp:=fun vs H Q E=>∃ (m dxm ml st:ae) (fs:List (Str×V)) (ms:List V) (hv mv:V) (h:Ev) (ds:List Int) (hs:List (Str×Ds)) (bx:List (Str×Int)) (qu:List (Str×List Int)) (dr:Nat) (se:Int),vs=[.ref m,.ref st,hv]/\H m=some (.ins CM dxm fs)/\fs.lookup ("machines":Str)=some (.ref ml)/\H ml=some (.lst ms) /\
  hZ H hv h/\atI ms h.to=some mv/\tM bs qs ds hs H mv/\lu CS H st bx qu dr se/\o9 bs qs (w0 bx qu dr se)/\Wo h.t/\Wo h.a/\Wo h.b/\(jx hs h.sg).deep < n/\(jx hs h.sg).size < 100000 /\
  match doS h ds (jx hs h.sg) (w0 bx qu dr se) with
  | .ok w'=>∀ (G:Hp) (L:Lay) (t rc wl:ae) (ws1 ws2:List V) (qa:List (Str×ae)),Di CD CS bs qs H G L h ds w' t rc wl ws1 ws2 qa->Q (.ref t) G
  | .error e=>∀ G,bT H G->E (.ref (cf e)) none G
theorem by_go {CD CS:ae} {bs qs:List Str} {H G:Hp} {L:Lay} {h:Ev} {ds:List Int} {w:Wk} {tm hl:ae} {x0 x1 x2 x3:V} {hvs:List V} {hs:List (Str×Ds)} {sg:Str} {Q1:VK} {E:XK} (g:Dg CD CS bs qs H G L h ds w) (htm:H tm=some (.tup [x0,x1,x2,x3,.ref hl])) (hhl:H hl=some (.lst hvs)) (ph:aX (AU bs qs H) hvs hs)
    (k:∀ (H0 G1:Hp) (u:V),bT H H0->bT G G1->Dg CD CS bs qs H0 G1 L h ds w->lF H0 (fg bs qs H0 (jx hs sg)) u->Q1 u G1):IT bs qs [.ref tm,.str sg] G Q1 E:=by
  refine ⟨H,tm,hl,_,_,_,_,hvs,hs,sg,rfl,g.sm,htm,hhl,ph,fun u hu=>k H G u (bT.refl _) (bT.refl _) g hu,fun l hl' e=>?_⟩
  have sl:=aR hl' (.lst [])
  have nl:=none_of g.sm hl'
  have s0:=aR nl (.lst [])
  have s1:bT (upd H l (.lst [])) (upd G l (.lst [])):=fun b o z=>by
    by_cases c:b=l
    · rw [c] at z |-
      rw [ao] at z |-
      exact z
    · rw [aV c] at z |-
      exact g.sm _ _ z
  refine k _ _ _ s0 sl (g.base sl s0 s1 fun a ha=>?_) ⟨l,[],rfl,ao,by show 0 < 1000; decide,?_⟩
  · obtain ⟨o,z⟩:=g.there a ha
    rw [aV (aH z hl')]
    exact g.fr a ha
  · rw [e]
    simp only [fg]
def Hh (cf:Flt->ae) (CM CD CS:ae) (bs qs:List Str) (n:Nat):Sp:=fun vs H Q E=>∃ (m dxm ml st:ae) (fs:List (Str×V)) (ms:List V) (hv mv:V) (h:Ev) (ds:List Int) (hs:List (Str×Ds)) (bx:List (Str×Int)) (qu:List (Str×List Int)) (dr:Nat) (se:Int),vs=[.ref m,.ref st,hv]/\H m=some (.ins CM dxm fs)/\fs.lookup ("machines":Str)=some (.ref ml)/\H ml=some (.lst ms) /\
  hZ H hv h/\atI ms h.to=some mv/\tM bs qs ds hs H mv/\lu CS H st bx qu dr se/\o9 bs qs (w0 bx qu dr se)/\Wo h.t/\Wo h.a/\Wo h.b/\(jx hs h.sg).deep < n/\(jx hs h.sg).size < 100000 /\
  match doS h ds (jx hs h.sg) (w0 bx qu dr se) with
  | .ok w'=>∀ (H0 G:Hp) (L:Lay),bT H H0->Dg CD CS bs qs H0 G L h ds w'->L.m=mv->Q (.ref L.d) G
  | .error e=>∀ G,bT H G->E (.ref (cf e)) none G
theorem IU:bY ["model","state","happening","machine","doing"] ["model","state","happening"] (aF jQ):=⟨rfl,rfl,rfl,by decide +kernel,rfl,by decide +kernel,by decide +kernel⟩
theorem IV {n:Nat} (D:Df K mg "doing_of" jQ ["model","state","happening"] f fd) (MD:Mk K CD fI) (bI:Binds K fdI ["self","machine","state","happening"] []) (GI:bX P w K mg base CX0 4 fI fdI ["self","machine","state","happening"] (IS CD CS bs qs))
    (DS:Df K mg "do_deeds" gO ["doing","deeds"] fS fdS) (GS:bX P w K mg base (CXo P w) (20 + 3 * n) fS fdS ["doing","deeds"] (tL cf CD CS bs qs n)) (DB:Df K mg "deeds_by_sign" gj ["machine","sign"] fB fdB) (T:DT K mg CD) (TM:MdT K mg CM CS) :
    bX P w K mg base (CXo P w) (20 + 3 * n + 1) f fd ["model","state","happening"] (Hh cf CM CD CS bs qs n):=by
  have GB:bX P w K mg base CX0 1 fB fdB ["machine","sign"] (IT bs qs):=ok_by DB
  refine D.F.okX IU (fun vs H Q E h=>?_) (fun cdv A outer s H vs Q E hr h=>?_)
  · obtain ⟨m,dxm,ml,st,fs,ms,hv,mv,h,ds,hs,bx,qu,dr,se,rfl,_⟩:=h
    rfl
  obtain ⟨m,dxm,ml,st,fs,ms,hv,mv,h,ds,hs,bx,qu,dr,se,rfl,hm,hfs,hml,hE,hmv,hM,hS,ok,wt,wa,wb,dn,sz,p⟩:=h
  have r1:eA 1 _:=hr.mono (by omega)
  have r5:eA 5 _:=hr.mono (by omega)
  refine ⟨_,ak (bF (i:=3) IU.nd rfl (Or.inl rfl) (bN cU (cF (pv 0) rfl) (bN cz (pv 2) aq (fun _ _=>rfl)) (fun _ _=>rfl)))
    (ak (bF (i:=4) IU.nd rfl (Or.inl rfl) (oK MD GI r5 (by rfl) T.mD bI .nil bS (au (pv 3) (au (pv 1) (au (pv 2) aw)))))
    (ak (eT (aS GS hr (by rfl) DS.m DS.F.kp DS.b .nil (dZ.passes fun _ _ _ z=>z) (au (pv 4) (au (aS GB r1 (by rfl) DB.m DB.F.kp DB.b .nil bS (au (pv 3) (au (bN cz (pv 2) aq (fun _ _=>rfl)) aw))) aw))))
    (aG (bR (pv 4))))),?_⟩
  obtain ⟨th,kh,rfl,hth,hkh⟩:=id hE
  obtain ⟨tm,bl,ql,dl,hl,nm,vb,hvs,rfl,htm,hbl,pb,hql,hdl,hhl,ph⟩:=hM.ex
  refine ⟨_,rfl,m,CM,dxm,_,_,rfl,hm,TM.clM,TM.nM,hfs,_,rfl,th,_,_,_,rfl,rfl,SqT.of hth,rfl,ml,_,_,_,rfl,rfl,SqL.of hml,hmv,?_⟩
  refine ⟨_,rfl,_,rfl,_,rfl,?_⟩
  intro d dx nd_ ndx nne
  have sA:bT H (upd (upd H dx (.own d)) d (.ins CD dx [])):=fun b o e=>by
    rw [aV (aH e nd_),aV (aH e ndx)]
    exact e
  refine ⟨H,d,dx,st,.ref tm,.ref th,h,ds,bx,qu,dr,se,rfl,ao,nd_,sA,hS,hE,⟨tm,_,_,_,_,dl,rfl,htm,hdl⟩,ok,wt,wa,wb,fun G L eL em g=>⟨rfl,?_⟩⟩
  have gth:=g.sm _ _ hth
  refine ⟨_,rfl,_,rfl,_,rfl,th,_,_,_,rfl,rfl,SqT.of gth,rfl,?_⟩
  subst eL
  refine by_go (E:=E0) g htm hhl ph fun H0 G1 u s0 s1 g1 hu=>?_
  refine ⟨H0,L,h,ds,w0 bx qu dr se,u,jx hs h.sg,rfl,g1,hu,dn,(by show 0 + _ < _; omega),?_⟩
  have mid:∀ {dg:Wk->Hp->Prop} {r:Except Flt Wk} {Q1:VK} {k:Nat},r=doS h ds (jx hs h.sg) (w0 bx qu dr se)->(∀ w' G2,r=.ok w'->dg w' G2->Q1 .non G2)->qZ cf dg H0 k r Q1 E:=fun {dg r Q1 k} e q=>by
    cases r with
    | ok w'=>exact fun G2 g2 _=>q w' G2 rfl g2
    | error er =>
      rw [<- e] at p
      exact fun G2 s2=>p G2 (s0.trans s2)
  refine mid rfl fun w' G2 ew g2=>?_
  rw [ew] at p
  exact ⟨_,rfl,p H0 G2 L s0 g2 em⟩
theorem IW:bY ["model","state","happening","doing","record"] ["model","state","happening"] (aF qW):=⟨rfl,rfl,rfl,by decide +kernel,rfl,by decide +kernel,by decide +kernel⟩
theorem FD {n:Nat} (D:Df K mg "done" qW ["model","state","happening"] f fd) (DO:Df K mg "doing_of" jQ ["model","state","happening"] fO fdO) (MD:Mk K CD fI) (bI:Binds K fdI ["self","machine","state","happening"] []) (GI:bX P w K mg base CX0 4 fI fdI ["self","machine","state","happening"] (IS CD CS bs qs))
    (DS:Df K mg "do_deeds" gO ["doing","deeds"] fS fdS) (GS:bX P w K mg base (CXo P w) (20 + 3 * n) fS fdS ["doing","deeds"] (tL cf CD CS bs qs n)) (DB:Df K mg "deeds_by_sign" gj ["machine","sign"] fB fdB) (DW:Df K mg "writes_of" jm ["doing"] fW fdW) (T:DT K mg CD) (TM:MdT K mg CM CS) (B:Bl mg) :
    bX P w K mg base (CXo P w) (20 + 3 * n + 2) f fd ["model","state","happening"] (Dj cf CM CD CS bs qs n):=by
  have GO:bX P w K mg base (CXo P w) (20 + 3 * n + 1) fO fdO ["model","state","happening"] (Hh cf CM CD CS bs qs n):=IV DO MD bI GI DS GS DB T TM
  have GW:bX P w K mg base CX0 1 fW fdW ["doing"] (spWr CD CS bs qs):=AV DW T TM B
  refine D.F.okX IW (fun vs H Q E h=>?_) (fun cdv A outer s H vs Q E hr h=>?_)
  · obtain ⟨m,dxm,ml,st,fs,ms,hv,mv,h,ds,hs,bx,qu,dr,se,rfl,_⟩:=h
    rfl
  obtain ⟨m,dxm,ml,st,fs,ms,hv,mv,h,ds,hs,bx,qu,dr,se,rfl,hm,hfs,hml,hE,hmv,hM,hS,ok,wt,wa,wb,dn,sz,p⟩:=h
  have r1:eA 1 _:=hr.mono (by omega)
  refine ⟨_,ak (bF (i:=3) IW.nd rfl (Or.inl rfl) (aS GO hr (by rfl) DO.m DO.F.kp DO.b .nil (dZ.passes fun _ _ _ z=>z) (au (pv 0) (au (pv 1) (au (pv 2) aw)))))
    (ak (bF (i:=4) IW.nd rfl (Or.inl rfl) (cL EH (pv 2) (eE (au (aS GW r1 (by rfl) DW.m DW.F.kp DW.b .nil bS (au (pv 3) aw)) (au (cF (pv 3) rfl) aw)))))
    (aG (bR (eE (au (cF (pv 3) rfl) (au (pv 4) (au (cF (pv 3) rfl) aw))))))),?_⟩
  obtain ⟨th,kh,rfl,hth,hkh⟩:=id hE
  refine ⟨_,rfl,_,rfl,_,rfl,m,dxm,ml,st,fs,ms,_,mv,h,ds,hs,bx,qu,dr,se,rfl,hm,hfs,hml,hE,hmv,hM,hS,ok,wt,wa,wb,dn,sz,?_⟩
  cases ew:doS h ds (jx hs h.sg) (w0 bx qu dr se) with
  | error e =>
    rw [ew] at p
    exact p
  | ok w' =>
  rw [ew] at p
  intro H0 G2 L s0 g2 em
  have hth2:=g2.sm _ _ (s0 _ _ hth)
  have gM:tM bs qs ds hs H0 L.m:=by
    rw [em]
    exact hM.same s0
  refine ⟨_,rfl,_,rfl,H0,L,h,ds,w',hs,rfl,g2,gM,fun G3 wl ws1 ws2 qa s3 wr=>?_⟩
  have g3:=g2.same s3
  refine ⟨_,rfl,L.d,CD,L.dx,_,_,rfl,g3.hd,T.cl,T.nO,dF_o _ _ _ _ _ _ _ _,lt2,fun tt htt=>?_⟩
  have s4:=aR htt (.tup [.ref wl,.ref L.od])
  refine ⟨th,tt,_,_,rfl,rfl,SqT.of (s4 _ _ (s3 _ _ hth2)),SqT.of ao,(by intro z; cases z),(by show 7<=aJ; decide),(fun z=>by cases z),fun _ rc hrc=>?_⟩
  have s5:=aR hrc (.tup [.ref kh,.int h.to,.str h.sg,.int h.a,.int h.b,.ref wl,.ref L.od])
  have g5:=(g3.same s4).same s5
  refine ⟨_,rfl,L.d,CD,L.dx,_,_,rfl,g5.hd,T.cl,T.nS,uo _ _ _ _ _ _ _ _,_,rfl,_,rfl,L.d,CD,L.dx,_,_,rfl,g5.hd,T.cl,T.nE,dF_e _ _ _ _ _ _ _ _,(by show 3<=aJ; decide),fun t ht=>?_⟩
  have s6:=aR ht (.tup [.ref L.st,.ref rc,.bl w'.en])
  have s46:=(s4.trans s5).trans s6
  refine p _ L t rc wl ws1 ws2 qa ⟨⟨H0,s0,g5.same s6⟩,ao,⟨kh,s6 _ _ ao,hkh⟩,⟨s46 _ _ wr.hl,Paired.mono (fun _ _ z=>z.keep fun b xs e=>s46 _ _ e) wr.b,Paired.mono (fun _ _ z=>z.keep fun b xs e=>s46 _ _ e) wr.q,wr.l.same s46,wr.nd,fun a ha=>none_of (s0.trans g2.sm) (wr.fr a ha)⟩,?_⟩
  refine iG.mpr ⟨g2.nd,wr.nd,fun a ha b hb z=>?_⟩
  obtain ⟨o,y⟩:=g2.there a ha
  rw [z,wr.fr b hb] at y
  cases y
end
end My
namespace My
open PySem L2
theorem cA {t u:TS} {D:kU} {σ:St} {H:Hp} (h:t {D with nx:=u D} σ H):tSeq t u D σ H:=h
theorem dG {te:TE} {g:TG} {D:kU} {σ:St} {H:Hp} (h:te σ H fun x H1=>g x σ H1 D.nx):Ew te g D σ H:=h
theorem cj {i:Nat} {v:V} {σ:St} {H:Hp} {Q:St->Hp->Prop} (h:Q (σ.set i (some v)) H):zb i v σ H Q:=h
theorem tup_i {t:TA} {σ:St} {H:Hp} {Q:VK} (h:t σ H fun xs H1=>xs.length<=aJ/\∀ p,H1 p=none->Q (.ref p) (upd H1 p (.tup xs))):tTup t σ H Q:=h
theorem yN {C:ae} {sp:Sp} {dvs:List V} {E:XK} {t:TA} {σ:St} {H:Hp} {Q:VK} (h:t σ H fun vs H1=>∀ x dx,H1 x=none->H1 dx=none->dx≠x ->
    sp (.ref x :: (vs++dvs)) (upd (upd H1 dx (.own x)) x (.ins C dx [])) (fun v H2=>v=.non/\Q (.ref x) H2) E):Gw C sp dvs E t σ H Q:=h
end My
namespace My
open PySem L2
section
variable {X:Cx} {e:dv} {ta:TE} {f:Str} {pos:Pos}
theorem vW (K:ag) (hK:X.K=K) (he:PE X e ta) (hb:kR e f X.env (fV e X.env)=fV e X.env):PE X (.Attribute e f pos) (HM K ta f):=by
  rw [<- hK]
  exact cF he hb
end
end My
namespace My
open PySem L2
theorem zJ {H:Hp} {n:Nat} {t:ae} {xs:List V} (ht:H t=some (.tup xs)\/H t=some (.lst xs)) (T:Tree H n (.ref t)):∃ m,n=m + 1/\∀ x∈xs,Tree H m x:=by
  cases n with
  | zero=>exact T.elim
  | succ m =>
    refine ⟨m,rfl,?_⟩
    rcases T with T | ⟨p,ys,e,h1,_,h2⟩
    · exact T.elim
    · cases e
      have exy:xs=ys:=by
        rcases ht with ht | ht <;> rcases h1 with h1 | h1 <;> rw [ht] at h1 <;> cases h1 <;> rfl
      rw [exy]
      exact h2
theorem iT {H H':Hp} {n:Nat} {t:ae} {xs:List V} {v':V} (ht:H t=some (.tup xs)) (T:Tree H n (.ref t)) (al:Alike H H' n (.ref t) v'):∃ m t' ys,v'=.ref t'/\H' t'=some (.tup ys)/\aX (Alike H H' m) xs ys/\∀ x∈xs,Tree H m x:=by
  obtain ⟨m,rfl,h⟩:=zJ (.inl ht) T
  obtain ⟨t',ys,e,h1,h2⟩:=qX ht al
  exact ⟨m,t',ys,e,h1,h2,h⟩
theorem tO {H H':Hp} {n:Nat} {t:ae} {xs:List V} {v':V} (ht:H t=some (.lst xs)) (T:Tree H n (.ref t)) (al:Alike H H' n (.ref t) v'):∃ m t' ys,v'=.ref t'/\H' t'=some (.lst ys)/\aX (Alike H H' m) xs ys/\∀ x∈xs,Tree H m x:=by
  obtain ⟨m,rfl,h⟩:=zJ (.inr ht) T
  obtain ⟨t',ys,e,h1,h2⟩:=oR ht al
  exact ⟨m,t',ys,e,h1,h2,h⟩
theorem dE {R:V->V->Prop} {x:V} {xs ys:List V} (r:aX R (x :: xs) ys):∃ y yr,ys=y :: yr/\R x y/\aX R xs yr:=by
  cases r with
  | cons a b=>exact ⟨_,_,rfl,a,b⟩
theorem mf {R:V->V->Prop} {ys:List V} (r:aX R [] ys):ys=[]:=by
  cases r
  rfl
theorem iR.alike {bs qs:List Str} {H H':Hp} {v:V} {F:Fm} (h:iR bs qs H v F):∀ {n:Nat} {v':V},Tree H n v->Alike H H' n v v'->iR bs qs H' v' F:=by
  induction h with
  | num h1 h2 =>
    intro n v' T al
    obtain ⟨m,t',ys,rfl,g1,g2,_⟩:=iT h1 T al
    rw [iQ g2 (by intro x hx; simp only [ax,bz,or_false] at hx; rcases hx with rfl | rfl <;> exact trivial)] at g1
    exact .num g1 h2
  | box h1 h2 =>
    intro n v' T al
    obtain ⟨m,t',ys,rfl,g1,g2,_⟩:=iT h1 T al
    rw [iQ g2 (by intro x hx; simp only [ax,bz,or_false] at hx; rcases hx with rfl | rfl <;> exact trivial)] at g1
    exact .box g1 h2
  | long h1 h2 =>
    intro n v' T al
    obtain ⟨m,t',ys,rfl,g1,g2,_⟩:=iT h1 T al
    rw [iQ g2 (by intro x hx; simp only [ax,bz,or_false] at hx; rcases hx with rfl | rfl <;> exact trivial)] at g1
    exact .long g1 h2
  | got h1 =>
    intro n v' T al
    obtain ⟨m,t',ys,rfl,g1,g2,_⟩:=iT h1 T al
    rw [iQ g2 (by intro x hx; simp only [ax,bz,or_false] at hx; rcases hx with rfl | rfl <;> exact trivial)] at g1
    exact .got g1
  | now h1 =>
    intro n v' T al
    obtain ⟨m,t',ys,rfl,g1,g2,_⟩:=iT h1 T al
    rw [iQ g2 (by intro x hx; rw [aM.mp hx]; exact trivial)] at g1
    exact .now g1
  | two h1 h2 _ _ i1 i2 =>
    intro n v' T al
    obtain ⟨m,t',ys,rfl,g1,g2,tr⟩:=iT h1 T al
    obtain ⟨y0,yr,rfl,a0,g2⟩:=dE g2
    obtain ⟨y1,yr,rfl,a1,g2⟩:=dE g2
    obtain ⟨y2,yr,rfl,a2,g2⟩:=dE g2
    obtain rfl:=mf g2
    have e0:=fc (v:=.str _) trivial a0
    rw [e0] at g1
    exact .two g1 h2 (i1 (tr _ (by simp)) a1) (i2 (tr _ (by simp)) a2)
theorem FmI.alike {bs qs:List Str} {H H':Hp} {v v':V} {F:Fm} {n:Nat} (h:FmI bs qs H v F) (T:Tree H n v) (al:Alike H H' n v v'):FmI bs qs H' v' F:=⟨h.1.alike T al,h.2⟩
theorem lF.alike {H H':Hp} {R R':List V->Prop} {v v':V} {n:Nat} (h:lF H R v) (T:Tree H n v) (al:Alike H H' n v v') (k:∀ m vs ys,R vs->aX (Alike H H' m) vs ys->(∀ x∈vs,Tree H m x)->R' ys):lF H' R' v':=by
  obtain ⟨l,vs,rfl,h1,h2,h3⟩:=h
  obtain ⟨m,t',ys,rfl,g1,g2,tr⟩:=tO h1 T al
  exact ⟨t',ys,rfl,g1,by rw [<- bJ g2]; exact h2,k m vs ys h3 g2 tr⟩
mutual
theorem eJ.alike {bs qs:List Str} {H H':Hp}:∀ (d:Dd) (v v':V) (n:Nat),eJ bs qs H d v->Tree H n v->Alike H H' n v v'->eJ bs qs H' d v'
  | .put x f,v,v',n,h,T,al=>by
    obtain ⟨t,u,rfl,h1,h2,h3⟩:=(by simpa only [eJ] using h)
    obtain ⟨m,t',ys,rfl,g1,g2,tr⟩:=iT h1 T al
    obtain ⟨y0,yr,rfl,a0,g2⟩:=dE g2
    obtain ⟨y1,yr,rfl,a1,g2⟩:=dE g2
    obtain ⟨y2,yr,rfl,a2,g2⟩:=dE g2
    obtain rfl:=mf g2
    rw [fc (v:=.str _) trivial a0,fc (v:=.str _) trivial a1] at g1
    simp only [eJ]
    exact ⟨t',y2,rfl,g1,h2,h3.alike (tr _ (by simp)) a2⟩
  | .push x f,v,v',n,h,T,al=>by
    obtain ⟨t,u,rfl,h1,h2,h3⟩:=(by simpa only [eJ] using h)
    obtain ⟨m,t',ys,rfl,g1,g2,tr⟩:=iT h1 T al
    obtain ⟨y0,yr,rfl,a0,g2⟩:=dE g2
    obtain ⟨y1,yr,rfl,a1,g2⟩:=dE g2
    obtain ⟨y2,yr,rfl,a2,g2⟩:=dE g2
    obtain rfl:=mf g2
    rw [fc (v:=.str _) trivial a0,fc (v:=.str _) trivial a1] at g1
    simp only [eJ]
    exact ⟨t',y2,rfl,g1,h2,h3.alike (tr _ (by simp)) a2⟩
  | .pull q x o,v,v',n,h,T,al=>by
    obtain ⟨t,u,rfl,h1,h2,h3,h4⟩:=(by simpa only [eJ] using h)
    obtain ⟨m,t',ys,rfl,g1,g2,tr⟩:=iT h1 T al
    obtain ⟨y0,yr,rfl,a0,g2⟩:=dE g2
    obtain ⟨y1,yr,rfl,a1,g2⟩:=dE g2
    obtain ⟨y2,yr,rfl,a2,g2⟩:=dE g2
    obtain ⟨y3,yr,rfl,a3,g2⟩:=dE g2
    obtain rfl:=mf g2
    rw [fc (v:=.str _) trivial a0,fc (v:=.str _) trivial a1,fc (v:=.str _) trivial a2] at g1
    simp only [eJ]
    exact ⟨t',y3,rfl,g1,h2,h3,h4.alike (tr _ (by simp)) a3 fun m vs ys a b c=>fg.alike o vs ys m a b c⟩
  | .draw x f,v,v',n,h,T,al=>by
    obtain ⟨t,u,rfl,h1,h2,h3⟩:=(by simpa only [eJ] using h)
    obtain ⟨m,t',ys,rfl,g1,g2,tr⟩:=iT h1 T al
    obtain ⟨y0,yr,rfl,a0,g2⟩:=dE g2
    obtain ⟨y1,yr,rfl,a1,g2⟩:=dE g2
    obtain ⟨y2,yr,rfl,a2,g2⟩:=dE g2
    obtain rfl:=mf g2
    rw [fc (v:=.str _) trivial a0,fc (v:=.str _) trivial a1] at g1
    simp only [eJ]
    exact ⟨t',y2,rfl,g1,h2,h3.alike (tr _ (by simp)) a2⟩
  | .send to sg sp rk a b,v,v',n,h,T,al=>by
    obtain ⟨t,u,u1,u2,rfl,h1,h2,h3,h4⟩:=(by simpa only [eJ] using h)
    obtain ⟨m,t',ys,rfl,g1,g2,tr⟩:=iT h1 T al
    obtain ⟨y0,yr,rfl,a0,g2⟩:=dE g2
    obtain ⟨y1,yr,rfl,a1,g2⟩:=dE g2
    obtain ⟨y2,yr,rfl,a2,g2⟩:=dE g2
    obtain ⟨y3,yr,rfl,a3,g2⟩:=dE g2
    obtain ⟨y4,yr,rfl,a4,g2⟩:=dE g2
    obtain ⟨y5,yr,rfl,a5,g2⟩:=dE g2
    obtain ⟨y6,yr,rfl,a6,g2⟩:=dE g2
    obtain rfl:=mf g2
    rw [fc (v:=.str _) trivial a0,fc (v:=.int _) trivial a1,fc (v:=.str _) trivial a2,fc (v:=.int _) trivial a4] at g1
    simp only [eJ]
    exact ⟨t',y3,y5,y6,rfl,g1,h2.alike (tr _ (by simp)) a3,h3.alike (tr _ (by simp)) a5,h4.alike (tr _ (by simp)) a6⟩
  | .ife f x y,v,v',n,h,T,al=>by
    obtain ⟨t,u,u1,u2,rfl,h1,h2,h3,h4⟩:=(by simpa only [eJ] using h)
    obtain ⟨m,t',ys,rfl,g1,g2,tr⟩:=iT h1 T al
    obtain ⟨y0,yr,rfl,a0,g2⟩:=dE g2
    obtain ⟨y1,yr,rfl,a1,g2⟩:=dE g2
    obtain ⟨y2,yr,rfl,a2,g2⟩:=dE g2
    obtain ⟨y3,yr,rfl,a3,g2⟩:=dE g2
    obtain rfl:=mf g2
    rw [fc (v:=.str _) trivial a0] at g1
    simp only [eJ]
    exact ⟨t',y1,y2,y3,rfl,g1,h2.alike (tr _ (by simp)) a1,h3.alike (tr _ (by simp)) a2 fun m vs ys a b c=>fg.alike x vs ys m a b c,h4.alike (tr _ (by simp)) a3 fun m vs ys a b c=>fg.alike y vs ys m a b c⟩
  | .fin,v,v',n,h,T,al=>by
    obtain ⟨t,rfl,h1⟩:=(by simpa only [eJ] using h)
    obtain ⟨m,t',ys,rfl,g1,g2,tr⟩:=iT h1 T al
    obtain ⟨y0,yr,rfl,a0,g2⟩:=dE g2
    obtain rfl:=mf g2
    rw [fc (v:=.str _) trivial a0] at g1
    simp only [eJ]
    exact ⟨t',rfl,g1⟩
theorem fg.alike {bs qs:List Str} {H H':Hp}:∀ (d:Ds) (vs ys:List V) (n:Nat),fg bs qs H d vs->aX (Alike H H' n) vs ys->(∀ x∈vs,Tree H n x)->fg bs qs H' d ys
  | .nil,vs,ys,n,h,al,T=>by
    have e:vs=[]:=by simpa only [fg] using h
    subst e
    obtain rfl:=mf al
    simp only [fg]
  | .cons d r,vs,ys,n,h,al,T=>by
    obtain ⟨v,vr,rfl,h1,h2⟩:=(by simpa only [fg] using h)
    obtain ⟨y,yr,rfl,a,b⟩:=dE al
    simp only [fg]
    exact ⟨y,yr,rfl,eJ.alike d v y n h1 (T v aC) a,fg.alike r vr yr n h2 b fun x hx=>T x (af _ hx)⟩
end
theorem oV {α:Type} {R R':V->α->Prop} {S:V->V->Prop} {T:V->Prop} (f:∀ v a v',R v a->S v v'->T v->R' v' a):∀ {xs ys:List V} {as:List α},aX R xs as->aX S xs ys->(∀ x∈xs,T x)->aX R' ys as
  | _,_,_,.nil,.nil,_=>.nil
  | _,_,_,.cons a b,.cons c d,t=>.cons (f _ _ _ a c (t _ aC)) (oV f b d fun x hx=>t x (af _ hx))
theorem tM.alike {bs qs:List Str} {ds:List Int} {hs:List (Str×Ds)} {H H':Hp} {v v':V} {n:Nat} (h:tM bs qs ds hs H v) (T:Tree H n v) (al:Alike H H' n v v'):tM bs qs ds hs H' v':=by
  obtain ⟨t,bl,ql,dl,hl,nm,vb,hv,rfl,h1,h2,h3,h4,h5,h6,h7⟩:=h.ex
  obtain ⟨m,t',ys,rfl,g1,g2,tr⟩:=iT h1 T al
  obtain ⟨y0,yr,rfl,a0,g2⟩:=dE g2
  obtain ⟨y1,yr,rfl,a1,g2⟩:=dE g2
  obtain ⟨y2,yr,rfl,a2,g2⟩:=dE g2
  obtain ⟨y3,yr,rfl,a3,g2⟩:=dE g2
  obtain ⟨y4,yr,rfl,a4,g2⟩:=dE g2
  obtain rfl:=mf g2
  obtain ⟨m1,b',zs1,rfl,c1,d1,t1⟩:=tO h2 (tr _ (by simp)) a1
  obtain ⟨m2,q',zs2,rfl,c2,d2,t2⟩:=tO h4 (tr _ (by simp)) a2
  obtain ⟨m3,e',zs3,rfl,c3,d3,t3⟩:=tO h5 (tr _ (by simp)) a3
  obtain ⟨m4,f',zs4,rfl,c4,d4,t4⟩:=tO h6 (tr _ (by simp)) a4
  rw [iQ d2 (by intro x hx; obtain ⟨z,_,rfl⟩:=cN.mp hx; exact trivial)] at c2
  rw [iQ d3 (by intro x hx; obtain ⟨z,_,rfl⟩:=cN.mp hx; exact trivial)] at c3
  refine ⟨t',b',q',e',f',y0,zs1,zs4,rfl,g1,c1,oV (fun v a v' x y z=>?_) h3 d1 t1,c2,c3,c4,oV (fun v a v' x y z=>?_) h7 d4 t4⟩
  · obtain ⟨p,k,rfl,hp⟩:=x
    obtain ⟨m',p',ws,rfl,k1,k2,_⟩:=iT hp z y
    obtain ⟨w0,wr,rfl,b0,k2⟩:=dE k2
    obtain ⟨w1,wr,rfl,b1,k2⟩:=dE k2
    obtain rfl:=mf k2
    rw [fc (v:=.str _) trivial b0] at k1
    exact ⟨p',w1,rfl,k1⟩
  · obtain ⟨p,u,rfl,hp,hu⟩:=x
    obtain ⟨m',p',ws,rfl,k1,k2,tr'⟩:=iT hp z y
    obtain ⟨w0,wr,rfl,b0,k2⟩:=dE k2
    obtain ⟨w1,wr,rfl,b1,k2⟩:=dE k2
    obtain rfl:=mf k2
    rw [fc (v:=.str _) trivial b0] at k1
    exact ⟨p',w1,rfl,k1,hu.alike (tr' _ (by simp)) b1 fun m vs ys a b c=>fg.alike _ vs ys m a b c⟩
end My
namespace My
open PySem L2
def zK (K:ag):List V->Hp->VK->Prop:=fun xs H Q=>∃ p ys,xs=[.ref p]/\(SqL K H p ys\/SqT K H p ys)/\Q (.int ys.length) H
theorem eF {X:Cx} (K:ag) (hK:X.K=K):mY X (.builtin "len") (zK K):=by
  rw [<- hK]
  exact hJ
theorem Dk {X:Cx} (K:ag) (hK:X.K=K):IxR X (HQ K):=by
  rw [<- hK]
  exact cU
theorem mQ {X:Cx} (K:ag) (hK:X.K=K):IxR X (HR K):=by
  rw [<- hK]
  exact cz
theorem zL {X:Cx} {pos:Pos} {es:List dv} {k:Nat} {t:TGs} {n:Nat} (K:ag) (hK:X.K=K) (hc:X.calm=true) (h:PGs X es t)
    (hn:(kD es X.env).length=n:=by rfl) (hst:(kD es X.env).findIdx? (·.1)=none:=by rfl):PG X (.Tuple es k pos) (gTup K n t):=by
  rw [<- hK]
  exact Bs hc h hn hst
theorem yO:1<=aJ:=by decide
theorem uY {te:TE} {D:kU} {σ:St} {H:Hp} (h:te σ H D.rt):tRet te D σ H:=h
theorem AW {K:ag} {m C dx ml:ae} {fs:List (Str×V)} {f:Str} {ms:List V} {n i:Nat} {g:TG} {tc:L2.TT} {te:TE} {σ:St} {H:Hp} {Q:VK} (hv:σ[i]?=some (some (.ref m))) (hm:H m=some (.ins C dx fs)) (cl:Cls K C) (na:e8 K C f) (lk:fs.lookup f=some (.ref ml)) (hml:H ml=some (.lst ms)) (hlen:ms.length < 1000)
    (Pv:Nat->List V->Hp->Prop) (h0:Pv 0 [] H) (hl:∀ i ys H,i<=ms.length->Pv i ys H->ys.length < aJ)
    (hs:∀ i ys H,i < ms.length->Pv i ys H->g (.int (0 + i)) (cO n none++σ) H fun σ2 H2=>σ2.drop n=σ/\tc σ2 H2 fun b H3=>if b=true then te σ2 H3 fun y H4=>Pv (i + 1) (ys++[y]) H4 else Pv (i + 1) ys H3)
    (hd:∀ ys H,Pv ms.length ys H->∀ p,H p=none->Q (.ref p) (upd H p (.lst ys))):tu n (Gs (jH (tCB (zK K) (jH (HM K (qE i) f) sY)) sY)) g tc te σ H Q:=by
  refine ⟨.ref m,hv,m,C,dx,fs,.ref ml,rfl,hm,cl,na,lk,ml,ms,rfl,.inl (SqL.of hml),(ms.length:Int),rfl,by omega,by omega,?_⟩
  rw [jM]
  refine ⟨fun i k ys H=>k=ms.length - i/\i<=ms.length/\Pv i ys H,⟨ms.length,by simp,bK _,h0⟩,?_⟩
  rintro i k ys H ⟨rfl,hi,pv'⟩
  refine ⟨hl i ys H hi pv',?_⟩
  by_cases lt:i < ms.length
  · refine .inr ⟨lt,Pv (i + 1),fun ys' H' p'=>⟨ms.length - (i + 1),by omega,rfl,lt,p'⟩,fun x H' y=>?_⟩
    obtain ⟨e,y⟩:=y
    subst e y
    exact hs i ys _ lt pv'
  · have e:i=ms.length:=by omega
    subst e
    exact .inl ⟨aL _,hd ys H pv'⟩
theorem yP {K:ag} {a:ae} {xs:List V} {n i:Nat} {g:TG} {tc:L2.TT} {te:TE} {σ:St} {H:Hp} {Q:VK} (hv:σ[i]?=some (some (.ref a))) (hx:SqL K H a xs) (Pv:Nat->List V->Hp->Prop) (h0:Pv 0 [] H) (hl:∀ i ys H,i<=xs.length->Pv i ys H->SqL K H a xs/\ys.length < aJ)
    (hs:∀ i x t ys H,xs[i]?=some x->Pv i ys H->H t=none->g (.ref t) (cO n none++σ) (upd H t (.tup [.int i,x])) fun σ2 H2=>σ2.drop n=σ/\tc σ2 H2 fun b H3=>if b=true then te σ2 H3 fun y H4=>Pv (i + 1) (ys++[y]) H4 else Pv (i + 1) ys H3)
    (hd:∀ ys H,Pv xs.length ys H->∀ p,H p=none->Q (.ref p) (upd H p (.lst ys))):tu n (GX K (jH (qE i) sY)) g tc te σ H Q:=
  ⟨.ref a,hv,a,rfl,⟨xs,hx⟩,AH Pv h0 hl hs hd⟩
def mh (H:Hp) (v:V) (e:Ev):Prop:=∃ t,v=.ref t/\H t=some (.tup [.int e.t,.int e.r,.int e.to,.str e.sg,.int e.a,.int e.b])
theorem mh.same {H H':Hp} (s:bT H H') {v:V} {e:Ev} (h:mh H v e):mh H' v e:=by
  obtain ⟨t,e,h⟩:=h
  exact ⟨t,e,s _ _ h⟩
def atP (e:Ev) (i:Nat):Ev:={e with fr:=-1,c:=i}
section
variable {P:aW} {w:bO} {K:ag} {mg:Str->Option aa} {base:cE} {f fP CB:ae} {fd fdP:cu}
def Hi:Sp:=fun vs H Q _=>∃ (sl:ae) (svs:List V) (es:List Ev),vs=[.ref sl]/\H sl=some (.lst svs)/\aX (mh H) svs es/\es.length < 1000 /\
  ∀ (G:Hp) (l:ae) (ys:List V),bT H G->H l=none->G l=some (.lst ys)->ys.length=es.length->(∀ i y e,ys[i]?=some y->es[i]?=some e->hZ G y (atP e i))->Q (.ref l) G
theorem scPf:bY ["signs"] ["signs"] (aF eQ):=⟨rfl,rfl,rfl,by decide +kernel,rfl,by decide +kernel,by decide +kernel⟩
theorem ndPf:((["place","sign"]:List Str)++(["signs"]:List Str)).Nodup:=by decide +kernel
theorem IX (D:Df K mg "pending_at_first" eQ ["signs"] f fd) (ME:mg "enumerate"=none):bX P w K mg base CX0 1 f fd ["signs"] Hi:=by
  refine D.F.ok scPf (fun vs H Q E h=>?_) (fun cdv A outer s H vs Q E hr h=>?_)
  · obtain ⟨sl,svs,es,rfl,_⟩:=h
    rfl
  obtain ⟨sl,svs,es,rfl,hsl,ps,les,k⟩:=h
  refine ⟨_,aG (bR (p9 ["place","sign"] (jv.open (NN:=["signs"]) (N:=["signs"]) (sc:=aF eQ) rfl rfl (by decide +kernel) rfl (by decide +kernel) (by decide +kernel) rfl (by decide +kernel)) rfl (E6 (by rfl) ME (au (pv 0) aw))
    (fun _ _ _ _=>zL (n:=2) K (by rfl) rfl (lV (eD (i:=0) ndPf rfl (Or.inl rfl)) (lV (eD (i:=1) ndPf rfl (Or.inl rfl)) vp))) (fun _ _ _ _=>mK)
    (fun _ _ _ _=>eE (au (eE (au (bN (mQ K (by rfl)) (pv 1) aq (by intro _ _; rfl)) (au (bN (mQ K (by rfl)) (pv 1) aq (by intro _ _; rfl)) (au (By xX aq) (au (pv 0) aw)))))
      (au (bN (mQ K (by rfl)) (pv 1) aq (by intro _ _; rfl)) (au (bN (mQ K (by rfl)) (pv 1) aq (by intro _ _; rfl)) (au (bN (mQ K (by rfl)) (pv 1) aq (by intro _ _; rfl)) (au (bN (mQ K (by rfl)) (pv 1) aq (by intro _ _; rfl)) aw)))))))),?_⟩
  have big:=fK
  have lps:=bJ ps
  refine uY ?_
  refine yP (K:=K) (a:=sl) (xs:=svs) rfl (SqL.of hsl) (fun i ys G=>ys.length=i/\bT H G/\∀ j y e,ys[j]?=some y->es[j]?=some e->hZ G y (atP e j)) ⟨rfl,bT.refl _,fun j y e h=>by simp at h⟩ ?_ ?_ ?_
  · rintro i ys G hi ⟨h1,h2,_⟩
    exact ⟨SqL.of (h2 _ _ hsl),by omega⟩
  · rintro i x t ys G hi ⟨h1,h2,h3⟩ ht
    obtain ⟨e,he,ts,rfl,hts⟩:=jY ps hi
    have st_:=aR ht (.tup [.int i,.ref ts])
    have hq:=st_ _ _ (h2 _ _ hts)
    refine ⟨t,_,rfl,SqT.of ao,rfl,_,_,rfl,_,_,rfl,rfl,?_⟩
    refine ⟨rfl,?_⟩
    unfold w6
    refine iJ ?_
    refine ⟨_,rfl,ts,_,_,_,rfl,rfl,SqT.of hq,rfl,_,rfl,ts,_,_,_,rfl,rfl,SqT.of hq,rfl,_,rfl,_,rfl,(by show 4<=aJ; decide),fun kt hkt=>?_⟩
    have sk:=aR hkt (.tup [.int e.t,.int e.r,.int (-1),.int i])
    have hq2:=sk _ _ hq
    refine ⟨_,rfl,ts,_,_,_,rfl,rfl,SqT.of hq2,rfl,_,rfl,ts,_,_,_,rfl,rfl,SqT.of hq2,rfl,_,rfl,ts,_,_,_,rfl,rfl,SqT.of hq2,rfl,_,rfl,ts,_,_,_,rfl,rfl,SqT.of hq2,rfl,(by show 5<=aJ; decide),fun et het=>?_⟩
    have se:=aR het (.tup [.ref kt,.int e.to,.str e.sg,.int e.a,.int e.b])
    have sA:=(st_.trans sk).trans se
    refine ⟨by rw [aI,h1]; rfl,h2.trans sA,fun j y e' hy he'=>?_⟩
    rcases iZ j ys.length with lt | ge
    · rw [dy lt] at hy
      exact (h3 j y e' hy he').same sA
    · rw [dJ ge] at hy
      have ej:j=i:=by
        by_cases c:j - ys.length=0
        · omega
        · rw [List.getElem?_cons,if_neg c] at hy
          simp at hy
      subst ej
      rw [h1,Nat.sub_self] at hy
      cases hy
      rw [he] at he'
      cases he'
      exact ⟨et,kt,rfl,ao,se _ _ ao⟩
  · rintro ys G ⟨h1,h2,h3⟩ l hl
    have sl':=aR hl (.lst ys)
    exact k _ l ys (h2.trans sl') (none_of h2 hl) ao (by omega) fun i y e hy he=>(h3 i y e hy he).same sl'
theorem uZ:bY ["falling","thing","low","high","middle"] ["falling","thing"] (aF jW):=⟨rfl,rfl,rfl,by decide +kernel,rfl,by decide +kernel,by decide +kernel⟩
theorem scPic:bY ["falling","thing"] ["falling","thing"] (aF lZ):=⟨rfl,rfl,rfl,by decide +kernel,rfl,by decide +kernel,by decide +kernel⟩
def FE (r e s:V):List (Str×V):=dD "states" s (dD "ending" e (dD "records" r []))
structure BkT (K:ag) (mg:Str->Option aa) (CB:ae):Prop where
  cl:Cls K CB
  nR:e8 K CB "records"
  nE:e8 K CB "ending"
  nS:e8 K CB "states"
  m:mg "Book"=some (.ref CB)
def spBk (CB:ae):Sp:=fun vs H Q _=>∃ (b dx:ae) (r e s:V),vs=[.ref b,r,e,s]/\H b=some (.ins CB dx [])/\∀ G,G b=some (.ins CB dx (FE r e s))->But b H G->Q .non G
theorem scBk:bY ["self","records","ending","states"] ["self","records","ending","states"] (aF jn):=⟨rfl,rfl,rfl,by decide +kernel,rfl,by decide +kernel,by decide +kernel⟩
theorem ok_bk (F:Fun K "__init__" "Book.__init__" jn f fd) (T:BkT K mg CB):bX P w K mg base CX0 1 f fd ["self","records","ending","states"] (spBk CB):=by
  refine F.ok scBk (fun vs H Q E h=>?_) (fun cdv A outer s H vs Q E hr h=>?_)
  · obtain ⟨b,dx,r,e,s',rfl,_⟩:=h
    rfl
  obtain ⟨b,dx,r,e,s',rfl,hb,k⟩:=h
  refine ⟨_,ak (gf (pv 0) (pv 1) rfl) (ak (gf (pv 0) (pv 2) rfl) (aG (gf (pv 0) (pv 3) rfl))),?_⟩
  have l1:=gT "records" r []
  have l2:=gT "ending" e (dD "records" r [])
  simp only [cP] at l1
  refine ⟨_,rfl,_,rfl,b,CB,dx,[],rfl,hb,T.cl,T.nR,(by show 0 < 1000; decide),_,rfl,_,rfl,b,CB,dx,_,rfl,ao,T.cl,T.nE,(by omega),_,rfl,_,rfl,b,CB,dx,_,rfl,ao,T.cl,T.nS,(by omega),?_⟩
  exact k _ ao (((But.upd b H _).trans (But.upd b _ _)).trans (But.upd b _ _))
theorem xt (r e s:V):(FE r e s).lookup ("records":Str)=some r:=rfl
theorem IY (r e s:V):(FE r e s).lookup ("ending":Str)=some e:=rfl
def oE (wd:Str):Sp:=fun vs H Q _=>∃ a,vs=[a]/\Q (.str wd) H
theorem AX:bY ["self"] ["self"] (aF ib):=⟨rfl,rfl,rfl,by decide +kernel,rfl,by decide +kernel,by decide +kernel⟩
theorem yQ (F:Fun K "word" "Nought.word" ib f fd):oz P w K mg base CX0 1 f fd ["self"] (oE "nought"):=by
  refine F.okH AX (fun vs H Q E h=>?_) (fun cdv A outer s H vs Q E h=>?_)
  · obtain ⟨a,rfl,_⟩:=h
    rfl
  obtain ⟨a,rfl,q⟩:=h
  exact ⟨_,aG (bR cG),q⟩
end
end My
namespace My
open PySem L2
theorem eJ.ref {bs qs:List Str} {H:Hp} {d:Dd} {v:V} (h:eJ bs qs H d v):∃ t,v=.ref t:=by
  cases d <;> simp only [eJ] at h
  · obtain ⟨t,_,e,_⟩:=h
    exact ⟨t,e⟩
  · obtain ⟨t,_,e,_⟩:=h
    exact ⟨t,e⟩
  · obtain ⟨t,_,e,_⟩:=h
    exact ⟨t,e⟩
  · obtain ⟨t,_,e,_⟩:=h
    exact ⟨t,e⟩
  · obtain ⟨t,_,_,_,e,_⟩:=h
    exact ⟨t,e⟩
  · obtain ⟨t,_,_,_,e,_⟩:=h
    exact ⟨t,e⟩
  · obtain ⟨t,e,_⟩:=h
    exact ⟨t,e⟩
end My
namespace My
open PySem L2
theorem Tree.scal {H:Hp} {v:V} (h:yF v):∀ n,Tree H n v
  | 0=>h
  | _ + 1=>.inl h
theorem Tree.atup {H:Hp} {a:ae} {xs:List V} {n:Nat} (h:H a=some (.tup xs)) (l:xs.length < 1000) (k:∀ x∈xs,Tree H n x):Tree H (n + 1) (.ref a):=.inr ⟨a,xs,rfl,.inr h,l,k⟩
theorem Tree.alst {H:Hp} {a:ae} {xs:List V} {n:Nat} (h:H a=some (.lst xs)) (l:xs.length < 1000) (k:∀ x∈xs,Tree H n x):Tree H (n + 1) (.ref a):=.inr ⟨a,xs,rfl,.inl h,l,k⟩
theorem iR.tree {bs qs:List Str} {H:Hp} {v:V} {f:Fm} (h:iR bs qs H v f):∀ n,f.depth<=n->Tree H n v:=by
  induction h with
  | num h1 _=>exact fun n hn=>match n,hn with
    | n + 1,_=>Tree.atup h1 (by show 2 < 1000; decide) fun x hx=>by
      simp only [ax,bz,or_false] at hx
      rcases hx with rfl | rfl <;> exact Tree.scal (by exact trivial) _
    | 0,hn=>absurd hn (by unfold Fm.depth; decide)
  | box h1 _=>exact fun n hn=>match n,hn with
    | n + 1,_=>Tree.atup h1 (by show 2 < 1000; decide) fun x hx=>by
      simp only [ax,bz,or_false] at hx
      rcases hx with rfl | rfl <;> exact Tree.scal (by exact trivial) _
    | 0,hn=>absurd hn (by unfold Fm.depth; decide)
  | long h1 _=>exact fun n hn=>match n,hn with
    | n + 1,_=>Tree.atup h1 (by show 2 < 1000; decide) fun x hx=>by
      simp only [ax,bz,or_false] at hx
      rcases hx with rfl | rfl <;> exact Tree.scal (by exact trivial) _
    | 0,hn=>absurd hn (by unfold Fm.depth; decide)
  | got h1=>exact fun n hn=>match n,hn with
    | n + 1,_=>Tree.atup h1 (by show 2 < 1000; decide) fun x hx=>by
      simp only [ax,bz,or_false] at hx
      rcases hx with rfl | rfl <;> exact Tree.scal (by exact trivial) _
    | 0,hn=>absurd hn (by unfold Fm.depth; decide)
  | now h1=>exact fun n hn=>match n,hn with
    | n + 1,_=>Tree.atup h1 (by show 1 < 1000; decide) fun x hx=>by
      simp only [ax,bz,or_false] at hx
      rcases hx with rfl
      exact Tree.scal (by exact trivial) _
    | 0,hn=>absurd hn (by unfold Fm.depth; decide)
  | two h1 _ _ _ ih1 ih2=>exact fun n hn=>match n,hn with
    | n + 1,hn=>Tree.atup h1 (by show 3 < 1000; decide) fun x hx=>by
      unfold Fm.depth at hn
      simp only [ax,bz,or_false] at hx
      rcases hx with rfl | rfl | rfl
      · exact Tree.scal (by exact trivial) _
      · exact ih1 n (by omega)
      · exact ih2 n (by omega)
    | 0,hn=>absurd hn (by unfold Fm.depth; omega)
mutual
theorem eJ.tree {bs qs:List Str} {H:Hp}:∀ (d:Dd) (v:V) (n:Nat),eJ bs qs H d v->2 * d.deep + 16<=n->Tree H n v
  | _,_,0,_,hn=>absurd hn (by omega)
  | .put x f,v,n + 1,h,hn=>by
    obtain ⟨t,u,rfl,h1,h2,h3⟩:=(by simpa only [eJ] using h)
    refine Tree.atup h1 (by show 3 < 1000; decide) fun y hy=>?_
    simp only [ax,bz,or_false] at hy
    rcases hy with rfl | rfl | rfl
    · exact Tree.scal (by exact trivial) _
    · exact Tree.scal (by exact trivial) _
    · exact h3.1.tree n (by have:=h3.2; omega)
  | .push q f,v,n + 1,h,hn=>by
    obtain ⟨t,u,rfl,h1,h2,h3⟩:=(by simpa only [eJ] using h)
    refine Tree.atup h1 (by show 3 < 1000; decide) fun y hy=>?_
    simp only [ax,bz,or_false] at hy
    rcases hy with rfl | rfl | rfl
    · exact Tree.scal (by exact trivial) _
    · exact Tree.scal (by exact trivial) _
    · exact h3.1.tree n (by have:=h3.2; omega)
  | .pull q x o,v,n + 1,h,hn=>by
    obtain ⟨t,u,rfl,h1,h2,h3,l,vs,rfl,h4,h5,h6⟩:=(by simpa only [eJ] using h)
    unfold Dd.deep at hn
    refine Tree.atup h1 (by show 4 < 1000; decide) fun y hy=>?_
    simp only [ax,bz,or_false] at hy
    rcases hy with rfl | rfl | rfl | rfl
    · exact Tree.scal (by exact trivial) _
    · exact Tree.scal (by exact trivial) _
    · exact Tree.scal (by exact trivial) _
    · obtain ⟨m,rfl⟩:∃ m,n=m + 1:=⟨n - 1,by omega⟩
      exact Tree.alst h4 h5 (fg.tree o vs m h6 (by omega))
  | .draw x f,v,n + 1,h,hn=>by
    obtain ⟨t,u,rfl,h1,h2,h3⟩:=(by simpa only [eJ] using h)
    refine Tree.atup h1 (by show 3 < 1000; decide) fun y hy=>?_
    simp only [ax,bz,or_false] at hy
    rcases hy with rfl | rfl | rfl
    · exact Tree.scal (by exact trivial) _
    · exact Tree.scal (by exact trivial) _
    · exact h3.1.tree n (by have:=h3.2; omega)
  | .send to sg sp rk a b,v,n + 1,h,hn=>by
    obtain ⟨t,u,u1,u2,rfl,h1,h2,h3,h4⟩:=(by simpa only [eJ] using h)
    refine Tree.atup h1 (by show 7 < 1000; decide) fun y hy=>?_
    simp only [ax,bz,or_false] at hy
    rcases hy with rfl | rfl | rfl | rfl | rfl | rfl | rfl
    · exact Tree.scal (by exact trivial) _
    · exact Tree.scal (by exact trivial) _
    · exact Tree.scal (by exact trivial) _
    · exact h2.1.tree n (by have:=h2.2; omega)
    · exact Tree.scal (by exact trivial) _
    · exact h3.1.tree n (by have:=h3.2; omega)
    · exact h4.1.tree n (by have:=h4.2; omega)
  | .ife f x y,v,n + 1,h,hn=>by
    obtain ⟨t,u,u1,u2,rfl,h1,h2,⟨l,vs,rfl,g1,g2,g3⟩,l',vs',rfl,k1,k2,k3⟩:=(by simpa only [eJ] using h)
    unfold Dd.deep at hn
    refine Tree.atup h1 (by show 4 < 1000; decide) fun z hz=>?_
    simp only [ax,bz,or_false] at hz
    obtain ⟨m,rfl⟩:∃ m,n=m + 1:=⟨n - 1,by omega⟩
    rcases hz with rfl | rfl | rfl | rfl
    · exact Tree.scal (by exact trivial) _
    · exact h2.1.tree _ (by have:=h2.2; omega)
    · exact Tree.alst g1 g2 (fg.tree x vs m g3 (by omega))
    · exact Tree.alst k1 k2 (fg.tree y vs' m k3 (by omega))
  | .fin,v,n + 1,h,hn=>by
    obtain ⟨t,rfl,h1⟩:=(by simpa only [eJ] using h)
    refine Tree.atup h1 (by show 1 < 1000; decide) fun y hy=>?_
    simp only [ax,bz,or_false] at hy
    rw [hy]
    exact Tree.scal (by exact trivial) _
theorem fg.tree {bs qs:List Str} {H:Hp}:∀ (d:Ds) (vs:List V) (n:Nat),fg bs qs H d vs->2 * d.deep + 16<=n->∀ x∈vs,Tree H n x
  | .nil,vs,n,h,hn=>by
    have e:vs=[]:=by simpa only [fg] using h
    subst e
    intro x hx
    cases hx
  | .cons d r,vs,n,h,hn=>by
    obtain ⟨v,vr,rfl,h1,h2⟩:=(by simpa only [fg] using h)
    unfold Ds.deep at hn
    intro x hx
    rcases ax.mp hx with rfl | hx
    · exact eJ.tree d _ n h1 (by omega)
    · exact fg.tree r vr n h2 (by omega) x hx
end
end My
namespace My
open PySem L2
section
variable {X:Cx} {es:List dv} {te:TE} {t:TA}
theorem xu {es':List dv} {k:Nat} {p:Pos} {env:Env}:cH (.Tuple es' k p :: es) env=(false,fV (.Tuple es' k p) env) :: cH es env:=by rfl
theorem yR {es':List dv} {k:Nat} {p:Pos} (ha:PE X (.Tuple es' k p) te) (hr:PA X es t):PA X (.Tuple es' k p :: es) (jH te t):=au ha hr (by rfl)
theorem IZ {es':List dv} {p:Pos} (ha:PE X (.List es' p) te) (hr:PA X es t):PA X (.List es' p :: es) (jH te t):=au ha hr (by rfl)
theorem dO {c:Const} {k:Nat} {p:Pos} (ha:PE X (.Constant c k p) te) (hr:PA X es t):PA X (.Constant c k p :: es) (jH te t):=au ha hr (by rfl)
theorem bH {x:Str} {p:Pos} (ha:PE X (.Name x p) te) (hr:PA X es t):PA X (.Name x p :: es) (jH te t):=au ha hr (by rfl)
theorem jy {g:dv} {as:List dv} {ks:List JI} {p:Pos} (ha:PE X (.Call g as ks p) te) (hr:PA X es t):PA X (.Call g as ks p :: es) (jH te t):=au ha hr (by rfl)
theorem yS {a b:dv} {p:Pos} (ha:PE X (.Subscript a b p) te) (hr:PA X es t):PA X (.Subscript a b p :: es) (jH te t):=au ha hr (by rfl)
theorem nj {a b:dv} {o:Ex} {p:Pos} (ha:PE X (.BinOp a o b p) te) (hr:PA X es t):PA X (.BinOp a o b p :: es) (jH te t):=au ha hr (by rfl)
end
theorem genH {T P:Hp->Prop} {G:Hp} (h:P G) (k:∀ G',P G'->T G'):T G:=k G h
theorem Hj {t:L2.TT} {a b:TS} {D:kU} {σ:St} {H:Hp} (h:t σ H fun c H1=>if c=true then a D σ H1 else b D σ H1):Eu t a b D σ H:=h
theorem kN {D:kU} {σ:St} {H:Hp} (h:D.nx σ H):Br D σ H:=h
def Det (t:L2.TT) (σ:St) (H:Hp) (b:Bool):Prop:=∀ Q:Bool->Hp->Prop,Q b H->t σ H Q
theorem Det.and {tA tB:L2.TT} {σ:St} {H:Hp} {x y:Bool} (a:Det tA σ H x) (b:x=true->Det tB σ H y):Det (tAnd tA tB) σ H (x && y):=fun Q q=>a _ (by
  cases x with
  | true=>exact iJ (b rfl Q q)
  | false=>exact hW q)
theorem Det.or {tA tB:L2.TT} {σ:St} {H:Hp} {x y:Bool} (a:Det tA σ H x) (b:x=false->Det tB σ H y):Det (tOr tA tB) σ H (x || y):=fun Q q=>a _ (by
  cases x with
  | true=>exact iJ q
  | false=>exact hW (b rfl Q q))
theorem mR {t:L2.TT} {a b:TS} {D:kU} {σ:St} {H:Hp} {c:Bool} (h:Det t σ H c) (k1:c=true->a D σ H) (k2:c=false->b D σ H):Eu t a b D σ H:=h _ (by
  cases c with
  | true=>exact iJ (k1 rfl)
  | false=>exact hW (k2 rfl))
theorem pI {i:Nat} {w k:Int} {σ:St} {H:Hp} (hv:σ[i]?=some (some (.int w))):Det (uy (tOp rEq (qE i) (tC (.int k)))) σ H (decide (w=k)):=fun Q q=>⟨_,hv,rfl,_,rfl,by
  rw [show decide (V.int w=V.int k)=decide (w=k) from by
    by_cases c:w=k
    · subst c
      rw [decide_eq_true rfl,decide_eq_true rfl]
    · rw [decide_eq_false c,decide_eq_false (fun z=>c (by cases z; rfl))]]
  exact q⟩
theorem yT {i:Nat} {w k:Int} {σ:St} {H:Hp} (hv:σ[i]?=some (some (.int w))):Det (uy (tOp (rI0 fun i j=>.bl (decide (i < j))) (qE i) (tC (.int k)))) σ H (decide (w < k)):=fun Q q=>⟨_,hv,_,_,rfl,rfl,_,rfl,q⟩
theorem I9 {i:Nat} {w k:Int} {σ:St} {H:Hp} (hv:σ[i]?=some (some (.int w))):Det (uy (tOp (rI0 fun i j=>.bl (decide (j < i))) (qE i) (tC (.int k)))) σ H (decide (k < w)):=fun Q q=>⟨_,hv,_,_,rfl,rfl,_,rfl,q⟩
theorem sM {K:ag} {i:Nat} {a:ae} {xs:List V} {k:Int} {σ:St} {H:Hp} (hv:σ[i]?=some (some (.ref a))) (hx:H a=some (.lst xs)):Det (uy (tOp (rI0 fun i j=>.bl (decide (j < i))) (tCB (zK K) (jH (qE i) sY)) (tC (.int k)))) σ H (decide (k < xs.length)):=fun Q q=>⟨_,hv,a,xs,rfl,.inl (SqL.of hx),_,_,rfl,rfl,_,rfl,q⟩
theorem Dl {K:ag} {i:Nat} {a:ae} {xs:List V} {k:Int} {σ:St} {H:Hp} (hv:σ[i]?=some (some (.ref a))) (hx:H a=some (.lst xs)):Det (uy (tOp rEq (tCB (zK K) (jH (qE i) sY)) (tC (.int k)))) σ H (decide ((xs.length:Int)=k)):=fun Q q=>⟨_,hv,a,xs,rfl,.inl (SqL.of hx),rfl,_,rfl,by
  rw [show decide (V.int (xs.length:Int)=V.int k)=decide ((xs.length:Int)=k) from by
    by_cases c:(xs.length:Int)=k
    · rw [decide_eq_true c,decide_eq_true (by rw [c])]
    · rw [decide_eq_false c,decide_eq_false (fun z=>c (by injection z))]]
  exact q⟩
end My
namespace My
open PySem L2
def xw (o:HO):Prop:=(∃ xs,o=.tup xs)\/∃ xs,o=.lst xs/\∀ (i:Int) (r:List V),xs≠.int i :: r
def eK (H H':Hp):Prop:=∀ a o,H a=some o->xw o->H' a=some o
theorem eK.same {H H':Hp} (s:bT H H'):eK H H':=fun a o e _=>s _ _ e
theorem eK.trans {H H1 H2:Hp} (a:eK H H1) (b:eK H1 H2):eK H H2:=fun c o e n=>b _ _ (a _ _ e n) n
def Kp (own:List ae) (H G:Hp):Prop:=∀ b o,H b=some o->b∉own->G b=some o
theorem Kp.refl (own:List ae) (H:Hp):Kp own H H:=fun _ _ e _=>e
theorem Kp.trans {own:List ae} {H G G':Hp} (a:Kp own H G) (b:Kp own G G'):Kp own H G':=fun c o e n=>b c o (a c o e n) n
theorem Kp.same {own:List ae} {H G:Hp} (s:bT H G):Kp own H G:=fun c o e _=>s _ _ e
theorem Kp.but {own:List ae} {H G:Hp} {p:ae} (s:But p H G) (m:p∈own):Kp own H G:=fun c o e n=>s _ _ e fun z=>n (by rw [z]; exact m)
theorem Kp.upd {own:List ae} {H:Hp} {a:ae} {o:HO} (m:a∈own):Kp own H (upd H a o):=fun c u e n=>by
  rw [aV fun z=>n (by rw [z]; exact m)]
  exact e
theorem Kp.keepI {own:List ae} {H G:Hp} (k:Kp own H G) (h:∀ a∈own,∃ (i:Int) (r:List V),H a=some (.lst (.int i :: r))):eK H G:=fun a o e n=>k a o e fun m=>by
  obtain ⟨i,r,q⟩:=h a m
  rw [q] at e
  cases e
  rcases n with ⟨xs,n⟩ | ⟨xs,n,y⟩
  · cases n
  · cases n
    exact y i r rfl
theorem eK.but {H H':Hp} {p:ae} (pu:eC H p) (b:But p H H'):eK H H':=Kp.keepI (own:=[p]) (Kp.but b aC) fun a m=>by
  obtain ⟨x,y,h⟩:=pu
  rw [aM.mp m]
  exact ⟨x,_,h⟩
theorem pJ (xs:List V):xw (.tup xs):=.inl ⟨xs,rfl⟩
theorem vX (ss:List Str):xw (.lst (ss.map V.str)):=.inr ⟨_,rfl,fun i r z=>by
  cases ss with
  | nil=>cases z
  | cons x xs=>cases z⟩
theorem fg.ni {bs qs:List Str} {H:Hp} {d:Ds} {vs:List V} (h:fg bs qs H d vs):xw (.lst vs):=.inr ⟨vs,rfl,fun i r z=>by
  subst z
  cases d with
  | nil =>
    simp only [fg] at h
    cases h
  | cons d r =>
    obtain ⟨v,vr,e,h1,_⟩:=(by simpa only [fg] using h)
    cases e
    obtain ⟨t,e⟩:=h1.ref
    cases e⟩
mutual
def Dd.toOk (m:Int):Dd->Prop
  | .send to _ _ _ _ _=>0<=to/\to < m
  | .pull _ _ o=>o.toOk m
  | .ife _ t e=>t.toOk m/\e.toOk m
  | _=>True
def Ds.toOk (m:Int):Ds->Prop
  | .nil=>True
  | .cons d r=>d.toOk m/\r.toOk m
end
end My
namespace My
open PySem L2
theorem gB {H:Hp} {p lb:ae} {bs:List Str} (pu:eC H p) (hb:H lb=some (.lst (bs.map V.str))):lb≠p:=by
  obtain ⟨x,y,e⟩:=pu
  refine lU hb e fun z=>?_
  cases bs with
  | nil=>cases z
  | cons b r=>cases z
theorem kO {bs:List Str} {r:Int} (h0:0<=r) (h1:r < bs.length):∃ x,atI (bs.map V.str) r=some (.str x)/\x∈bs:=by
  obtain ⟨j,rfl⟩:∃ j:Nat,r=(j:Int):=⟨r.toNat,by omega⟩
  have lt:j < bs.length:=by omega
  exact ⟨bs[j],gy (by rw [cC,aA lt]; rfl),kf lt⟩
theorem iR.but {bs qs:List Str} {H H':Hp} {p:ae} {v:V} {f:Fm} (pu:eC H p) (b:But p H H') (h:iR bs qs H v f):iR bs qs H' v f:=h.mono fun t xs e=>eK.but pu b _ _ e (pJ xs)
section
variable {P:aW} {w:bO} {K:ag} {mg:Str->Option aa} {base:cE} {f fD fL fR fF:ae} {fd fdD fdL fdR fdF:cu} {bs qs:List Str}
seal L2.PS L2.PSs L2.PE L2.PA L2.PT L2.PW L2.PI L2.PG L2.PGs L2.PC
abbrev nLe:List Str:=["_law_purse_here","_law_boxes","_law_queues","_law_way"]
theorem scLe:bY nLe ["_law_purse_here","_law_boxes","_law_queues"] (aF gP):=⟨rfl,rfl,rfl,by decide +kernel,rfl,by decide +kernel,by decide +kernel⟩
def FF (bs qs:List Str):Sp:=fun vs H Q _=>∃ (p lb lq:ae),vs=[.ref p,.ref lb,.ref lq]/\eC H p/\H lb=some (.lst (bs.map V.str))/\H lq=some (.lst (qs.map V.str))/\bs.length<=9/\qs.length<=9 /\
  ∀ (v:V) (F:Fm) (H':Hp),iR bs qs H' v F->F.depth<=1->eC H' p->But p H H'->Q v H'
theorem Hk (D:Df K mg "_law_leaf" gP ["_law_purse_here","_law_boxes","_law_queues"] f fd) (DD:Df K mg "_law_draw" d9 ["_law_purse_here","_law_out_of"] fD fdD) (B:Bl mg):bX P w K mg base CX0 2 f fd ["_law_purse_here","_law_boxes","_law_queues"] (FF bs qs):=by
  have GD:bX P w K mg base CX0 1 fD fdD ["_law_purse_here","_law_out_of"] jX:=j2 DD
  refine D.F.ok scLe (fun vs H Q E h=>?_) (fun cdv A outer s H vs Q E r1 h=>?_)
  · obtain ⟨p,lb,lq,rfl,_⟩:=h
    rfl
  obtain ⟨p,lb,lq,rfl,pu,hb,hq,lbs,lqs,k⟩:=h
  refine ⟨_,ak (bF (i:=3) scLe.nd rfl (Or.inl rfl) (aS GD r1 (by rfl) DD.m DD.F.kp DD.b .nil bS (bH (pv 0) (dO aq aw))))
    (ak (cZ ((lL (bL eO (pv 3) aq (cg _)) (kx (bL mZ (cX (eF K (by rfl)) (by rfl) B.len cm (bH (pv 1) aw)) aq (cg _)))).pt) (aG (bR (eE (dO cG (yS (bN cU (pv 1) (aS GD r1 (by rfl) DD.m DD.F.kp DD.b .nil bS (bH (pv 0) (jy (cX (eF K (by rfl)) (by rfl) B.len cm (bH (pv 1) aw)) aw))) (fun _ _=>rfl)) aw))))) cq)
    (ak (cZ ((lL (bL eO (pv 3) aq (cg _)) (kx (bL mZ (cX (eF K (by rfl)) (by rfl) B.len cm (bH (pv 2) aw)) aq (cg _)))).pt) (aG (bR (eE (dO cG (yS (bN cU (pv 2) (aS GD r1 (by rfl) DD.m DD.F.kp DD.b .nil bS (bH (pv 0) (jy (cX (eF K (by rfl)) (by rfl) B.len cm (bH (pv 2) aw)) aw))) (fun _ _=>rfl)) aw))))) cq)
    (ak (cZ (bL eO (pv 3) aq (cg _)) (aG (bR (eE (dO cG (jy (aS GD r1 (by rfl) DD.m DD.F.kp DD.b .nil bS (bH (pv 0) (dO aq aw))) aw))))) cq)
    (ak (cZ (bL eO (pv 3) aq (cg _)) (aG (bR (eE (dO cG aw)))) cq)
    (ak (cZ (bL eO (aS GD r1 (by rfl) DD.m DD.F.kp DD.b .nil bS (bH (pv 0) (dO aq aw))) aq (cg _)) (aG (bR (eE (dO cG (nj (cL jc (aS GD r1 (by rfl) DD.m DD.F.kp DD.b .nil bS (bH (pv 0) (nj (cL gW (cL mC aq (cL mE aq aq)) aq) aw))) (cL mE aq aq)) aw))))) cq)
    (aG (bR (eE (dO cG (nj (cL jc (aS GD r1 (by rfl) DD.m DD.F.kp DD.b .nil bS (bH (pv 0) (dO aq aw))) aq) aw)))))))))),?_⟩
  have big:=fK
  have c15:wO 10 15:=⟨by decide,by decide,by decide⟩
  have e15:(10:Int) ^ (15:Int).toNat=1000000000000000:=by decide
  have w15:(10:Int) ^ 15=1000000000000000:=by decide
  refine cA (dG ?_)
  refine ⟨_,rfl,p,6,rfl,pu,by decide,by decide,fun way G w0 w1 puG bG=>?_⟩
  refine cj ?_
  dsimp only
  have hbG:=bG _ _ hb (gB pu hb)
  have hqG:=bG _ _ hq (gB pu hq)
  have ni:=gB puG hbG
  -- a new tuple behind draws
  have fin:∀ {G1:Hp} {xs:List V} {F:Fm},But p H G1->eC G1 p->(∀ t,upd G1 t (.tup xs) t=some (.tup xs)->G1 t=none->iR bs qs (upd G1 t (.tup xs)) (.ref t) F)->F.depth<=1->xs.length<=2->xs.length<=aJ/\∀ t,G1 t=none->Q (.ref t) (upd G1 t (.tup xs)):=fun {G1 xs F} b1 pu1 hF hd hl=>⟨by omega,fun t ht=>k _ F _ (hF t ao ht) hd (pu1.same (aR ht _)) (b1.same (aR ht _))⟩
  refine cA ?_
  refine mR (Det.and (pI rfl) fun _=>sM (K:=K) rfl hbG) (fun c=>?_) (fun _=>?_)
  · have c2:=(eX _ _ ▸ c).2
    have lpos:0 < bs.length:=by
      have:=of_decide_eq_true c2
      rw [ah] at this
      omega
    refine ⟨_,rfl,_,rfl,_,rfl,lb,_,rfl,.inl (SqL.of hbG),p,_,rfl,puG,by rw [ah]; omega,by rw [ah]; omega,fun r G1 r0 r1' pu1 b1=>?_⟩
    rw [ah] at r1'
    obtain ⟨x,hx,mx⟩:=kO r0 r1'
    refine ⟨lb,_,_,_,rfl,rfl,SqL.of (b1 _ _ hbG ni),hx,?_⟩
    exact fin (F:=.box x) (bG.trans b1) pu1 (fun t h _=>.box h mx) (by show 1<=1; decide) (by show 2<=2; decide)
  refine cA ?_
  refine mR (Det.and (pI rfl) fun _=>sM (K:=K) rfl hqG) (fun c=>?_) (fun _=>?_)
  · have c2:=(eX _ _ ▸ c).2
    have lpos:0 < qs.length:=by
      have:=of_decide_eq_true c2
      rw [ah] at this
      omega
    refine ⟨_,rfl,_,rfl,_,rfl,lq,_,rfl,.inl (SqL.of hqG),p,_,rfl,puG,by rw [ah]; omega,by rw [ah]; omega,fun r G1 r0 r1' pu1 b1=>?_⟩
    rw [ah] at r1'
    obtain ⟨x,hx,mx⟩:=kO r0 r1'
    refine ⟨lq,_,_,_,rfl,rfl,SqL.of (b1 _ _ hqG (gB puG hqG)),hx,?_⟩
    exact fin (F:=.long x) (bG.trans b1) pu1 (fun t h _=>.long h mx) (by show 1<=1; decide) (by show 2<=2; decide)
  refine cA ?_
  refine mR (pI rfl) (fun _=>?_) (fun _=>?_)
  · refine ⟨_,rfl,p,2,rfl,puG,by decide,by decide,fun r G1 r0 r1' pu1 b1=>?_⟩
    have er:r=if (decide (r=1))=true then 1 else 0:=by
      by_cases c:r=1
      · rw [decide_eq_true c,if_pos rfl]
        exact c
      · rw [decide_eq_false c,if_neg (by decide)]
        omega
    exact fin (F:=.got (decide (r=1))) (bG.trans b1) pu1 (fun t h _=>.got (by rw [h,<- er])) (by show 1<=1; decide) (by show 2<=2; decide)
  refine cA ?_
  refine mR (pI rfl) (fun _=>?_) (fun _=>?_)
  · exact fin (F:=.now) bG puG (fun t h _=>.now h) (by decide) (by show 1<=2; decide)
  refine cA ?_
  refine ⟨_,rfl,p,9,rfl,puG,by decide,by decide,fun r G1 r0 r1' pu1 b1=>⟨rfl,_,rfl,?_⟩⟩
  refine iK (fun _=>?_) (fun _=>?_)
  · refine ⟨_,rfl,_,_,rfl,rfl,c15,_,_,rfl,rfl,.inl ⟨by decide,by decide⟩,_,_,rfl,rfl,?_⟩
    rw [e15]
    refine ⟨p,_,rfl,pu1,by decide,by decide,fun r2 G2 r20 r21 pu2 b2=>⟨_,_,rfl,rfl,c15,_,_,rfl,rfl,?_⟩⟩
    rw [e15]
    exact fin (F:=.num (r2 - 1000000000000000)) ((bG.trans b1).trans b2) pu2 (fun t h _=>.num h (by unfold Wo; omega)) (by show 1<=1; decide) (by show 2<=2; decide)
  · refine ⟨_,rfl,p,7,rfl,pu1,by decide,by decide,fun r2 G2 r20 r21 pu2 b2=>⟨_,_,rfl,rfl,?_⟩⟩
    exact fin (F:=.num (r2 - 2)) ((bG.trans b1).trans b2) pu2 (fun t h _=>.num h (by unfold Wo; omega)) (by show 1<=1; decide) (by show 2<=2; decide)
abbrev nFo:List Str:=["_law_purse_here","_law_boxes","_law_queues","_law_deep","_law_word","_law_one"]
abbrev pFo:List Str:=["_law_purse_here","_law_boxes","_law_queues","_law_deep"]
theorem Ja:bY nFo pFo (aF fJ):=⟨rfl,rfl,rfl,by decide +kernel,rfl,by decide +kernel,by decide +kernel⟩
def Do (bs qs:List Str) (n:Nat):Sp:=fun vs H Q _=>∃ (p lb lq:ae) (d:Nat),vs=[.ref p,.ref lb,.ref lq,.int d]/\d < n/\eC H p/\H lb=some (.lst (bs.map V.str))/\H lq=some (.lst (qs.map V.str))/\bs.length<=9/\qs.length<=9 /\
  ∀ (v:V) (F:Fm) (H':Hp),iR bs qs H' v F->F.depth<=d + 1->eC H' p->But p H H'->Q v H'
def vY:List Str:=["plus","less","times","part","rest","below","same"]
theorem Dp {r:Int} (h0:0<=r) (h1:r < 7):∃ x,atI (vY.map V.str) r=some (.str x)/\x∈zD:=by
  obtain ⟨x,hx,m⟩:=kO (bs:=vY) h0 h1
  refine ⟨x,hx,?_⟩
  have:∀ y∈vY,y∈zD:=by decide +kernel
  exact this x m
theorem FG {n:Nat} (D:Df K mg "_law_formula" fJ pFo f fd) (DL:Df K mg "_law_leaf" gP ["_law_purse_here","_law_boxes","_law_queues"] fL fdL) (DD:Df K mg "_law_draw" d9 ["_law_purse_here","_law_out_of"] fD fdD) (B:Bl mg) (GR:bX P w K mg base CX0 (n + 3) f fd pFo (Do bs qs n)) :
    bX P w K mg base CX0 (n + 4) f fd pFo (Do bs qs (n + 1)):=by
  have GD:bX P w K mg base CX0 1 fD fdD ["_law_purse_here","_law_out_of"] jX:=j2 DD
  have GL:bX P w K mg base CX0 2 fL fdL ["_law_purse_here","_law_boxes","_law_queues"] (FF bs qs):=Hk DL DD B
  refine D.F.ok Ja (fun vs H Q E h=>?_) (fun cdv A outer s H vs Q E hr h=>?_)
  · obtain ⟨p,lb,lq,d,rfl,_⟩:=h
    rfl
  obtain ⟨p,lb,lq,d,rfl,dn,pu,hb,hq,lbs,lqs,k⟩:=h
  have r1:eA 1 _:=hr.mono (by omega)
  have r2:eA 2 _:=hr.mono (by omega)
  refine ⟨_,ak (cZ ((za (bL eO (pv 3) aq (cg _)) (xU (bL mZ (aS GD r1 (by rfl) DD.m DD.F.kp DD.b .nil bS (bH (pv 0) (dO aq aw))) aq (cg _)))).pt) (aG (bR (aS GL r2 (by rfl) DL.m DL.F.kp DL.b .nil bS (bH (pv 0) (bH (pv 1) (bH (pv 2) aw)))))) cq)
    (ak (bF (i:=4) Ja.nd rfl (Or.inl rfl) (bN cU (fy (dO cG (dO cG (dO cG (dO cG (dO cG (dO cG (dO cG aw)))))))) (aS GD r1 (by rfl) DD.m DD.F.kp DD.b .nil bS (bH (pv 0) (dO aq aw))) (fun _ _=>rfl)))
    (ak (bF (i:=5) Ja.nd rfl (Or.inl rfl) (aS GR hr (by rfl) D.m D.F.kp D.b .nil bS (bH (pv 0) (bH (pv 1) (bH (pv 2) (nj (cL jc (pv 3) aq) aw))))))
    (aG (bR (eE (bH (pv 4) (bH (pv 5) (jy (aS GR hr (by rfl) D.m D.F.kp D.b .nil bS (bH (pv 0) (bH (pv 1) (bH (pv 2) (nj (cL jc (pv 3) aq) aw))))) aw)))))))),?_⟩
  have big:=fK
  have leaf:∀ {G:Hp},eC G p->But p H G->FF bs qs [.ref p,.ref lb,.ref lq] G Q E0:=fun {G} puG bG=>⟨p,lb,lq,rfl,puG,bG _ _ hb (gB pu hb),bG _ _ hq (gB pu hq),lbs,lqs,fun v F H' hF hd pu' b'=>k v F H' hF (by omega) pu' (bG.trans b')⟩
  refine cA (Hj ?_)
  refine ⟨_,rfl,rfl,_,rfl,?_⟩
  refine iK (fun c=>?_) (fun c=>?_)
  · exact iJ ⟨_,rfl,_,rfl,_,rfl,leaf pu (But.refl _ _)⟩
  have d0:¬ d=0:=fun z=>c (by rw [z]; rfl)
  refine ⟨_,rfl,p,3,rfl,pu,by decide,by decide,fun r G r0 r1' puG bG=>⟨_,_,rfl,rfl,_,rfl,?_⟩⟩
  refine iK (fun _=>?_) (fun _=>?_)
  · exact ⟨_,rfl,_,rfl,_,rfl,leaf puG bG⟩
  have hbG:=bG _ _ hb (gB pu hb)
  have hqG:=bG _ _ hq (gB pu hq)
  refine kN ?_
  dsimp only
  refine cA (dG ?_)
  refine ⟨by show 7<=aJ; omega,fun l hl=>?_⟩
  have sl:=aR hl (.lst (vY.map V.str))
  refine ⟨_,rfl,p,7,rfl,puG.same sl,by decide,by decide,fun r2 G2 r20 r21 pu2 b2=>?_⟩
  obtain ⟨x,hx,mx⟩:=Dp r20 r21
  have b02:But p H G2:=(bG.same sl).trans b2
  refine ⟨l,_,_,_,rfl,rfl,SqL.of (b2 _ _ ao (gB (puG.same sl) ao)),hx,?_⟩
  refine cj ?_
  dsimp only
  refine cA (dG ?_)
  have em:(d:Int) - 1=((d - 1:Nat):Int):=by omega
  refine ⟨_,rfl,_,rfl,_,rfl,_,rfl,_,_,rfl,rfl,p,lb,lq,d - 1,(by show [V.ref p,V.ref lb,V.ref lq,V.int ((d:Int) - 1)]=_; rw [em]),by omega,pu2,b02 _ _ hb (gB pu hb),b02 _ _ hq (gB pu hq),lbs,lqs,fun v1 F1 G3 hF1 d1 pu3 b3=>?_⟩
  refine cj ?_
  dsimp only
  have b03:=b02.trans b3
  refine uY (tup_i ?_)
  refine ⟨_,rfl,_,rfl,_,rfl,_,rfl,_,rfl,_,rfl,_,_,rfl,rfl,p,lb,lq,d - 1,(by show [V.ref p,V.ref lb,V.ref lq,V.int ((d:Int) - 1)]=_; rw [em]),by omega,pu3,b03 _ _ hb (gB pu hb),b03 _ _ hq (gB pu hq),lbs,lqs,fun v2 F2 G4 hF2 d2 pu4 b4=>⟨by show 3<=aJ; omega,fun t ht=>?_⟩⟩
  have st_:=aR ht (.tup [.str x,v1,v2])
  exact k _ (.two x F1 F2) _ (.two ao mx ((hF1.but pu3 b4).same st_) (hF2.same st_)) (by show max F1.depth F2.depth + 1<=d + 1; omega) (pu4.same st_) ((b03.trans b4).same st_)
theorem Dq (D:Df K mg "_law_formula" fJ pFo f fd) (DL:Df K mg "_law_leaf" gP ["_law_purse_here","_law_boxes","_law_queues"] fL fdL) (DD:Df K mg "_law_draw" d9 ["_law_purse_here","_law_out_of"] fD fdD) (B:Bl mg):∀ n:Nat,bX P w K mg base CX0 (n + 3) f fd pFo (Do bs qs n)
  | 0=>⟨fun vs H Q E h=>by
      obtain ⟨p,lb,lq,d,_,h,_⟩:=h
      omega,fun A outer s H args us vs Q E _ _ _ _ h=>by
      obtain ⟨p,lb,lq,d,_,h,_⟩:=h
      omega⟩
  | n + 1=>FG D DL DD B (Dq D DL DD B n)
end
end My
namespace My
open PySem L2
def Tk (H H':Hp):Prop:=∀ (t:ae) (xs:List V),H t=some (.tup xs)->H' t=some (.tup xs)
def Nk (H H' H2:Hp):Prop:=∀ (l:ae) (xs:List V),H l=none->xw (.lst xs)->H' l=some (.lst xs)->H2 l=some (.lst xs)
def OwD (bs qs:List Str) (H H':Hp) (d:Dd) (v:V):Prop:=∀ H2,Tk H' H2->Nk H H' H2->eJ bs qs H2 d v
def OwS (bs qs:List Str) (H H':Hp) (d:Ds) (vs:List V):Prop:=∀ H2,Tk H' H2->Nk H H' H2->fg bs qs H2 d vs
theorem Tk.refl (H:Hp):Tk H H:=fun _ _ e=>e
theorem Nk.refl (H H':Hp):Nk H H' H':=fun _ _ _ _ e=>e
theorem OwS.now {bs qs:List Str} {H H':Hp} {d:Ds} {v:List V} (h:OwS bs qs H H' d v):fg bs qs H' d v:=h H' (Tk.refl _) (Nk.refl _ _)
theorem eK.tk {H H':Hp} (k:eK H H'):Tk H H':=fun t xs e=>k _ _ e (pJ xs)
theorem eK.nk {H H1 H' H2:Hp} (k:eK H' H1) (n:Nk H H1 H2):Nk H H' H2:=fun l xs h i e=>n l xs h i (k _ _ e i)
theorem OwS.keepI {bs qs:List Str} {H H' H1:Hp} {d:Ds} {v:List V} (h:OwS bs qs H H' d v) (k:eK H' H1):OwS bs qs H H1 d v:=fun H2 t n=>h H2 (fun a xs e=>t a xs (k.tk a xs e)) (k.nk n)
def Dm (H G:Hp):Prop:=∀ a,G a=none->H a=none
theorem Dm.same {H G:Hp} (s:bT H G):Dm H G:=fun a n=>none_of s n
theorem Dm.trans {H G G':Hp} (a:Dm H G) (b:Dm G G'):Dm H G':=fun x n=>a x (b x n)
theorem OwD.base {bs qs:List Str} {H H0 H':Hp} {d:Dd} {v:V} (h:OwD bs qs H H' d v) (s:Dm H0 H):OwD bs qs H0 H' d v:=fun H2 t n=>h H2 t fun l xs hl i e=>n l xs (s l hl) i e
theorem OwS.base {bs qs:List Str} {H H0 H':Hp} {d:Ds} {v:List V} (h:OwS bs qs H H' d v) (s:Dm H0 H):OwS bs qs H0 H' d v:=fun H2 t n=>h H2 t fun l xs hl i e=>n l xs (s l hl) i e
theorem OwD.old {bs qs:List Str} {H H':Hp} {d:Dd} {v:V} {a:ae} {o:HO} (h:OwD bs qs H H' d v) (ol:H a≠none) (nt:∀ xs,H' a≠some (.tup xs)):OwD bs qs H (upd H' a o) d v:=fun H2 t n=>h H2 (fun b xs e=>t b xs (by rw [aV (fun z=>nt xs (by rw [<- z]; exact e))]; exact e)) fun l xs hl i e=>n l xs hl i (by rw [aV (fun z=>ol (by rw [<- z]; exact hl))]; exact e)
theorem OwS.old {bs qs:List Str} {H H':Hp} {d:Ds} {v:List V} {a:ae} {o:HO} (h:OwS bs qs H H' d v) (ol:H a≠none) (nt:∀ xs,H' a≠some (.tup xs)):OwS bs qs H (upd H' a o) d v:=fun H2 t n=>h H2 (fun b xs e=>t b xs (by rw [aV (fun z=>nt xs (by rw [<- z]; exact e))]; exact e)) fun l xs hl i e=>n l xs hl i (by rw [aV (fun z=>ol (by rw [<- z]; exact hl))]; exact e)
theorem FmI.tk {bs qs:List Str} {H H2:Hp} {v:V} {F:Fm} (h:FmI bs qs H v F) (t:Tk H H2):FmI bs qs H2 v F:=⟨h.1.mono t,h.2⟩
section
variable {bs qs:List Str} {H H':Hp} {t:ae} {u u1 u2:V} {F F1 F2:Fm} {x q:Str}
theorem Jb (h:H' t=some (.tup [.str "put",.str x,u])) (m:x∈bs) (f:FmI bs qs H' u F):OwD bs qs H H' (.put x F) (.ref t):=fun H2 k _=>by simp only [eJ]; exact ⟨t,u,rfl,k _ _ h,m,f.tk k⟩
theorem FH (h:H' t=some (.tup [.str "push",.str q,u])) (m:q∈qs) (f:FmI bs qs H' u F):OwD bs qs H H' (.push q F) (.ref t):=fun H2 k _=>by simp only [eJ]; exact ⟨t,u,rfl,k _ _ h,m,f.tk k⟩
theorem FJ (h:H' t=some (.tup [.str "draw",.str x,u])) (m:x∈bs) (f:FmI bs qs H' u F):OwD bs qs H H' (.draw x F) (.ref t):=fun H2 k _=>by simp only [eJ]; exact ⟨t,u,rfl,k _ _ h,m,f.tk k⟩
theorem Jc (h:H' t=some (.tup [.str "end"])):OwD bs qs H H' .fin (.ref t):=fun H2 k _=>by simp only [eJ]; exact ⟨t,rfl,k _ _ h⟩
theorem FK {to rk:Int} {sg:Str} (h:H' t=some (.tup [.str "send",.int to,.str sg,u,.int rk,u1,u2])) (f:FmI bs qs H' u F) (f1:FmI bs qs H' u1 F1) (f2:FmI bs qs H' u2 F2):OwD bs qs H H' (.send to sg F rk F1 F2) (.ref t):=fun H2 k _=>by simp only [eJ]; exact ⟨t,u,u1,u2,rfl,k _ _ h,f.tk k,f1.tk k,f2.tk k⟩
theorem FL {l:ae} {xs:List V} {d:Ds} (h:H' t=some (.tup [.str "pull",.str q,.str x,.ref l])) (mq:q∈qs) (mx:x∈bs) (hl:H l=none) (e:H' l=some (.lst xs)) (z:xs.length < 1000) (D:OwS bs qs H H' d xs):OwD bs qs H H' (.pull q x d) (.ref t):=fun H2 k n=>by
  simp only [eJ]
  exact ⟨t,.ref l,rfl,k _ _ h,mq,mx,l,xs,rfl,n l xs hl D.now.ni e,z,D H2 k n⟩
theorem Jd {l l':ae} {xs ys:List V} {d d':Ds} (h:H' t=some (.tup [.str "if",u,.ref l,.ref l'])) (f:FmI bs qs H' u F) (hl:H l=none) (e:H' l=some (.lst xs)) (z:xs.length < 1000) (D:OwS bs qs H H' d xs) (hl':H l'=none) (e':H' l'=some (.lst ys)) (z':ys.length < 1000) (D':OwS bs qs H H' d' ys):OwD bs qs H H' (.ife F d d') (.ref t):=fun H2 k n=>by
  simp only [eJ]
  exact ⟨t,u,.ref l,.ref l',rfl,k _ _ h,f.tk k,⟨l,xs,rfl,n l xs hl D.now.ni e,z,D H2 k n⟩,l',ys,rfl,n l' ys hl' D'.now.ni e',z',D' H2 k n⟩
theorem FM:OwS bs qs H H' .nil []:=fun _ _ _=>by simp only [fg]
end
end My
namespace My
open PySem L2
theorem Dr {X:Cx} {st:dP} {t:TS} (t':TS) (h:PS X st t) (k:∀ D σ H,t' D σ H->t D σ H):PS X st t':=fun pins s σ H D I q=>h pins s σ H D I (k D σ H q)
theorem AY {n:Int} (h:-1000000<=n/\n<=1000000):Wo n:=by
  have e:(10:Int) ^ 15=1000000000000000:=by decide
  unfold Wo
  omega
structure Nms (H:Hp) (lb lq ls:ae) (bs qs sgs:List Str):Prop where
  hb:H lb=some (.lst (bs.map V.str))
  hq:H lq=some (.lst (qs.map V.str))
  hs:H ls=some (.lst (sgs.map V.str))
  lb9:bs.length<=9
  lq9:qs.length<=9
  ls9:sgs.length<=9
  ne:0 < sgs.length
theorem Nms.keepI {H H':Hp} {lb lq ls:ae} {bs qs sgs:List Str} (k:eK H H') (h:Nms H lb lq ls bs qs sgs):Nms H' lb lq ls bs qs sgs:=
  ⟨k _ _ h.hb (vX _),k _ _ h.hq (vX _),k _ _ h.hs (vX _),h.lb9,h.lq9,h.ls9,h.ne⟩
def spanT (bs qs:List Str):TS:=fun D σ H=>∃ (p lb lq:ae) (v0:V) (F0:Fm),σ[0]?=some (some (.ref p))/\σ[1]?=some (some (.ref lb))/\σ[2]?=some (some (.ref lq))/\σ[5]?=some (some v0)/\eC H p/\H lb=some (.lst (bs.map V.str))/\H lq=some (.lst (qs.map V.str))/\bs.length<=9/\qs.length<=9/\iR bs qs H v0 F0/\F0.depth<=2 /\
  ∀ (v:V) (F:Fm) (H':Hp),iR bs qs H' v F->F.depth<=2->eC H' p->But p H H'->D.nx (σ.set 5 (some v)) H'
theorem AZ {α:Type} {xs:List α} {i:Nat} {x:α} (h:xs[i]?=some x):xs.set i x=xs:=by
  obtain ⟨lt,e⟩:=aB.mp h
  rw [<- e]
  exact List.set_getElem_self lt
def endT:TS:=fun D σ H=>∃ (p:ae) (w:Int),σ[0]?=some (some (.ref p))/\σ[7]?=some (some (.int w))/\eC H p/\(∀ (H':Hp) (t:ae),eC H' p->But p H H'->H' t=none->D.rt (.ref t) (upd H' t (.tup [.str "end"])))/\∀ H',eC H' p->But p H H'->D.nx σ H'
section
variable {P:aW} {w:bO} {K:ag} {mg:Str->Option aa} {base:cE} {f fD fL fF fS fE f1:ae} {fd fdD fdL fdF fdS fdE fd1:cu} {bs qs sgs:List Str}
seal L2.PS L2.PSs L2.PE L2.PA L2.PT L2.PW L2.PI L2.PG L2.PGs L2.PC
abbrev nSnd:List Str:=["_law_purse_here","_law_boxes","_law_queues","_law_signs_here","_law_many","_law_span","_law_rank","_law_one","_law_other"]
abbrev A0:List Str:=["_law_purse_here","_law_boxes","_law_queues","_law_signs_here","_law_many"]
theorem u0:bY nSnd A0 (aF jf):=⟨rfl,rfl,rfl,by decide +kernel,rfl,by decide +kernel,by decide +kernel⟩
def Hl (bs qs sgs:List Str):Sp:=fun vs H Q _=>∃ (p lb lq ls:ae) (m:Int),vs=[.ref p,.ref lb,.ref lq,.ref ls,.int m]/\eC H p/\Nms H lb lq ls bs qs sgs/\0 < m/\m < 1000 /\
  ∀ (v:V) (d:Dd) (H':Hp),OwD bs qs H H' d v->d.toOk m->d.deep=0->d.size=1->eC H' p->But p H H'->Q v H'
theorem Je (D:Df K mg "_law_send" jf A0 f fd) (DF:Df K mg "_law_formula" fJ pFo fF fdF) (DL:Df K mg "_law_leaf" gP ["_law_purse_here","_law_boxes","_law_queues"] fL fdL) (DD:Df K mg "_law_draw" d9 ["_law_purse_here","_law_out_of"] fD fdD) (B:Bl mg):bX P w K mg base CX0 6 f fd A0 (Hl bs qs sgs):=by
  have GD:bX P w K mg base CX0 1 fD fdD ["_law_purse_here","_law_out_of"] jX:=j2 DD
  have GL:bX P w K mg base CX0 2 fL fdL ["_law_purse_here","_law_boxes","_law_queues"] (FF bs qs):=Hk DL DD B
  have GF:bX P w K mg base CX0 5 fF fdF pFo (Do bs qs 2):=Dq DF DL DD B 2
  refine D.F.ok u0 (fun vs H Q E h=>?_) (fun cdv A outer s H vs Q E rF h=>?_)
  · obtain ⟨p,lb,lq,ls,m,rfl,_⟩:=h
    rfl
  obtain ⟨p,lb,lq,ls,m,rfl,pu,N,m0,m1,k⟩:=h
  have r1:eA 1 _:=rF.mono (by omega)
  have r2:eA 2 _:=rF.mono (by omega)
  refine ⟨_,ak (bF (i:=5) u0.nd rfl (Or.inl rfl) (eE (dO cG (nj (cL gW aq (aS GD r1 (by rfl) DD.m DD.F.kp DD.b .nil bS (bH (pv 0) (dO aq aw)))) aw))))
    (ak (Dr (spanT bs qs) (cZ (bL eO (aS GD r1 (by rfl) DD.m DD.F.kp DD.b .nil bS (bH (pv 0) (dO aq aw))) aq (cg _)) (aG (bF (i:=5) u0.nd rfl (Or.inl rfl) (aS GF rF (by rfl) DF.m DF.F.kp DF.b .nil bS (bH (pv 0) (bH (pv 1) (bH (pv 2) (dO aq aw))))))) cq) (fun D σ H q=>by
      obtain ⟨p,lb,lq,v0,F0,h0,h1,h2,h5,pu,hb,hq,lb9,lq9,hF,dF,k⟩:=q
      refine ⟨_,h0,p,8,rfl,pu,by decide,by decide,fun r G r0 r1' puG bG=>⟨rfl,_,rfl,?_⟩⟩
      refine iK (fun _=>?_) (fun _=>?_)
      · exact ⟨_,h0,_,h1,_,h2,p,lb,lq,1,rfl,by decide,puG,bG _ _ hb (gB pu hb),bG _ _ hq (gB pu hq),lb9,lq9,fun v F H' hF' dF' pu' b'=>k v F H' hF' dF' pu' (bG.trans b')⟩
      · have z:=k v0 F0 G (hF.but pu bG) dF puG bG
        rw [AZ h5] at z
        exact z))
    (ak (bF (i:=6) u0.nd rfl (Or.inl rfl) (bN cU (fy (dO aq (dO aq (jy (aS GD r1 (by rfl) DD.m DD.F.kp DD.b .nil bS (bH (pv 0) (dO aq aw))) aw)))) (aS GD r1 (by rfl) DD.m DD.F.kp DD.b .nil bS (bH (pv 0) (dO aq aw))) (fun _ _=>rfl)))
    (ak (bF (i:=7) u0.nd rfl (Or.inl rfl) (aS GF rF (by rfl) DF.m DF.F.kp DF.b .nil bS (bH (pv 0) (bH (pv 1) (bH (pv 2) (dO aq aw))))))
    (ak (bF (i:=8) u0.nd rfl (Or.inl rfl) (aS GL r2 (by rfl) DL.m DL.F.kp DL.b .nil bS (bH (pv 0) (bH (pv 1) (bH (pv 2) aw)))))
    (aG (bR (eE (dO cG (jy (aS GD r1 (by rfl) DD.m DD.F.kp DD.b .nil bS (bH (pv 0) (bH (pv 4) aw))) (yS (bN cU (pv 3) (aS GD r1 (by rfl) DD.m DD.F.kp DD.b .nil bS (bH (pv 0) (jy (cX (eF K (by rfl)) (by rfl) B.len cm (bH (pv 3) aw)) aw))) (fun _ _=>rfl)) (bH (pv 5) (bH (pv 6) (bH (pv 7) (bH (pv 8) aw)))))))))))))),?_⟩
  have big:=fK
  refine cA (dG ?_)
  refine ⟨_,rfl,p,4,rfl,pu,by decide,by decide,fun x G x0 x1 puG bG=>⟨_,_,rfl,rfl,lt2,fun t ht=>?_⟩⟩
  have st_:=aR ht (.tup [.str "number",.int (1 + x)])
  refine cj ?_
  dsimp only
  have kG:=(eK.but pu bG).trans (eK.same st_)
  have NG:=N.keepI kG
  refine cA ?_
  refine ⟨p,lb,lq,.ref t,.num (1 + x),rfl,rfl,rfl,rfl,puG.same st_,NG.hb,NG.hq,N.lb9,N.lq9,.num ao (AY ⟨by omega,by omega⟩),by show 1<=2; decide,fun v5 F5 G1 hF5 d5 pu1 b1=>?_⟩
  dsimp only
  have b01:But p H G1:=(bG.same st_).trans b1
  have N1:=N.keepI (eK.but pu b01)
  refine cA (dG ?_)
  refine ⟨_,rfl,p,10,rfl,pu1,by decide,by decide,fun y G2 y0 y1 pu2 b2=>⟨by show 3<=aJ; omega,fun l hl=>?_⟩⟩
  have sl:=aR hl (.lst [.int 0,.int 1,.int y])
  have nlp:l≠p:=by
    obtain ⟨a,b,e⟩:=pu2
    exact (aH e hl).symm
  refine ⟨_,rfl,p,3,rfl,pu2.same sl,by decide,by decide,fun z G3 z0 z1 pu3 b3=>?_⟩
  obtain ⟨rk,hrk⟩:∃ rk:Int,atI [V.int 0,.int 1,.int y] z=some (.int rk):=by
    obtain ⟨j,rfl⟩:∃ j:Nat,z=(j:Int):=⟨z.toNat,by omega⟩
    match j,z1 with
    | 0,_=>exact ⟨0,rfl⟩
    | 1,_=>exact ⟨1,rfl⟩
    | 2,_=>exact ⟨y,rfl⟩
    | j + 3,h=>exact absurd h (by omega)
  refine ⟨l,_,_,_,rfl,rfl,SqL.of (b3 _ _ ao nlp),hrk,?_⟩
  refine cj ?_
  dsimp only
  have b03:But p H G3:=((b01.trans b2).same sl).trans b3
  have b13:But p G1 G3:=(b2.same sl).trans b3
  have N3:=N.keepI (eK.but pu b03)
  refine cA (dG ?_)
  refine ⟨_,rfl,_,rfl,_,rfl,p,lb,lq,1,rfl,by decide,pu3,N3.hb,N3.hq,N.lb9,N.lq9,fun v7 F7 G4 hF7 d7 pu4 b4=>?_⟩
  refine cj ?_
  dsimp only
  have b04:=b03.trans b4
  have N4:=N.keepI (eK.but pu b04)
  refine cA (dG ?_)
  refine ⟨_,rfl,_,rfl,_,rfl,p,lb,lq,rfl,pu4,N4.hb,N4.hq,N.lb9,N.lq9,fun v8 F8 G5 hF8 d8 pu5 b5=>?_⟩
  refine cj ?_
  dsimp only
  have b05:=b04.trans b5
  have N5:=N.keepI (eK.but pu b05)
  refine ⟨_,rfl,_,rfl,p,m,rfl,pu5,m0,by omega,fun to G6 to0 to1 pu6 b6=>?_⟩
  have N6:=N5.keepI (eK.but pu5 b6)
  refine ⟨_,rfl,_,rfl,_,rfl,ls,_,rfl,.inl (SqL.of N6.hs),p,_,rfl,pu6,by rw [ah]; have:=N.ne; omega,by rw [ah]; have:=N.ls9; omega,fun r G7 r0 r1' pu7 b7=>?_⟩
  rw [ah] at r1'
  obtain ⟨sg,hsg,_⟩:=kO r0 r1'
  have N7:=N6.keepI (eK.but pu6 b7)
  refine ⟨ls,_,_,_,rfl,rfl,SqL.of N7.hs,hsg,_,rfl,_,rfl,_,rfl,_,rfl,by show 7<=aJ; omega,fun tt htt=>?_⟩
  have stt:=aR htt (.tup [.str "send",.int to,.str sg,v5,.int rk,v7,v8])
  have b57:But p G5 G7:=b6.trans b7
  have f5:=(((hF5.but pu1 b13).but pu3 (b4.trans b5)).but pu5 b57).same stt
  have f7:=((hF7.but pu4 b5).but pu5 b57).same stt
  have f8:=(hF8.but pu5 b57).same stt
  refine k _ (.send to sg F5 rk F7 F8) _ ?_ ⟨to0,to1⟩ rfl rfl (pu7.same stt) ((b05.trans b57).same stt)
  exact FK ao ⟨f5,by omega⟩ ⟨f7,by omega⟩ ⟨f8,by omega⟩
def ddz:Nat->Nat
  | 0=>1
  | n + 1=>1 + 6 * ddz n
abbrev pDe:List Str:=["_law_purse_here","_law_boxes","_law_queues","_law_signs_here","_law_many","_law_left","_law_deep"]
abbrev nDe:List Str:=["_law_purse_here","_law_boxes","_law_queues","_law_signs_here","_law_many","_law_left","_law_deep","_law_way","_law_ones","_law_others","_law_queue","_law_box"]
abbrev nDs:List Str:=["_law_purse_here","_law_boxes","_law_queues","_law_signs_here","_law_many","_law_left","_law_deep","_law_deeds_here","_law_k"]
theorem tP:bY nDe pDe (aF jg):=⟨rfl,rfl,rfl,by decide +kernel,rfl,by decide +kernel,by decide +kernel⟩
theorem Dt:bY nDs pDe (aF g9):=⟨rfl,rfl,rfl,by decide +kernel,rfl,by decide +kernel,by decide +kernel⟩
structure Lf (H:Hp) (p lf:ae):Prop where
  pu:eC H p
  hl:∃ k:Int,H lf=some (.lst [.int k])
theorem Lf.int {H:Hp} {p lf:ae} (h:Lf H p lf):∀ a∈[p,lf],∃ (i:Int) (r:List V),H a=some (.lst (.int i :: r)):=fun a m=>by
  obtain ⟨x,y,e⟩:=h.pu
  obtain ⟨z,e'⟩:=h.hl
  rcases ax.mp m with rfl | m
  · exact ⟨x,_,e⟩
  · rw [aM.mp m]
    exact ⟨z,_,e'⟩
theorem Lf.ne {H:Hp} {p lf:ae} (h:Lf H p lf):lf≠p:=by
  obtain ⟨x,y,e⟩:=h.pu
  obtain ⟨z,e'⟩:=h.hl
  exact lU e' e (by intro q; cases q)
theorem Lf.but {H H':Hp} {p lf:ae} (h:Lf H p lf) (b:But p H H') (pu:eC H' p):Lf H' p lf:=by
  obtain ⟨z,e'⟩:=h.hl
  exact ⟨pu,z,b _ _ e' h.ne⟩
theorem Lf.same {H H':Hp} {p lf:ae} (h:Lf H p lf) (s:bT H H'):Lf H' p lf:=by
  obtain ⟨z,e'⟩:=h.hl
  exact ⟨h.pu.same s,z,s _ _ e'⟩
def spDe (bs qs sgs:List Str) (n:Nat):Sp:=fun vs H Q _=>∃ (p lb lq ls lf:ae) (m:Int) (d:Nat),vs=[.ref p,.ref lb,.ref lq,.ref ls,.int m,.ref lf,.int d]/\d < n/\Lf H p lf/\Nms H lb lq ls bs qs sgs/\0 < m/\m < 1000 /\
  ∀ (v:V) (dd:Dd) (H':Hp),OwD bs qs H H' dd v->dd.toOk m->dd.deep<=d->dd.size<=ddz d->Lf H' p lf->Kp [p,lf] H H'->Q v H'
def Du (bs qs sgs:List Str) (n:Nat):Sp:=fun vs H Q _=>∃ (p lb lq ls lf:ae) (m:Int) (d:Nat),vs=[.ref p,.ref lb,.ref lq,.ref ls,.int m,.ref lf,.int d]/\d < n/\Lf H p lf/\Nms H lb lq ls bs qs sgs/\0 < m/\m < 1000 /\
  ∀ (l:ae) (xs:List V) (ds:Ds) (H':Hp),H l=none->H' l=some (.lst xs)->xs.length < 1000->OwS bs qs H H' ds xs->ds.toOk m->ds.deep<=d->ds.size<=3 * ddz d->Lf H' p lf->Kp [p,lf] H H'->Q (.ref l) H'
def oF:Ds->Dd->Ds
  | .nil,d=>.cons d .nil
  | .cons a r,d=>.cons a (oF r d)
theorem zM {bs qs:List Str} {H:Hp} {d:Dd} {v:V} (hd:eJ bs qs H d v):∀ (ds:Ds) (xs:List V),fg bs qs H ds xs->fg bs qs H (oF ds d) (xs++[v])
  | .nil,xs,h=>by
    have e:xs=[]:=by simpa only [fg] using h
    subst e
    unfold oF
    simp only [fg]
    exact ⟨v,[],rfl,hd,rfl⟩
  | .cons a r,xs,h=>by
    obtain ⟨u,ur,rfl,h1,h2⟩:=(by simpa only [fg] using h)
    unfold oF
    simp only [fg]
    exact ⟨u,ur++[v],rfl,h1,zM hd r ur h2⟩
theorem zN {m:Int} {d:Dd} (hd:d.toOk m):∀ ds:Ds,ds.toOk m->(oF ds d).toOk m
  | .nil,_=>⟨hd,trivial⟩
  | .cons a r,h=>⟨h.1,zN hd r h.2⟩
theorem u7 (d:Dd):∀ ds:Ds,(oF ds d).deep=max ds.deep d.deep
  | .nil=>by
    show max d.deep 0=max 0 d.deep
    omega
  | .cons a r=>by
    show max a.deep (oF r d).deep=max (max a.deep r.deep) d.deep
    rw [u7 d r]
    omega
theorem u9 (d:Dd):∀ ds:Ds,(oF ds d).size=ds.size + d.size
  | .nil=>by
    show d.size + 0=0 + d.size
    omega
  | .cons a r=>by
    show a.size + (oF r d).size=a.size + r.size + d.size
    rw [u9 d r]
    omega
end
end My
namespace My
open PySem L2
theorem Dv {bs qs:List Str} {H H':Hp} {ds:Ds} {xs:List V} {d:Dd} {v:V} (a:OwS bs qs H H' ds xs) (b:OwD bs qs H H' d v):OwS bs qs H H' (oF ds d) (xs++[v]):=fun H2 k n=>zM (b H2 k n) ds xs (a H2 k n)
theorem FN:∀ n,1<=ddz n
  | 0=>aL _
  | n + 1=>by
    show 1<=1 + 6 * ddz n
    omega
theorem Kp.dm {own:List ae} {H G:Hp} (k:Kp own H G) (h:∀ a∈own,∃ o,G a=some o):Dm H G:=fun a n=>by
  cases e:H a with
  | none=>rfl
  | some o =>
    by_cases m:a∈own
    · obtain ⟨u,q⟩:=h a m
      rw [q] at n
      cases n
    · rw [k a o e m] at n
      cases n
theorem Lf.there {H:Hp} {p lf:ae} (h:Lf H p lf):∀ a∈[p,lf],∃ o,H a=some o:=fun a m=>by
  obtain ⟨i,r,e⟩:=h.int a m
  exact ⟨_,e⟩
section
variable {P:aW} {w:bO} {K:ag} {mg:Str->Option aa} {base:cE} {f fD fL fF fS fE f1:ae} {fd fdD fdL fdF fdS fdE fd1:cu} {bs qs sgs:List Str}
seal L2.PS L2.PSs L2.PE L2.PA L2.PT L2.PW L2.PI L2.PG L2.PGs L2.PC
theorem FO {n kk:Nat} (hk:7<=kk) (D:Df K mg "_law_deed" jg pDe f fd) (DS:Df K mg "_law_deeds" g9 pDe fS fdS) (GS:bX P w K mg base CX0 kk fS fdS pDe (Du bs qs sgs n)) (DE:Df K mg "_law_send" jf A0 fE fdE) (DF:Df K mg "_law_formula" fJ pFo fF fdF) (DL:Df K mg "_law_leaf" gP ["_law_purse_here","_law_boxes","_law_queues"] fL fdL) (DD:Df K mg "_law_draw" d9 ["_law_purse_here","_law_out_of"] fD fdD) (B:Bl mg) :
    bX P w K mg base CX0 (kk + 1) f fd pDe (spDe bs qs sgs (n + 1)):=by
  have GD:bX P w K mg base CX0 1 fD fdD ["_law_purse_here","_law_out_of"] jX:=j2 DD
  have GF:bX P w K mg base CX0 7 fF fdF pFo (Do bs qs 4):=Dq DF DL DD B 4
  have GE:bX P w K mg base CX0 6 fE fdE A0 (Hl bs qs sgs):=Je DE DF DL DD B
  refine D.F.ok tP (fun vs H Q E h=>?_) (fun cdv A outer s H vs Q E hr h=>?_)
  · obtain ⟨p,lb,lq,ls,lf,m,d,rfl,_⟩:=h
    rfl
  obtain ⟨p,lb,lq,ls,lf,m,d,rfl,dn,L,N,m0,m1,k⟩:=h
  have r1:eA 1 _:=hr.mono (by omega)
  have rF:eA 7 _:=hr.mono hk
  have rE:eA 6 _:=hr.mono (by omega)
  refine ⟨_,ak (bF (i:=7) tP.nd rfl (Or.inl rfl) (aS GD r1 (by rfl) DD.m DD.F.kp DD.b .nil bS (bH (pv 0) (dO aq aw))))
    (ak (cZ ((lL (bL rp (pv 7) aq (cg _)) (kx (bL mZ (pv 6) aq (cg _)))).pt) (ak (bF (i:=8) tP.nd rfl (Or.inl rfl) (aS GS hr (by rfl) DS.m DS.F.kp DS.b .nil bS (bH (pv 0) (bH (pv 1) (bH (pv 2) (bH (pv 3) (bH (pv 4) (bH (pv 5) (nj (cL jc (pv 6) aq) aw)))))))))
    (ak (bF (i:=9) tP.nd rfl (Or.inl rfl) (aS GS hr (by rfl) DS.m DS.F.kp DS.b .nil bS (bH (pv 0) (bH (pv 1) (bH (pv 2) (bH (pv 3) (bH (pv 4) (bH (pv 5) (nj (cL jc (pv 6) aq) aw)))))))))
    (aG (bR (eE (dO cG (jy (aS GF rF (by rfl) DF.m DF.F.kp DF.b .nil bS (bH (pv 0) (bH (pv 1) (bH (pv 2) (dO aq aw))))) (bH (pv 8) (bH (pv 9) aw))))))))) cq)
    (ak (Dr endT (cZ ((lL (bL eO (pv 7) aq (cg _)) (kx (bL eO (aS GD r1 (by rfl) DD.m DD.F.kp DD.b .nil bS (bH (pv 0) (dO aq aw))) aq (cg _)))).pt) (aG (bR (eE (dO cG aw)))) cq) (fun D σ H q=>by
      obtain ⟨p,w,h0,h7,pu,k1,k2⟩:=q
      refine ⟨_,h7,rfl,_,rfl,?_⟩
      refine iK (fun _=>?_) (fun _=>?_)
      · exact ⟨_,h0,p,6,rfl,pu,by decide,by decide,fun r G r0 r1' puG bG=>⟨rfl,_,rfl,iK (fun _=>⟨yO,fun t ht=>k1 G t puG bG ht⟩) (fun _=>k2 G puG bG)⟩⟩
      · exact hW (k2 H pu (But.refl _ _))))
    (ak (cZ ((lL (bL rp (pv 7) aq (cg _)) (kx (bL mZ (cX (eF K (by rfl)) (by rfl) B.len cm (bH (pv 2) aw)) aq (cg _)))).pt) (ak (bF (i:=10) tP.nd rfl (Or.inl rfl) (bN cU (pv 2) (aS GD r1 (by rfl) DD.m DD.F.kp DD.b .nil bS (bH (pv 0) (jy (cX (eF K (by rfl)) (by rfl) B.len cm (bH (pv 2) aw)) aw))) (fun _ _=>rfl)))
    (ak (cZ ((za (bL eO (pv 7) aq (cg _)) (za (bL eO (cX (eF K (by rfl)) (by rfl) B.len cm (bH (pv 1) aw)) aq (cg _)) (xU (bL eO (pv 6) aq (cg _))))).pt) (aG (bR (eE (dO cG (bH (pv 10) (jy (aS GF rF (by rfl) DF.m DF.F.kp DF.b .nil bS (bH (pv 0) (bH (pv 1) (bH (pv 2) (dO aq aw))))) aw)))))) cq)
    (ak (bF (i:=11) tP.nd rfl (Or.inl rfl) (bN cU (pv 1) (aS GD r1 (by rfl) DD.m DD.F.kp DD.b .nil bS (bH (pv 0) (jy (cX (eF K (by rfl)) (by rfl) B.len cm (bH (pv 1) aw)) aw))) (fun _ _=>rfl)))
    (aG (bR (eE (dO cG (bH (pv 10) (bH (pv 11) (jy (aS GS hr (by rfl) DS.m DS.F.kp DS.b .nil bS (bH (pv 0) (bH (pv 1) (bH (pv 2) (bH (pv 3) (bH (pv 4) (bH (pv 5) (nj (cL jc (pv 6) aq) aw)))))))) aw)))))))))) cq)
    (ak (cZ ((lL (bL rp (pv 7) aq (cg _)) (kx (bL mZ (cX (eF K (by rfl)) (by rfl) B.len cm (bH (pv 1) aw)) aq (cg _)))).pt) (ak (bF (i:=11) tP.nd rfl (Or.inl rfl) (bN cU (pv 1) (aS GD r1 (by rfl) DD.m DD.F.kp DD.b .nil bS (bH (pv 0) (jy (cX (eF K (by rfl)) (by rfl) B.len cm (bH (pv 1) aw)) aw))) (fun _ _=>rfl)))
    (ak (cZ (bL eO (pv 7) aq (cg _)) (aG (bR (eE (dO cG (bH (pv 11) (jy (aS GF rF (by rfl) DF.m DF.F.kp DF.b .nil bS (bH (pv 0) (bH (pv 1) (bH (pv 2) (dO aq aw))))) aw)))))) cq)
    (aG (bR (eE (dO cG (bH (pv 11) (jy (aS GF rF (by rfl) DF.m DF.F.kp DF.b .nil bS (bH (pv 0) (bH (pv 1) (bH (pv 2) (dO aq aw))))) aw)))))))) cq)
    (aG (bR (aS GE rE (by rfl) DE.m DE.F.kp DE.b .nil bS (bH (pv 0) (bH (pv 1) (bH (pv 2) (bH (pv 3) (bH (pv 4) aw)))))))))))),?_⟩
  have big:=fK
  have mp:p∈[p,lf]:=aC
  have dz:=FN d
  refine cA (dG ?_)
  refine ⟨_,rfl,p,13,rfl,L.pu,by decide,by decide,fun way G w0 w1 puG bG=>?_⟩
  refine cj ?_
  dsimp only
  have LG:=L.but bG puG
  have kG:Kp [p,lf] H G:=Kp.but bG mp
  have NG:=N.keepI (eK.but L.pu bG)
  have dmG:Dm H G:=kG.dm LG.there
  -- a tuple made of a formula's value
  refine cA ?_
  refine mR (Det.and (yT rfl) fun _=>I9 rfl) (fun c=>?_) (fun _=>?_)
  · have c2:=of_decide_eq_true (eX _ _ ▸ c).2
    obtain ⟨d',rfl⟩:∃ d',d=d' + 1:=⟨d - 1,by omega⟩
    have em:((d' + 1:Nat):Int) - 1=(d':Int):=by omega
    refine cA (dG ?_)
    refine ⟨_,rfl,_,rfl,_,rfl,_,rfl,_,rfl,_,rfl,_,rfl,_,_,rfl,rfl,p,lb,lq,ls,lf,m,d',(by show [V.ref p,V.ref lb,V.ref lq,V.ref ls,V.int m,V.ref lf,V.int (((d' + 1:Nat):Int) - 1)]=_; rw [em]),by omega,LG,NG,m0,m1,fun l1 xs1 ds1 G1 hl1 h1 len1 O1 t1 dp1 sz1 L1 k1=>?_⟩
    refine cj ?_
    dsimp only
    have N1:=NG.keepI (k1.keepI LG.int)
    have dm1:Dm G G1:=k1.dm L1.there
    refine cA (dG ?_)
    refine ⟨_,rfl,_,rfl,_,rfl,_,rfl,_,rfl,_,rfl,_,rfl,_,_,rfl,rfl,p,lb,lq,ls,lf,m,d',(by show [V.ref p,V.ref lb,V.ref lq,V.ref ls,V.int m,V.ref lf,V.int (((d' + 1:Nat):Int) - 1)]=_; rw [em]),by omega,L1,N1,m0,m1,fun l2 xs2 ds2 G2 hl2 h2 len2 O2 t2 dp2 sz2 L2' k2=>?_⟩
    refine cj ?_
    dsimp only
    have ki2:=k2.keepI L1.int
    have N2:=N1.keepI ki2
    refine ⟨_,rfl,_,rfl,_,rfl,p,lb,lq,2,rfl,by decide,L2'.pu,N2.hb,N2.hq,N.lb9,N.lq9,fun vf F G3 hF dF pu3 b3=>⟨_,rfl,_,rfl,by show 4<=aJ; omega,fun t ht=>?_⟩⟩
    have st_:=aR ht (.tup [.str "if",vf,.ref l1,.ref l2])
    have k3:=(eK.but L2'.pu b3).trans (eK.same st_)
    refine k _ (.ife F ds1 ds2) _ (Jd ao ⟨hF.same st_,by omega⟩ (dmG l1 hl1) (k3 _ _ (ki2 _ _ h1 O1.now.ni) O1.now.ni) len1 ((O1.base dmG).keepI (ki2.trans k3)) (dmG l2 (dm1 l2 hl2)) (k3 _ _ h2 O2.now.ni) len2 ((O2.base (dmG.trans dm1)).keepI k3)) ⟨t1,t2⟩ ?_ ?_ ((L2'.but b3 pu3).same st_) (((kG.trans k1).trans k2).trans ((Kp.but b3 mp).trans (Kp.same st_)))
    · show max ds1.deep ds2.deep + 1<=d' + 1
      omega
    · show ds1.size + ds2.size + 1<=1 + 6 * ddz d'
      omega
  refine kN ?_
  dsimp only
  refine cA ?_
  refine ⟨p,way,rfl,rfl,puG,fun H' t pu' b' ht=>?_,fun G1 pu1 b1=>?_⟩
  · have st_:=aR ht (.tup [.str "end"])
    exact k _ .fin _ (Jc ao) trivial (bK _) dz ((LG.but b' pu').same st_) ((kG.trans (Kp.but b' mp)).trans (Kp.same st_))
  dsimp only
  have L1:=LG.but b1 pu1
  have k1:Kp [p,lf] H G1:=kG.trans (Kp.but b1 mp)
  have N1:=NG.keepI (eK.but puG b1)
  have dm1:Dm H G1:=k1.dm L1.there
  refine cA ?_
  refine mR (Det.and (yT rfl) fun _=>sM (K:=K) rfl N1.hq) (fun c=>?_) (fun _=>?_)
  · have c2:=of_decide_eq_true (eX _ _ ▸ c).2
    rw [ah] at c2
    have:=N.lq9
    refine cA (dG ?_)
    refine ⟨_,rfl,_,rfl,_,rfl,lq,_,rfl,.inl (SqL.of N1.hq),p,_,rfl,pu1,by rw [ah]; omega,by rw [ah]; omega,fun r G2 r0 r1' pu2 b2=>?_⟩
    rw [ah] at r1'
    obtain ⟨q,hq,mq⟩:=kO r0 r1'
    have N2:=N1.keepI (eK.but pu1 b2)
    have L2':=L1.but b2 pu2
    have k2:Kp [p,lf] H G2:=k1.trans (Kp.but b2 mp)
    refine ⟨lq,_,_,_,rfl,rfl,SqL.of N2.hq,hq,?_⟩
    refine cj ?_
    dsimp only
    refine cA ?_
    refine mR (Det.or (pI rfl) fun _=>Det.or (Dl (K:=K) rfl N2.hb) fun _=>pI rfl) (fun _=>?_) (fun c=>?_)
    · refine ⟨_,rfl,_,rfl,_,rfl,_,rfl,p,lb,lq,1,rfl,by decide,pu2,N2.hb,N2.hq,N.lb9,N.lq9,fun vf F G3 hF dF pu3 b3=>⟨by show 3<=aJ; omega,fun t ht=>?_⟩⟩
      have st_:=aR ht (.tup [.str "push",.str q,vf])
      exact k _ (.push q F) _ (FH ao mq ⟨hF.same st_,by omega⟩) trivial (bK _) dz ((L2'.but b3 pu3).same st_) ((k2.trans (Kp.but b3 mp)).trans (Kp.same st_))
    refine kN ?_
    dsimp only
    rw [zO,zO] at c
    have cb:=of_decide_eq_false c.2.1
    have cd:=of_decide_eq_false c.2.2
    rw [ah] at cb
    have:=N.lb9
    obtain ⟨d',rfl⟩:∃ d',d=d' + 1:=⟨d - 1,by omega⟩
    have em:((d' + 1:Nat):Int) - 1=(d':Int):=by omega
    refine cA (dG ?_)
    refine ⟨_,rfl,_,rfl,_,rfl,lb,_,rfl,.inl (SqL.of N2.hb),p,_,rfl,pu2,by rw [ah]; omega,by rw [ah]; omega,fun r2 G3 r20 r21 pu3 b3=>?_⟩
    rw [ah] at r21
    obtain ⟨x,hx,mx⟩:=kO r20 r21
    have N3:=N2.keepI (eK.but pu2 b3)
    have L3:=L2'.but b3 pu3
    have k3:Kp [p,lf] H G3:=k2.trans (Kp.but b3 mp)
    have dm3:Dm H G3:=k3.dm L3.there
    refine ⟨lb,_,_,_,rfl,rfl,SqL.of N3.hb,hx,?_⟩
    refine cj ?_
    dsimp only
    refine ⟨_,rfl,_,rfl,_,rfl,_,rfl,_,rfl,_,rfl,_,rfl,_,rfl,_,rfl,_,_,rfl,rfl,p,lb,lq,ls,lf,m,d',(by show [V.ref p,V.ref lb,V.ref lq,V.ref ls,V.int m,V.ref lf,V.int (((d' + 1:Nat):Int) - 1)]=_; rw [em]),by omega,L3,N3,m0,m1,fun l1 xs1 ds1 G4 hl1 h1 len1 O1 t1 dp1 sz1 L4 k4=>⟨by show 4<=aJ; omega,fun t ht=>?_⟩⟩
    have st_:=aR ht (.tup [.str "pull",.str q,.str x,.ref l1])
    refine k _ (.pull q x ds1) _ (FL ao mq mx (dm3 l1 hl1) (st_ _ _ h1) len1 ((O1.base dm3).keepI (eK.same st_))) t1 ?_ ?_ (L4.same st_) ((k3.trans k4).trans (Kp.same st_))
    · show ds1.deep + 1<=d' + 1
      omega
    · show ds1.size + 1<=1 + 6 * ddz d'
      omega
  refine kN ?_
  dsimp only
  refine cA ?_
  refine mR (Det.and (yT rfl) fun _=>sM (K:=K) rfl N1.hb) (fun c=>?_) (fun _=>?_)
  · have c2:=of_decide_eq_true (eX _ _ ▸ c).2
    rw [ah] at c2
    have:=N.lb9
    refine cA (dG ?_)
    refine ⟨_,rfl,_,rfl,_,rfl,lb,_,rfl,.inl (SqL.of N1.hb),p,_,rfl,pu1,by rw [ah]; omega,by rw [ah]; omega,fun r G2 r0 r1' pu2 b2=>?_⟩
    rw [ah] at r1'
    obtain ⟨x,hx,mx⟩:=kO r0 r1'
    have N2:=N1.keepI (eK.but pu1 b2)
    have L2':=L1.but b2 pu2
    have k2:Kp [p,lf] H G2:=k1.trans (Kp.but b2 mp)
    refine ⟨lb,_,_,_,rfl,rfl,SqL.of N2.hb,hx,?_⟩
    refine cj ?_
    dsimp only
    refine cA ?_
    refine mR (pI rfl) (fun _=>?_) (fun _=>?_)
    · refine ⟨_,rfl,_,rfl,_,rfl,_,rfl,p,lb,lq,1,rfl,by decide,pu2,N2.hb,N2.hq,N.lb9,N.lq9,fun vf F G3 hF dF pu3 b3=>⟨by show 3<=aJ; omega,fun t ht=>?_⟩⟩
      have st_:=aR ht (.tup [.str "draw",.str x,vf])
      exact k _ (.draw x F) _ (FJ ao mx ⟨hF.same st_,by omega⟩) trivial (bK _) dz ((L2'.but b3 pu3).same st_) ((k2.trans (Kp.but b3 mp)).trans (Kp.same st_))
    refine kN ?_
    dsimp only
    refine ⟨_,rfl,_,rfl,_,rfl,_,rfl,p,lb,lq,3,rfl,by decide,pu2,N2.hb,N2.hq,N.lb9,N.lq9,fun vf F G3 hF dF pu3 b3=>⟨by show 3<=aJ; omega,fun t ht=>?_⟩⟩
    have st_:=aR ht (.tup [.str "put",.str x,vf])
    exact k _ (.put x F) _ (Jb ao mx ⟨hF.same st_,by omega⟩) trivial (bK _) dz ((L2'.but b3 pu3).same st_) ((k2.trans (Kp.but b3 mp)).trans (Kp.same st_))
  refine kN ?_
  dsimp only
  refine ⟨_,rfl,_,rfl,_,rfl,_,rfl,_,rfl,p,lb,lq,ls,m,rfl,pu1,N1,m0,m1,fun v dd G2 hO to dp sz pu2 b2=>?_⟩
  exact k _ dd _ (hO.base dm1) to (by omega) (by omega) (L1.but b2 pu2) (k1.trans (Kp.but b2 mp))
theorem FP {n kk:Nat} (hk:1<=kk) (D:Df K mg "_law_deeds" g9 pDe f fd) (D1:Df K mg "_law_deed" jg pDe f1 fd1) (G1:bX P w K mg base CX0 kk f1 fd1 pDe (spDe bs qs sgs n)) (DD:Df K mg "_law_draw" d9 ["_law_purse_here","_law_out_of"] fD fdD) (B:Bl mg) :
    bX P w K mg base CX0 (kk + 1) f fd pDe (Du bs qs sgs n):=by
  have GD:bX P w K mg base CX0 1 fD fdD ["_law_purse_here","_law_out_of"] jX:=j2 DD
  refine D.F.ok Dt (fun vs H Q E h=>?_) (fun cdv A outer s H vs Q E hr h=>?_)
  · obtain ⟨p,lb,lq,ls,lf,m,d,rfl,_⟩:=h
    rfl
  obtain ⟨p,lb,lq,ls,lf,m,d,rfl,dn,L,N,m0,m1,k⟩:=h
  have r1:eA 1 _:=hr.mono hk
  refine ⟨_,ak (bF (i:=7) Dt.nd rfl (Or.inl rfl) (fy aw))
    (ak (iz cI rfl (jK (by rfl) B.range (jy (aS GD r1 (by rfl) DD.m DD.F.kp DD.b .nil bS (bH (pv 0) (dO aq aw))) aw)) (eD (i:=8) Dt.nd rfl (Or.inl rfl)) (aG (cZ (bL mZ (bN cU (pv 5) aq (fun _ _=>rfl)) aq (cg _)) (ak (vv (cL jc (bN cU (pv 5) aq (fun _ _=>rfl)) aq) (vt (pv 5) aq pZ))
    (aG (eT (lY cv cJ cK gX (pv 7) (jy (aS G1 hr (by rfl) D1.m D1.F.kp D1.b .nil bS (bH (pv 0) (bH (pv 1) (bH (pv 2) (bH (pv 3) (bH (pv 4) (bH (pv 5) (bH (pv 6) aw)))))))) aw))))) cq)))
    (aG (bR (pv 7)))),?_⟩
  have big:=fK
  have mp:p∈[p,lf]:=aC
  have ml:lf∈[p,lf]:=af _ aC
  refine cA (dG ?_)
  refine ⟨bK _,fun l0 hl0=>?_⟩
  have s0:=aR hl0 (.lst [])
  refine cj ?_
  dsimp only
  have n0:l0∉[p,lf]:=fun z=>by
    obtain ⟨i,r,e⟩:=L.int l0 z
    rw [hl0] at e
    cases e
  refine cA ?_
  refine ⟨_,rfl,p,4,rfl,L.pu.same s0,by decide,by decide,fun r G r0 r1' puG bG=>⟨r,rfl,by omega,by omega,?_⟩⟩
  have LG:=(L.same s0).but bG puG
  have kG:Kp [p,lf] H G:=(Kp.same s0).trans (Kp.but bG mp)
  have hl0G:G l0=some (.lst []):=bG _ _ ao (fun z=>n0 (by rw [z]; exact mp))
  refine kA (n:=r.toNat) (fun i σ G'=>∃ (xs:List V) (ds:Ds) (v8:Option V),σ=[some (.ref p),some (.ref lb),some (.ref lq),some (.ref ls),some (.int m),some (.ref lf),some (.int d),some (.ref l0),v8]/\G' l0=some (.lst xs)/\xs.length<=i/\i<=3/\OwS bs qs (upd H l0 (.lst [])) G' ds xs/\ds.toOk m/\ds.deep<=d/\ds.size<=i * ddz d/\Lf G' p lf/\Kp [p,lf] H G')
    ⟨[],.nil,_,rfl,hl0G,aL _,by decide,FM,trivial,bK _,bK _,LG,kG⟩ ?_ ?_
  · rintro i σ G1' hi ⟨xs,ds,v8,rfl,hxs,lxs,i3,O,to,dp,sz,L1,k1⟩
    obtain ⟨c0,hc⟩:=L1.hl
    have sz':ds.size<=(i + 1) * ddz d:=cT sz (A1 _ (gi _))
    refine Hj ?_
    refine ⟨_,rfl,lf,_,_,_,rfl,rfl,SqL.of hc,rfl,_,_,rfl,rfl,_,rfl,?_⟩
    refine iK (fun _=>?_) (fun _=>?_)
    · refine cA (dG ?_)
      refine ⟨_,rfl,lf,_,_,_,rfl,rfl,SqL.of hc,rfl,_,_,rfl,rfl,_,rfl,lf,[.int c0],0,0,rfl,rfl,hc,rfl,?_⟩
      have hl2:upd G1' lf (.lst ([V.int c0].set 0 (.int (c0 - 1)))) lf=some (.lst [.int (c0 - 1)]):=ao
      have k12:Kp [p,lf] G1' (upd G1' lf (.lst ([V.int c0].set 0 (.int (c0 - 1))))):=Kp.upd ml
      have L2':Lf (upd G1' lf (.lst ([V.int c0].set 0 (.int (c0 - 1))))) p lf:=by
        obtain ⟨x,y,e⟩:=L1.pu
        exact ⟨⟨x,y,bA e L1.ne.symm⟩,_,hl2⟩
      have ki2:=k12.keepI L1.int
      have N2:=(N.keepI (k1.keepI L.int)).keepI ki2
      have hxs2:=k12 _ _ hxs n0
      have O2:=O.keepI ki2
      revert L2' ki2 N2 hxs2 O2 k12
      generalize upd G1' lf (.lst ([V.int c0].set 0 (.int (c0 - 1))))=G2
      intro k12 L2' ki2 N2 hxs2 O2
      refine ⟨_,rfl,.inl ⟨rfl,_,SqL.of hxs2⟩,_,rfl,_,rfl,_,rfl,_,rfl,_,rfl,_,rfl,_,rfl,p,lb,lq,ls,lf,m,d,rfl,dn,L2',N2,m0,m1,fun v dd G3 hO t dp' sz3 L3 k23=>?_⟩
      have hxs3:=k23 _ _ hxs2 n0
      refine ⟨l0,xs,v,rfl,rfl,hxs3,by omega,?_⟩
      have ki3:=k23.keepI L2'.int
      have ol:G2 l0≠none:=by
        rw [hxs2]
        intro z
        cases z
      have nt3:∀ ys,G3 l0≠some (.tup ys):=fun ys z=>by
        rw [hxs3] at z
        cases z
      have olB:upd H l0 (.lst []) l0≠none:=by
        rw [ao]
        intro z
        cases z
      have dmB:Dm (upd H l0 (.lst [])) G2:=fun a na=>by
        by_cases ca:a=l0
        · rw [ca,hxs2] at na
          cases na
        · rw [aV ca]
          exact (k1.trans k12).dm L2'.there a na
      refine ⟨xs++[v],oF ds dd,_,rfl,ao,by rw [aI]; show xs.length + 1<=i + 1; omega,by omega,Dv ((O2.keepI ki3).old olB nt3) ((hO.old ol nt3).base dmB),zN t ds to,by rw [u7]; omega,?_,?_,?_⟩
      · rw [u9,Nat.succ_mul]
        omega
      · obtain ⟨x,y,e⟩:=L3.pu
        obtain ⟨z,e'⟩:=L3.hl
        exact ⟨⟨x,y,bA e (fun q=>n0 (by rw [<- q]; exact mp))⟩,z,bA e' (fun q=>n0 (by rw [<- q]; exact ml))⟩
      · exact fun b o e nb=>bA (((k1.trans k12).trans k23) b o e nb) (aH e hl0)
    · exact ⟨xs,ds,_,rfl,hxs,by omega,by omega,O,to,dp,sz',L1,k1⟩
  · rintro σ G1' ⟨xs,ds,v8,rfl,hxs,lxs,i3,O,to,dp,sz,L1,k1⟩
    refine ⟨_,rfl,k l0 xs ds G1' hl0 hxs (by omega) (O.base (Dm.same s0)) to dp (cT sz (A1 _ i3)) L1 k1⟩
theorem Hm (D:Df K mg "_law_deeds" g9 pDe f fd) (D1:Df K mg "_law_deed" jg pDe f1 fd1) (DE:Df K mg "_law_send" jf A0 fE fdE) (DF:Df K mg "_law_formula" fJ pFo fF fdF) (DL:Df K mg "_law_leaf" gP ["_law_purse_here","_law_boxes","_law_queues"] fL fdL) (DD:Df K mg "_law_draw" d9 ["_law_purse_here","_law_out_of"] fD fdD) (B:Bl mg) :
    ∀ n:Nat,bX P w K mg base CX0 (7 + 2 * n) f fd pDe (Du bs qs sgs n)
  | 0=>⟨fun vs H Q E h=>by
      obtain ⟨p,lb,lq,ls,lf,m,d,_,h,_⟩:=h
      omega,fun A outer s H args us vs Q E _ _ _ _ h=>by
      obtain ⟨p,lb,lq,ls,lf,m,d,_,h,_⟩:=h
      omega⟩
  | n + 1=>FP (kk:=7 + 2 * n + 1) (by omega) D D1 (FO (by omega) D1 D (Hm D D1 DE DF DL DD B n) DE DF DL DD B) DD B
end
end My
namespace My
open PySem L2
def abc:Str:="abcdefghijklmnopqrstuvwxyz"
theorem FQ:abc.cps.toList.length=26:=by decide +kernel
theorem va:abc.length<=aJ:=by decide +kernel
theorem Jf:abc.cps.toList.Nodup:=by decide +kernel
theorem Jg {z:Int} (h0:0<=z) (h1:z < 26):∃ c,abc.cps.toList[z.toNat]?=some c/\atI abc.cps.toList z=some c:=by
  obtain ⟨j,rfl⟩:∃ j:Nat,z=(j:Int):=⟨z.toNat,by omega⟩
  have l:j < abc.cps.toList.length:=by rw [FQ]; omega
  exact ⟨abc.cps.toList[j],by rw [jM]; exact aA l,gy (aA l)⟩
def mT:List Int:=[1,3,5,25,7,11]
def placeOf (b st:Int) (i:Nat):Int:=(b + st * (0 + (i:Int))) % 26
theorem qh (b st:Int) (i:Nat):0<=placeOf b st i/\placeOf b st i < 26:=by
  unfold placeOf
  exact ⟨ju _ (by decide),il _ (by decide)⟩
theorem Dw {b st:Int} (hs:st∈mT) {i j:Nat} (hi:i < 9) (hj:j < 9) (h:placeOf b st i=placeOf b st j):i=j:=by
  unfold placeOf at h
  unfold mT at hs
  simp only [ax,bz,or_false] at hs
  rcases hs with rfl | rfl | rfl | rfl | rfl | rfl <;> omega
def GN (b st:Int) (ss:List Str):Prop:=∀ i s,ss[i]?=some s->∃ c,abc.cps.toList[(placeOf b st i).toNat]?=some c/\s.cps.toList[0]?=some c
theorem FR {i j:Nat} {c} (hi:abc.cps.toList[i]?=some c) (hj:abc.cps.toList[j]?=some c):i=j:=by
  have li:=(aB.mp hi).1
  exact (List.getElem?_inj li Jf).mp (hi.trans hj.symm)
theorem GN.nodup {b st:Int} (hs:st∈mT) {ss:List Str} (h:GN b st ss) (hl:ss.length<=9):ss.Nodup:=by
  refine cQ.mpr fun i j li lj hij e=>?_
  obtain ⟨c,a1,a2⟩:=h i _ (aA li)
  obtain ⟨d,b1,b2⟩:=h j _ (aA lj)
  rw [<- e,a2] at b2
  cases b2
  have z:=FR a1 b1
  obtain ⟨p1,p2⟩:=qh b st i
  obtain ⟨q1,q2⟩:=qh b st j
  have w:placeOf b st i=placeOf b st j:=by omega
  have:=Dw hs (by omega) (by omega) w
  omega
theorem GN.snoc {b st:Int} {ss:List Str} {s:Str} {c} (h:GN b st ss) (h2:abc.cps.toList[(placeOf b st ss.length).toNat]?=some c) (h3:s.cps.toList[0]?=some c):GN b st (ss++[s]):=by
  intro i x e
  by_cases hi:i < ss.length
  · rw [dy hi] at e
    exact h i x e
  · rw [dJ (by omega)] at e
    have z:i - ss.length=0:=by
      by_cases y:i - ss.length=0
      · exact y
      · obtain ⟨k,hk⟩:∃ k,i - ss.length=k + 1:=⟨i - ss.length - 1,by omega⟩
        rw [hk] at e
        simp at e
    have hi':i=ss.length:=by omega
    rw [z] at e
    simp at e
    subst e
    rw [hi']
    exact ⟨c,h2,h3⟩
theorem vZ {x y:Str} {c} (h:x.cps.toList[0]?=some c):(x++y).cps.toList[0]?=some c:=by
  show (x.cps++y.cps).toList[0]?=some c
  rw [Array.toList_append,dy (aB.mp h).1]
  exact h
theorem Dx {r:Int} (h0:0<=r) (h1:r < 6):∃ st,atI (mT.map V.int) r=some (.int st)/\st∈mT:=by
  obtain ⟨j,rfl⟩:∃ j:Nat,r=(j:Int):=⟨r.toNat,by omega⟩
  have lt:j < mT.length:=by
    show j < 6
    omega
  exact ⟨mT[j],gy (by rw [cC,aA lt]; rfl),kf lt⟩
section
variable {P:aW} {w:bO} {K:ag} {mg:Str->Option aa} {base:cE} {f fD:ae} {fd fdD:cu}
seal L2.PS L2.PSs L2.PE L2.PA L2.PT L2.PW L2.PI L2.PG L2.PGs L2.PC
def wc:Sp:=fun vs H Q _=>∃ (p:ae) (n:Int),vs=[.ref p,.int n]/\eC H p/\0<=n/\n<=9 /\
  ∀ (l:ae) (ss:List Str) (H':Hp),H l=none->H' l=some (.lst (ss.map V.str))->(ss.length:Int)=n->ss.Nodup->eC H' p->But p H H'->Q (.ref l) H'
abbrev nN:List Str:=["_law_purse_here","_law_many","_law_letters","_law_base","_law_step","_law_names_here","_law_k","_law_tail"]
theorem scN:bY nN ["_law_purse_here","_law_many"] (aF iD):=⟨rfl,rfl,rfl,by decide +kernel,rfl,by decide +kernel,by decide +kernel⟩
theorem xx (D:Df K mg "_law_names" iD ["_law_purse_here","_law_many"] f fd) (DD:Df K mg "_law_draw" d9 ["_law_purse_here","_law_out_of"] fD fdD) (B:Bl mg):bX P w K mg base CX0 2 f fd ["_law_purse_here","_law_many"] wc:=by
  have GD:bX P w K mg base CX0 1 fD fdD ["_law_purse_here","_law_out_of"] jX:=j2 DD
  refine D.F.ok scN (fun vs H Q E h=>?_) (fun cdv A outer s H vs Q E r1 h=>?_)
  · obtain ⟨p,n,rfl,_⟩:=h
    rfl
  obtain ⟨p,n,rfl,hp,hn0,hn9,q⟩:=h
  refine ⟨_,ak (bF (i:=2) scN.nd rfl (Or.inl rfl) cG)
    (ak (bF (i:=3) scN.nd rfl (Or.inl rfl) (aS GD r1 (by rfl) DD.m DD.F.kp DD.b .nil bS (bH (pv 0) (dO aq aw))))
    (ak (bF (i:=4) scN.nd rfl (Or.inl rfl) (bN cU (fy (dO aq (dO aq (dO aq (dO aq (dO aq (dO aq aw))))))) (aS GD r1 (by rfl) DD.m DD.F.kp DD.b .nil bS (bH (pv 0) (dO aq aw))) (fun _ _=>rfl)))
    (ak (bF (i:=5) scN.nd rfl (Or.inl rfl) (fy aw))
    (ak (iz cI rfl (jK (by rfl) B.range (bH (pv 1) aw)) (eD (i:=6) scN.nd rfl (Or.inl rfl)) (ak (bF (i:=7) scN.nd rfl (Or.inl rfl) (hV Ir (pv 2) j1 (iu (aS GD r1 (by rfl) DD.m DD.F.kp DD.b .nil bS (bH (pv 0) (dO aq aw))))))
    (aG (eT (lY cv cJ cK gX (pv 5) (nj (cL xZ (bN HS (pv 2) (cL nJ (cL gW (pv 3) (cL mC (pv 4) (pv 6))) aq) (fun _ _=>rfl)) (pv 7)) aw))))))
    (aG (bR (pv 5))))))),?_⟩
  have big:=fK
  refine cA (dG ?_)
  refine cj ?_
  dsimp only
  refine cA (dG ?_)
  refine ⟨_,rfl,p,26,rfl,hp,by decide,by decide,fun first H1 f0 f1 hp1 b1=>?_⟩
  refine cj ?_
  dsimp only
  refine cA (dG ?_)
  refine ⟨by show 6<=aJ; omega,fun ls hls=>?_⟩
  have sl:=aR hls (.lst (mT.map V.int))
  refine ⟨_,rfl,p,6,rfl,hp1.same sl,by decide,by decide,fun r2 H2 r20 r21 hp2 b2=>?_⟩
  obtain ⟨st,hst,mst⟩:=Dx r20 r21
  have nlp:ls≠p:=by
    obtain ⟨x,y,e⟩:=hp1
    exact (aH e hls).symm
  have stb:0 < st/\st < 100:=by
    unfold mT at mst
    simp only [ax,bz,or_false] at mst
    rcases mst with rfl | rfl | rfl | rfl | rfl | rfl <;> decide
  refine ⟨ls,_,_,_,rfl,rfl,SqL.of (b2 _ _ ao nlp),hst,?_⟩
  refine cj ?_
  dsimp only
  have b02:But p H H2:=(b1.same sl).trans b2
  refine cA (dG ?_)
  refine ⟨bK _,fun l hl=>?_⟩
  have s3:=aR hl (.lst [])
  have nl:l≠p:=by
    obtain ⟨x,y,e⟩:=hp2
    exact (aH e hl).symm
  have hlH:H l=none:=by
    cases e:H l with
    | none=>rfl
    | some o =>
      rw [b02 l o e nl] at hl
      cases hl
  refine cj ?_
  dsimp only
  refine cA ?_
  refine ⟨_,rfl,n,rfl,by omega,by omega,kA (n:=n.toNat) (fun i σ G=>∃ (ss:List Str) (v6 v7:Option V),σ=[some (.ref p),some (.int n),some (.str abc),some (.int first),some (.int st),some (.ref l),v6,v7]/\i<=n.toNat/\G l=some (.lst (ss.map V.str))/\ss.length=i/\GN first st ss/\eC G p/\But p H G)
    ⟨[],none,none,rfl,bK _,ao,rfl,fun i s e=>by simp at e,hp2.same s3,b02.same s3⟩ ?_ ?_⟩
  · rintro i σ G hi ⟨ss,v6,v7,rfl,hi2,hG,hss,gn,pu,bt⟩
    obtain ⟨c,c1,c2⟩:=Jg (qh first st i).1 (qh first st i).2
    refine cA (dG ?_)
    refine ⟨_,rfl,_,rfl,p,6,rfl,pu,by decide,by decide,fun r G1 r0 r1' pu1 bt1=>⟨r,rfl,abc,rfl,va,?_⟩⟩
    refine cj ?_
    dsimp only
    have hG1:=bt1 _ _ hG nl
    have lt26:(pR abc none (some r)).length<=26:=cT (Txt.slice_le abc none (some r)) (by decide +kernel)
    refine ⟨_,rfl,.inl ⟨rfl,_,SqL.of hG1⟩,_,rfl,_,rfl,_,rfl,_,rfl,_,_,rfl,rfl,.inl ⟨by omega,by omega⟩,_,_,rfl,rfl,_,_,rfl,rfl,(by show (0:Int) < 26; decide),abc,_,c,rfl,rfl,va,c2,_,rfl,_,_,rfl,rfl,?_,l,_,_,rfl,rfl,hG1,(by rw [ah]; omega),?_⟩
    · show 1 + (pR abc none (some r)).length<=aJ
      omega
    · obtain ⟨x,y,hpx⟩:=pu1
      refine ⟨ss++[_],_,_,rfl,hi,by rw [cy]; exact ao,by rw [aI,hss]; rfl,gn.snoc (c:=c) (by rw [hss]; exact c1) (vZ rfl),⟨x,y,bA hpx nl.symm⟩,?_⟩
      exact fun b o hb nb=>bA (bt1 _ _ (bt b o hb nb) nb) (aH hb hlH)
  · rintro σ G ⟨ss,v6,v7,rfl,hi2,hG,hss,gn,pu,bt⟩
    exact ⟨_,rfl,q l ss G hlH hG (by omega) (gn.nodup mst (by omega)) pu bt⟩
end
end My
namespace My
open PySem L2
def Dy:List Int->TA
  | []=>sY
  | k :: r=>jH (tC (.int k)) (Dy r)
theorem zP:∀ (ks:List Int) {σ:St} {H:Hp} {Q:List V->Hp->Prop},Q (ks.map V.int) H->Dy ks σ H Q
  | [],_,_,_,h=>h
  | _ :: r,_,_,_,h=>zP r h
theorem dr2 {K:ag} {ks:List Int} {c:Int} {p:ae} (hc:c=ks.length) (hk:∀ k∈ks,0 < k/\k < 100) (h0:0 < ks.length) (hl:ks.length < 100) {σ:St} {H:Hp} {Q:VK} (hv:σ[0]?=some (some (.ref p))) (pu:eC H p)
    (k:∀ (r:Int) (G:Hp),0<=r->r < 100->eC G p->But p H G->Q (.int r) G):BG jX [] E0 (jH (qE 0) (jH (tOp (HQ K) (tLst (Dy ks)) (BG jX [] E0 (jH (qE 0) (jH (tC (.int c)) sY)))) sY)) σ H Q:=by
  have big:=fK
  refine ⟨_,hv,zP ks ⟨by rw [ah]; omega,fun l hl'=>?_⟩⟩
  have sl:=aR hl' (.lst (ks.map V.int))
  have nlp:l≠p:=by
    obtain ⟨x,y,e⟩:=pu
    exact (aH e hl').symm
  refine ⟨_,hv,p,c,rfl,pu.same sl,by omega,by omega,fun r G1 r0 r1 pu1 b1=>?_⟩
  obtain ⟨j,rfl⟩:∃ j:Nat,r=(j:Int):=⟨r.toNat,by omega⟩
  have lt:j < ks.length:=by omega
  have hat:atI (ks.map V.int) (j:Int)=some (.int ks[j]):=gy (by rw [cC,aA lt]; rfl)
  have hb:=hk _ (kf lt)
  refine ⟨l,_,_,_,rfl,rfl,SqL.of (b1 _ _ ao nlp),hat,p,ks[j],rfl,pu1,hb.1,by omega,fun r2 G2 r20 r21 pu2 b2=>?_⟩
  have sl2:But p H G1:=fun b o e nb=>b1 _ _ (sl _ _ e) nb
  exact k r2 G2 r20 (by omega) pu2 (sl2.trans b2)
theorem tQ (ss:List Str) (lo hi:Option Int):∃ zs:List Str,lO (ss.map V.str) lo hi=zs.map V.str/\zs.length<=ss.length:=by
  refine ⟨(ss.drop (HT.sIx (ss.map V.str).length 0 lo)).take (HT.sIx (ss.map V.str).length (ss.map V.str).length hi - HT.sIx (ss.map V.str).length 0 lo),?_,?_⟩
  · unfold lO
    rw [<- Jh,<- wI]
  · rw [cW,kd]
    omega
def HsO (bs qs:List Str) (H H':Hp) (v:V) (q:Str×Ds):Prop:=∃ t l xs,v=.ref t/\H' t=some (.tup [.str q.1,.ref l])/\H l=none/\H' l=some (.lst xs)/\xs.length < 1000/\OwS bs qs H H' q.2 xs
theorem HsO.keepI {bs qs:List Str} {H H' H1:Hp} {v:V} {q:Str×Ds} (k:eK H' H1) (h:HsO bs qs H H' v q):HsO bs qs H H1 v q:=by
  obtain ⟨t,l,xs,e,h1,h2,h3,h4,h5⟩:=h
  exact ⟨t,l,xs,e,k _ _ h1 (pJ _),h2,k _ _ h3 h5.now.ni,h4,h5.keepI k⟩
theorem HsO.old {bs qs:List Str} {H H':Hp} {v:V} {q:Str×Ds} {a:ae} {o:HO} (h:HsO bs qs H H' v q) (ol:H a≠none) (nt:∀ xs,H' a≠some (.tup xs)):HsO bs qs H (upd H' a o) v q:=by
  obtain ⟨t,l,xs,e,h1,h2,h3,h4,h5⟩:=h
  exact ⟨t,l,xs,e,bA h1 (fun z=>nt _ (by rw [<- z]; exact h1)),h2,bA h3 (fun z=>ol (by rw [<- z]; exact h2)),h4,h5.old ol nt⟩
theorem HsO.base {bs qs:List Str} {H H0 H':Hp} {v:V} {q:Str×Ds} (h:HsO bs qs H H' v q) (s:Dm H0 H):HsO bs qs H0 H' v q:=by
  obtain ⟨t,l,xs,e,h1,h2,h3,h4,h5⟩:=h
  exact ⟨t,l,xs,e,h1,s l h2,h3,h4,h5.base s⟩
structure Mch (m:Int) (H H':Hp) (t:ae) (nm:Str) (bs qs:List Str) (ds:List Int) (hs:List (Str×Ds)) (ps:List (Str×Int)):Prop where
  ex:∃ (bl ql dl hl:ae) (vb hv:List V),H' t=some (.tup [.str nm,.ref bl,.ref ql,.ref dl,.ref hl])/\H' bl=some (.lst vb)/\ff H' ps vb/\H' ql=some (.lst (qs.map V.str))/\H' dl=some (.lst (ds.map V.int))/\H' hl=some (.lst hv)/\aX (HsO bs qs H H') hv hs/\H bl=none/\H ql=none/\H dl=none/\H hl=none
  kb:ps.map (·.1)=bs
  nb:bs.Nodup
  nq:qs.Nodup
  lb:bs.length<=9
  lq:qs.length<=9
  ld:ds.length<=100
  lh:hs.length<=9
  wb:∀ q∈ps,-4<=q.2/\q.2<=4
  hk:∀ q∈hs,q.2.toOk m/\q.2.deep<=4/\q.2.size<=3 * ddz 4
section
variable {P:aW} {w:bO} {K:ag} {mg:Str->Option aa} {base:cE} {f fD fN fS:ae} {fd fdD fdN fdS:cu} {sgs:List Str}
seal L2.PS L2.PSs L2.PE L2.PA L2.PT L2.PW L2.PI L2.PG L2.PGs L2.PC
abbrev nMa:List Str:=["_law_purse_here","_law_name","_law_signs_here","_law_many","_law_names_here","_law_boxes","_law_queues","_law_firsts","_law_draws","_law_k","_law_hears","_law_sign"]
abbrev pMa:List Str:=["_law_purse_here","_law_name","_law_signs_here","_law_many"]
theorem wg:bY nMa pMa (aF gQ):=⟨rfl,rfl,rfl,by decide +kernel,rfl,by decide +kernel,by decide +kernel⟩
theorem ndMa:((["_law_box"]:List Str)++nMa).Nodup:=by decide +kernel
def Ji (sgs:List Str):Sp:=fun vs H Q _=>∃ (p ls:ae) (nm:Str) (m:Int),vs=[.ref p,.str nm,.ref ls,.int m]/\eC H p/\H ls=some (.lst (sgs.map V.str))/\0 < sgs.length/\sgs.length<=9/\0 < m/\m < 1000 /\
  ∀ (t:ae) (H':Hp) (bs qs:List Str) (ds:List Int) (hs:List (Str×Ds)) (ps:List (Str×Int)),Mch m H H' t nm bs qs ds hs ps->eC H' p->But p H H'->Q (.ref t) H'
theorem A2 {K:ag} {a:ae} {xs:List V} {n i:Nat} {g:TG} {tc:L2.TT} {te:TE} {σ:St} {H:Hp} {Q:VK} (hv:σ[i]?=some (some (.ref a))) (hx:SqL K H a xs) (Pv:Nat->List V->Hp->Prop) (h0:Pv 0 [] H) (hl:∀ i ys H,i<=xs.length->Pv i ys H->SqL K H a xs/\ys.length < aJ)
    (hs:∀ i x ys H,xs[i]?=some x->Pv i ys H->g x (cO n none++σ) H fun σ2 H2=>σ2.drop n=σ/\tc σ2 H2 fun b H3=>if b=true then te σ2 H3 fun y H4=>Pv (i + 1) (ys++[y]) H4 else Pv (i + 1) ys H3)
    (hd:∀ ys H,Pv xs.length ys H->∀ p,H p=none->Q (.ref p) (upd H p (.lst ys))):tu n (Bw K (qE i)) g tc te σ H Q:=
  ⟨.ref a,hv,a,rfl,⟨xs,hx⟩,oP Pv h0 hl hs hd⟩
theorem yU {ss:List Str} {i:Nat} {x:V} (h:(ss.map V.str)[i]?=some x):∃ nm,ss[i]?=some nm/\x=V.str nm/\i < ss.length/\ss.take (i + 1)=ss.take i++[nm]:=by
  rw [cC] at h
  cases e:ss[i]? with
  | none =>
    rw [e] at h
    cases h
  | some nm =>
    rw [e] at h
    cases h
    exact ⟨nm,rfl,rfl,(aB.mp e).1,by rw [gR,e]; rfl⟩
theorem ok_ma (D:Df K mg "_law_machine" gQ pMa f fd) (DN:Df K mg "_law_names" iD ["_law_purse_here","_law_many"] fN fdN) (DS:Df K mg "_law_deeds" g9 pDe fS fdS) (GS:∀ bs qs,bX P w K mg base CX0 17 fS fdS pDe (Du bs qs sgs 5)) (DD:Df K mg "_law_draw" d9 ["_law_purse_here","_law_out_of"] fD fdD) (B:Bl mg) :
    bX P w K mg base CX0 18 f fd pMa (Ji sgs):=by
  have GD:bX P w K mg base CX0 1 fD fdD ["_law_purse_here","_law_out_of"] jX:=j2 DD
  have GN:bX P w K mg base CX0 2 fN fdN ["_law_purse_here","_law_many"] wc:=xx DN DD B
  have GS:bX P w K mg base CX0 17 fS fdS pDe (fun vs H Q E=>∃ bs qs,Du bs qs sgs 5 vs H Q E):=⟨fun vs H Q E h=>by
    obtain ⟨bs,qs,p,lb,lq,ls,lf,m,d,rfl,_⟩:=h
    rfl,fun A outer s H ar us vs Q E hr he hb hv h=>by
    obtain ⟨bs,qs,h⟩:=h
    exact (GS bs qs).run A outer s H ar us vs Q E hr he hb hv h⟩
  refine D.F.ok wg (fun vs H Q E h=>?_) (fun cdv A outer s H vs Q E hr h=>?_)
  · obtain ⟨p,ls,nm,m,rfl,_⟩:=h
    rfl
  obtain ⟨p,ls,nm,m,rfl,pu,hls,sg0,sg9,m0,m1,k⟩:=h
  have r1:eA 1 _:=hr.mono (by decide)
  have r2:eA 2 _:=hr.mono (by decide)
  refine ⟨_,ak (bF (i:=4) wg.nd rfl (Or.inl rfl) (aS GN r2 (by rfl) DN.m DN.F.kp DN.b .nil bS (bH (pv 0) (dO aq aw))))
    (ak (bF (i:=5) wg.nd rfl (Or.inl rfl) (hV oO (pv 4) j1 (iu (aS GD r1 (by rfl) DD.m DD.F.kp DD.b .nil bS (bH (pv 0) (yS (bN cU (fy (dO aq (dO aq (dO aq aw)))) (aS GD r1 (by rfl) DD.m DD.F.kp DD.b .nil bS (bH (pv 0) (dO aq aw))) (fun _ _=>rfl)) aw))))))
    (ak (bF (i:=6) wg.nd rfl (Or.inl rfl) (hV oO (pv 4) (iu aq) (iu (cL gW aq (aS GD r1 (by rfl) DD.m DD.F.kp DD.b .nil bS (bH (pv 0) (yS (bN cU (fy (dO aq (dO aq aw))) (aS GD r1 (by rfl) DD.m DD.F.kp DD.b .nil bS (bH (pv 0) (dO aq aw))) (fun _ _=>rfl)) aw)))))))
    (ak (zt (i:=7) ["_law_box"] (jv.open (NN:=nMa) (N:=nMa) (sc:=aF gQ) rfl rfl (by decide +kernel) rfl (by decide +kernel) (by decide +kernel) rfl (by decide +kernel)) rfl wg.nd rfl (Or.inl rfl) (ip (pv 5)) (fun _ _ _ _=>eD (i:=0) ndMa rfl (Or.inl rfl)) (fun _ _ _ _=>mK) (fun _ _ _ _=>eE (bH (pv 0) (nj (cL jc (aS GD r1 (by rfl) DD.m DD.F.kp DD.b .nil bS (bH (pv 1) (dO aq aw))) aq) aw))))
    (ak (bF (i:=8) wg.nd rfl (Or.inl rfl) (fy aw))
    (ak (iz cI rfl (jK (by rfl) B.range (jy (aS GD r1 (by rfl) DD.m DD.F.kp DD.b .nil bS (bH (pv 0) (yS (bN cU (fy (dO aq (dO aq (dO aq aw)))) (aS GD r1 (by rfl) DD.m DD.F.kp DD.b .nil bS (bH (pv 0) (dO aq aw))) (fun _ _=>rfl)) aw))) aw)) (eD (i:=9) wg.nd rfl (Or.inl rfl)) (aG (eT (lY cv cJ cK gX (pv 8) (yS (bN cU (fy (jy (aS GD r1 (by rfl) DD.m DD.F.kp DD.b .nil bS (bH (pv 0) (dO aq aw))) (jy (aS GD r1 (by rfl) DD.m DD.F.kp DD.b .nil bS (bH (pv 0) (nj (cL gW (cL mE aq aq) aq) aw))) aw))) (aS GD r1 (by rfl) DD.m DD.F.kp DD.b .nil bS (bH (pv 0) (dO aq aw))) (fun _ _=>rfl)) aw)))))
    (ak (bF (i:=10) wg.nd rfl (Or.inl rfl) (fy aw))
    (ak (iz cI rfl (ip (hV oO (pv 2) j1 (iu (aS GD r1 (by rfl) DD.m DD.F.kp DD.b .nil bS (bH (pv 0) (nj (cL gW (cX (eF K (by rfl)) (by rfl) B.len cm (bH (pv 2) aw)) aq) aw)))))) (eD (i:=11) wg.nd rfl (Or.inl rfl)) (aG (eT (lY cv cJ cK gX (pv 10) (yR (eE (bH (pv 11) (jy (aS GS hr (by rfl) DS.m DS.F.kp DS.b .nil bS (bH (pv 0) (bH (pv 5) (bH (pv 6) (bH (pv 2) (bH (pv 3) (IZ (fy (dO aq aw)) (dO aq aw)))))))) aw))) aw) (hs:=xu)))))
    (aG (bR (eE (bH (pv 1) (bH (pv 7) (bH (pv 6) (bH (pv 8) (bH (pv 10) aw))))))))))))))),?_⟩
  have big:=fK
  have newp:∀ {G:Hp} {a:ae},eC G p->G a=none->a≠p:=fun {G a} h n=>by
    obtain ⟨x,y,e⟩:=h
    exact (aH e n).symm
  refine cA (dG ?_)
  refine ⟨_,rfl,p,9,rfl,pu,by decide,by decide,fun ln ss G1 fln hln lss nds pu1 b1=>?_⟩
  refine cj ?_
  dsimp only
  have nln:=newp pu fln
  refine cA (dG ?_)
  refine ⟨_,rfl,dr2 (K:=K) (ks:=[4,4,7]) (p:=p) rfl (by decide) (by decide) (by decide) rfl pu1 fun ra G2 ra0 ra1 pu2 b2=>⟨ra,rfl,ln,_,rfl,SqL.of (b2 _ _ hln nln),fun lb hlb=>?_⟩⟩
  obtain ⟨bs,ebs,lbs⟩:=tQ ss none (some ra)
  have ndb:bs.Nodup:=CJ ebs nds
  rw [ebs]
  have s2:=aR hlb (.lst (bs.map V.str))
  have nlb:=newp pu2 hlb
  refine cj ?_
  dsimp only
  refine cA (dG ?_)
  refine ⟨_,rfl,6,rfl,dr2 (K:=K) (ks:=[2,4]) (p:=p) rfl (by decide) (by decide) (by decide) rfl (pu2.same s2) fun rb G3 rb0 rb1 pu3 b3=>⟨_,_,rfl,rfl,_,rfl,ln,_,rfl,SqL.of (b3 _ _ (s2 _ _ (b2 _ _ hln nln)) nln),fun lq hlq=>?_⟩⟩
  obtain ⟨qs,eqs,lqs⟩:=tQ ss (some 6) (some (6 + rb))
  have ndq:qs.Nodup:=CJ eqs nds
  rw [eqs]
  have s3:=aR hlq (.lst (qs.map V.str))
  have nlq:=newp pu3 hlq
  refine cj ?_
  dsimp only
  have hlb3:=s3 _ _ (b3 _ _ (ao:upd G2 lb (.lst (bs.map V.str)) lb=_) nlb)
  have hlq3:=(ao:upd G3 lq (.lst (qs.map V.str)) lq=_)
  have b03:But p H (upd G3 lq (.lst (qs.map V.str))):=((((b1.trans b2).same s2).trans b3).same s3)
  have pu3':=pu3.same s3
  have fq0:H lb=none:=by
    cases e:H lb with
    | none=>rfl
    | some o =>
      rw [(b1.trans b2) lb o e nlb] at hlb
      cases hlb
  have fq1:H lq=none:=by
    cases e:H lq with
    | none=>rfl
    | some o =>
      rw [(((b1.trans b2).same s2).trans b3) lq o e nlq] at hlq
      cases hlq
  revert hlb3 hlq3 b03 pu3'
  clear s3
  generalize upd G3 lq (.lst (qs.map V.str))=G4
  intro hlb3 hlq3 b03 pu3'
  have nls:ls≠p:=gB pu hls
  have hls4:=b03 _ _ hls nls
  -- the first worths
  refine cA (dG ?_)
  refine A2 (K:=K) (a:=lb) (xs:=bs.map V.str) rfl (SqL.of hlb3) (fun i ys G=>ys.length=i/\eC G p/\But p G4 G/\∃ ps:List (Str×Int),ps.map (·.1)=bs.take i/\(∀ q∈ps,-4<=q.2/\q.2<=4)/\ff G ps ys) ⟨rfl,pu3',But.refl _ _,[],rfl,(fun q hq=>by cases hq),.nil⟩ ?_ ?_ ?_
  · rintro i ys G hi ⟨h1,h2,h3,_⟩
    rw [ah] at hi
    exact ⟨SqL.of (h3 _ _ hlb3 nlb),by omega⟩
  · rintro i x ys G hi ⟨h1,h2,h3,ps,h5,h6,h7⟩
    obtain ⟨y,hy,rfl,lt,tk⟩:=yU hi
    refine ⟨rfl,?_⟩
    unfold w6
    refine iJ ?_
    refine ⟨_,rfl,_,rfl,p,9,rfl,h2,by decide,by decide,fun r G' r0 r1' pu' b'=>⟨_,_,rfl,rfl,lt2,fun t ht=>?_⟩⟩
    have st_:=aR ht (.tup [.str y,.int (r - 4)])
    refine ⟨by rw [aI,h1]; rfl,pu'.same st_,(h3.trans b').same st_,ps++[(y,r - 4)],?_,fun q hq=>?_,?_⟩
    · rw [cy,h5,tk]
      rfl
    · rcases b8.mp hq with z | z
      · exact h6 q z
      · rw [aM.mp z]
        exact ⟨by show -4<=r - 4; omega,by show r - 4<=4; omega⟩
    · exact ff.snoc (ff.tups (fun a xs e=>st_ _ _ ((eK.but h2 b') _ _ e (pJ xs))) h7) ao
  rintro vb G5 ⟨h1,pu5,b5,ps,h5,h6,bx⟩ bl hbl
  rw [ah,eI] at h5
  have s5:=aR hbl (.lst vb)
  have nbl:=newp pu5 hbl
  refine cj ?_
  dsimp only
  have b45:But p G4 (upd G5 bl (.lst vb)):=b5.same s5
  refine genH (P:=fun G=>eC G p/\But p H G/\G bl=some (.lst vb)/\ff G ps vb/\G lb=some (.lst (bs.map V.str))/\G lq=some (.lst (qs.map V.str))/\G ls=some (.lst (sgs.map V.str))) ⟨pu5.same s5,b03.trans b45,ao,ff.same s5 bx,b45 _ _ hlb3 nlb,b45 _ _ hlq3 nlq,b45 _ _ hls4 nls⟩ fun G6 h6'=>?_
  obtain ⟨pu6,b06,hbl6,bx6,hlb6,hlq6,hls6⟩:=h6'
  have fbl:H bl=none:=by
    cases e:H bl with
    | none=>rfl
    | some o =>
      rw [(b03.trans b5) bl o e nbl] at hbl
      cases hbl
  clear b45 s5 hbl pu5 b5 hls4 hlb3 hlq3 b03 pu3' bx
  -- the draws
  refine cA (dG ?_)
  refine ⟨bK _,fun dl hdl=>?_⟩
  have s6:=aR hdl (.lst [])
  have ndl:=newp pu6 hdl
  have fdl:H dl=none:=by
    cases e:H dl with
    | none=>rfl
    | some o =>
      rw [b06 dl o e ndl] at hdl
      cases hdl
  refine cj ?_
  dsimp only
  refine cA ?_
  have c15:wO 10 15:=⟨by decide,by decide,by decide⟩
  refine dr2 (K:=K) (ks:=[4,4,21]) (p:=p) rfl (by decide) (by decide) (by decide) rfl (pu6.same s6) fun rc G7 rc0 rc1 pu7 b7=>⟨rc,rfl,by omega,by omega,kA (n:=rc.toNat) (fun i σ G=>∃ (ds:List Int) (v9:Option V),σ=[some (.ref p),some (.str nm),some (.ref ls),some (.int m),some (.ref ln),some (.ref lb),some (.ref lq),some (.ref bl),some (.ref dl),v9,none,none]/\G dl=some (.lst (ds.map V.int))/\ds.length=i/\i<=rc.toNat/\eC G p/\Kp [p,dl] G6 G)
    ⟨[],_,rfl,b7 _ _ ao ndl,rfl,bK _,pu7,fun b o e nb=>b7 _ _ (s6 _ _ e) (fun z=>nb (by rw [z]; exact aC))⟩ ?_ ?_⟩
  · rintro i σ G hi ⟨ds,v9,rfl,hd,ld,li,puG,kG⟩
    refine ⟨_,rfl,.inl ⟨rfl,_,SqL.of hd⟩,_,rfl,p,10,rfl,puG,by decide,by decide,fun a1 Ga a10 a11 pua ba=>⟨_,rfl,_,_,rfl,rfl,c15,_,_,rfl,rfl,p,_,rfl,pua,by decide,by decide,fun a2 Gb a20 a21 pub bb=>⟨lt2,fun l2 hl2=>?_⟩⟩⟩
    have sl2:=aR hl2 (.lst [.int a1,.int a2])
    have nl2:=newp pub hl2
    refine ⟨_,rfl,p,2,rfl,pub.same sl2,by decide,by decide,fun a3 Gc a30 a31 puc bc=>?_⟩
    obtain ⟨av,hav⟩:∃ av:Int,atI [V.int a1,.int a2] a3=some (.int av):=by
      obtain ⟨j,rfl⟩:∃ j:Nat,a3=(j:Int):=⟨a3.toNat,by omega⟩
      match j,a31 with
      | 0,_=>exact ⟨a1,rfl⟩
      | 1,_=>exact ⟨a2,rfl⟩
      | j + 2,h=>exact absurd h (by omega)
    have bGc:But p G Gc:=((ba.trans bb).same sl2).trans bc
    refine ⟨l2,_,_,_,rfl,rfl,SqL.of (bc _ _ ao nl2),hav,dl,_,_,rfl,rfl,bGc _ _ hd ndl,by rw [ah]; omega,?_⟩
    refine ⟨ds++[av],_,rfl,by rw [cy]; exact ao,by rw [aI,ld]; rfl,by omega,?_,fun b o e nb=>?_⟩
    · obtain ⟨x,y,e⟩:=puc
      exact ⟨x,y,bA e ndl.symm⟩
    · exact bA (bGc _ _ (kG b o e nb) (fun z=>nb (by rw [z]; exact aC))) (fun z=>nb (by rw [z]; exact af _ aC))
  rintro σ G8 ⟨ds,v9,rfl,hd8,ld,li,pu8,k8⟩
  dsimp only
  have old6:∀ {a:ae} {o:HO},G6 a=some o->a≠p->G8 a=some o:=fun {a o} e n=>k8 a o e (fun z=>by
    rcases ax.mp z with z | z
    · exact n z
    · rw [aM.mp z,hdl] at e
      cases e)
  have hbl8:=old6 hbl6 nbl
  have bx8:ff G8 ps vb:=ff.tups (fun a xs e=>old6 e (fun z=>by
    obtain ⟨x,y,q⟩:=pu6
    rw [z,q] at e
    cases e)) bx6
  have hlb8:=old6 hlb6 nlb
  have hlq8:=old6 hlq6 nlq
  have hls8:=old6 hls6 nls
  have b08:But p H G8:=fun b o e n=>old6 (b06 b o e n) n
  -- what is heard
  refine cA (dG ?_)
  refine ⟨bK _,fun hl hhl=>?_⟩
  have s8:=aR hhl (.lst [])
  have nhl:=newp pu8 hhl
  have fhl:H hl=none:=by
    cases e:H hl with
    | none=>rfl
    | some o =>
      rw [b08 hl o e nhl] at hhl
      cases hhl
  refine cj ?_
  dsimp only
  refine cA ?_
  refine ⟨_,rfl,_,rfl,_,rfl,ls,_,rfl,.inl (SqL.of (s8 _ _ hls8)),_,_,rfl,rfl,p,_,rfl,pu8.same s8,by omega,by rw [ah]; omega,fun rd G9 rd0 rd1 pu9 b9=>⟨rd,rfl,ls,_,rfl,SqL.of (b9 _ _ (s8 _ _ hls8) nls),fun lz hlz=>?_⟩⟩
  obtain ⟨zs,ezs,lzs⟩:=tQ sgs none (some rd)
  rw [ezs]
  have s9:=aR hlz (.lst (zs.map V.str))
  have up8:∀ {a:ae} {o:HO},G8 a=some o->a≠p->upd G9 lz (.lst (zs.map V.str)) a=some o:=fun {a o} e n=>s9 _ _ (b9 _ _ (s8 _ _ e) n)
  have hblC:=up8 hbl8 nbl
  have hlbC:=up8 hlb8 nlb
  have hlqC:=up8 hlq8 nlq
  have hlsC:=up8 hls8 nls
  have hdC:=up8 hd8 ndl
  have hhlC:upd G9 lz (.lst (zs.map V.str)) hl=some (.lst []):=s9 _ _ (b9 _ _ ao nhl)
  have bxC:ff (upd G9 lz (.lst (zs.map V.str))) ps vb:=ff.tups (fun a xs e=>up8 e (fun z=>by
    obtain ⟨x,y,q⟩:=pu8
    rw [z,q] at e
    cases e)) bx8
  have b0C:But p H (upd G9 lz (.lst (zs.map V.str))):=fun b o e n=>up8 (b08 b o e n) n
  have puC:=pu9.same s9
  have hlzC:upd G9 lz (.lst (zs.map V.str)) lz=some (.lst (zs.map V.str)):=ao
  have nbh:bl≠hl:=aH hbl8 hhl
  have nbb:lb≠hl:=aH hlb8 hhl
  have nqh:lq≠hl:=aH hlq8 hhl
  have nsh:ls≠hl:=aH hls8 hhl
  have ndh:dl≠hl:=aH hd8 hhl
  have nzh:lz≠hl:=(aH (b9 _ _ (ao:upd G8 hl (.lst []) hl=_) nhl) hlz).symm
  have nzp:=newp pu9 hlz
  refine ⟨lz,rfl,⟨_,SqL.of ao⟩,?_⟩
  revert hblC hlbC hlqC hlsC hdC hhlC bxC b0C puC hlzC
  clear up8
  generalize upd G9 lz (.lst (zs.map V.str))=C
  intro hblC hlbC hlqC hlsC hdC hhlC bxC b0C puC hlzC
  refine iY (K:=K) (a:=lz) (xs:=zs.map V.str) (fun i σ G=>∃ (hv:List V) (hs:List (Str×Ds)) (v11:Option V),σ=[some (.ref p),some (.str nm),some (.ref ls),some (.int m),some (.ref ln),some (.ref lb),some (.ref lq),some (.ref bl),some (.ref dl),v9,some (.ref hl),v11]/\G hl=some (.lst hv)/\hv.length=i/\i<=zs.length/\aX (HsO bs qs C G) hv hs/\(∀ q∈hs,q.2.toOk m/\q.2.deep<=4/\q.2.size<=3 * ddz 4)/\eC G p/\Kp [p,hl] C G)
    ⟨[],[],_,rfl,hhlC,rfl,bK _,.nil,(fun q hq=>by cases hq),puC,Kp.refl _ _⟩ ?_ ?_ ?_
  · rintro i σ G _ ⟨hv,hs,v11,rfl,h1,h2,h3,h4,h5,h6,h7⟩
    exact SqL.of (h7 _ _ hlzC (by simp [nzp,nzh]))
  · rintro i x σ G hi ⟨hv,hs,v11,rfl,hh,lhv,li2,hP,hk,puG,kG⟩
    obtain ⟨y,hy,rfl,lt,tk⟩:=yU hi
    refine ⟨_,rfl,.inl ⟨rfl,_,SqL.of hh⟩,_,rfl,_,rfl,_,rfl,_,rfl,_,rfl,_,rfl,yO,fun lf hlf=>?_⟩
    have sf:=aR hlf (.lst [.int 20])
    have L1:Lf (upd G lf (.lst [.int 20])) p lf:=⟨puG.same sf,20,ao⟩
    have N1:Nms (upd G lf (.lst [.int 20])) lb lq ls bs qs sgs:=⟨sf _ _ (kG _ _ hlbC (by simp [nlb,nbb])),sf _ _ (kG _ _ hlqC (by simp [nlq,nqh])),sf _ _ (kG _ _ hlsC (by simp [nls,nsh])),by omega,by omega,sg9,sg0⟩
    have hh1:=sf _ _ hh
    have nhf:hl≠lf:=aH hh hlf
    refine ⟨bs,qs,p,lb,lq,ls,lf,m,4,rfl,by decide,L1,N1,m0,m1,fun l xs dd G2 fl hl2 lxs O to dp sz L2' k2=>⟨lt2,fun t ht=>?_⟩⟩
    have st_:=aR ht (.tup [.str y,.ref l])
    have hh2:=k2 _ _ hh1 (by simp [nhl,nhf])
    refine ⟨hl,_,_,rfl,rfl,st_ _ _ hh2,by omega,?_⟩
    have ki:=(eK.same sf).trans ((k2.keepI L1.int).trans (eK.same st_))
    have nt3:∀ ys,upd G2 t (.tup [.str y,.ref l]) hl≠some (.tup ys):=fun ys z=>by
      rw [st_ _ _ hh2] at z
      cases z
    have olC:C hl≠none:=by
      rw [hhlC]
      intro z
      cases z
    have ol1:upd G lf (.lst [.int 20]) hl≠none:=by
      rw [hh1]
      intro z
      cases z
    have dmC:Dm C (upd G lf (.lst [.int 20])):=(kG.dm (fun a ha=>by
      rcases ax.mp ha with z | z
      · obtain ⟨x,y,q⟩:=puG
        exact ⟨_,by rw [z]; exact q⟩
      · exact ⟨_,by rw [aM.mp z]; exact hh⟩)).trans (Dm.same sf)
    have new:HsO bs qs C (upd (upd G2 t (.tup [.str y,.ref l])) hl (.lst (hv++[.ref t]))) (.ref t) (y,dd):=((show HsO bs qs (upd G lf (.lst [.int 20])) (upd G2 t (.tup [.str y,.ref l])) (.ref t) (y,dd) from ⟨t,l,xs,rfl,ao,fl,st_ _ _ hl2,lxs,O.keepI (eK.same st_)⟩).old ol1 nt3).base dmC
    refine ⟨hv++[.ref t],hs++[(y,dd)],_,rfl,ao,by rw [aI,lhv]; rfl,by omega,eU (Paired.mono (fun v q z=>(HsO.keepI ki z).old olC nt3) hP) new,fun q hq=>?_,?_,?_⟩
    · rcases b8.mp hq with z | z
      · exact hk q z
      · rw [aM.mp z]
        exact ⟨to,dp,sz⟩
    · obtain ⟨x,y',e⟩:=L2'.pu
      exact ⟨x,y',bA (st_ _ _ e) nhl.symm⟩
    · intro b o e nb
      have e1:=kG b o e nb
      have nbf:b≠lf:=aH e1 hlf
      have nb':¬ b=p/\¬ b=hl:=by simpa using nb
      exact bA (st_ _ _ (k2 _ _ (sf _ _ e1) (by simp [nb'.1,nbf]))) nb'.2
  rintro σ G ⟨hv,hs,v11,rfl,hh,lhv,li2,hP,hk,puG,kG⟩
  dsimp only
  have lhs:=bJ hP
  rw [ah] at lhv
  refine ⟨_,rfl,_,rfl,_,rfl,_,rfl,_,rfl,by show 5<=aJ; omega,fun t ht=>?_⟩
  have st_:=aR ht (.tup [.str nm,.ref bl,.ref lq,.ref dl,.ref hl])
  have bG:But p H G:=fun b o e n=>kG _ _ (b0C b o e n) (by
    have:b≠hl:=aH e fhl
    simp [n,this])
  have dmH:Dm H C:=fun a na=>by
    cases e:H a with
    | none=>rfl
    | some o =>
      by_cases c:a=p
      · obtain ⟨x,y,q⟩:=puC
        rw [c,q] at na
        cases na
      · rw [b0C a o e c] at na
        cases na
  refine k t _ bs qs ds hs ps ⟨⟨bl,lq,dl,hl,vb,hv,ao,st_ _ _ (kG _ _ hblC (by simp [nbl,nbh])),ff.same st_ (ff.tups (fun a xs e=>kG _ _ e (fun z=>?_)) bxC),st_ _ _ (kG _ _ hlqC (by simp [nlq,nqh])),st_ _ _ (kG _ _ hdC (by simp [ndl,ndh])),st_ _ _ hh,Paired.mono (fun v q z=>(HsO.keepI (eK.same st_) z).base dmH) hP,fbl,fq1,fdl,fhl⟩,h5,ndb,ndq,by omega,by omega,by omega,by omega,h6,hk⟩ (puG.same st_) (bG.same st_)
  rcases ax.mp z with z | z
  · obtain ⟨x,y,q⟩:=puC
    rw [z,q] at e
    cases e
  · rw [aM.mp z,hhlC] at e
    cases e
end
end My
namespace My
open PySem L2
structure MD where
  nm:Str
  bs:List Str
  qs:List Str
  ds:List Int
  hs:List (Str×Ds)
  ps:List (Str×Int)
def MIn (m:Int) (H H':Hp) (v:V) (M:MD):Prop:=∃ t,v=.ref t/\Mch m H H' t M.nm M.bs M.qs M.ds M.hs M.ps
theorem Mch.but {m:Int} {H H' H1:Hp} {t p:ae} {nm:Str} {bs qs:List Str} {ds:List Int} {hs:List (Str×Ds)} {ps:List (Str×Int)} (pu0:eC H p) (pu:eC H' p) (b:But p H' H1) (h:Mch m H H' t nm bs qs ds hs ps):Mch m H H1 t nm bs qs ds hs ps:=by
  have k:=eK.but pu b
  have np:∀ {a:ae},H a=none->a≠p:=fun {a} e z=>by
    obtain ⟨x,y,q⟩:=pu0
    rw [z,q] at e
    cases e
  obtain ⟨⟨bl,ql,dl,hl,vb,hv,h1,h2,h3,h4,h5,h6,h7,f1,f2,f3,f4⟩,kb,nb,nq,lb,lq,ld,lh,wb,hk⟩:=h
  exact ⟨⟨bl,ql,dl,hl,vb,hv,k _ _ h1 (pJ _),b _ _ h2 (np f1),ff.tups (fun a xs e=>k _ _ e (pJ xs)) h3,b _ _ h4 (np f2),b _ _ h5 (np f3),b _ _ h6 (np f4),Paired.mono (fun v q z=>HsO.keepI k z) h7,f1,f2,f3,f4⟩,kb,nb,nq,lb,lq,ld,lh,wb,hk⟩
theorem Mch.same {m:Int} {H H' H1:Hp} {t:ae} {nm:Str} {bs qs:List Str} {ds:List Int} {hs:List (Str×Ds)} {ps:List (Str×Int)} (b:bT H' H1) (h:Mch m H H' t nm bs qs ds hs ps):Mch m H H1 t nm bs qs ds hs ps:=by
  obtain ⟨⟨bl,ql,dl,hl,vb,hv,h1,h2,h3,h4,h5,h6,h7,f1,f2,f3,f4⟩,kb,nb,nq,lb,lq,ld,lh,wb,hk⟩:=h
  exact ⟨⟨bl,ql,dl,hl,vb,hv,b _ _ h1,b _ _ h2,ff.same b h3,b _ _ h4,b _ _ h5,b _ _ h6,Paired.mono (fun v q z=>HsO.keepI (eK.same b) z) h7,f1,f2,f3,f4⟩,kb,nb,nq,lb,lq,ld,lh,wb,hk⟩
theorem Mch.base {m:Int} {H0 H H':Hp} {t:ae} {nm:Str} {bs qs:List Str} {ds:List Int} {hs:List (Str×Ds)} {ps:List (Str×Int)} (s:Dm H0 H) (h:Mch m H H' t nm bs qs ds hs ps):Mch m H0 H' t nm bs qs ds hs ps:=by
  obtain ⟨⟨bl,ql,dl,hl,vb,hv,h1,h2,h3,h4,h5,h6,h7,f1,f2,f3,f4⟩,kb,nb,nq,lb,lq,ld,lh,wb,hk⟩:=h
  exact ⟨⟨bl,ql,dl,hl,vb,hv,h1,h2,h3,h4,h5,h6,Paired.mono (fun v q z=>HsO.base z s) h7,s _ f1,s _ f2,s _ f3,s _ f4⟩,kb,nb,nq,lb,lq,ld,lh,wb,hk⟩
theorem But.dm {p:ae} {H G:Hp} (b:But p H G) (pu:eC G p):Dm H G:=fun a n=>by
  cases e:H a with
  | none=>rfl
  | some o =>
    by_cases c:a=p
    · obtain ⟨x,y,q⟩:=pu
      rw [c,q] at n
      cases n
    · rw [b a o e c] at n
      cases n
section
variable {P:aW} {w:bO} {K:ag} {mg:Str->Option aa} {base:cE} {f fD fN fM:ae} {fd fdD fdN fdM:cu}
seal L2.PS L2.PSs L2.PE L2.PA L2.PT L2.PW L2.PI L2.PG L2.PGs L2.PC
abbrev nMo:List Str:=["_law_purse_here","_law_most","_law_many","_law_signs_here"]
abbrev pMo:List Str:=["_law_purse_here","_law_most"]
theorem Jj:bY nMo pMo (aF iE):=⟨rfl,rfl,rfl,by decide +kernel,rfl,by decide +kernel,by decide +kernel⟩
theorem ndMo:((["_law_name"]:List Str)++nMo).Nodup:=by decide +kernel
def spMo:Sp:=fun vs H Q _=>∃ (p:ae) (n:Int),vs=[.ref p,.int n]/\eC H p/\0 < n/\n<=9 /\
  ∀ (l:ae) (xs:List V) (Ms:List MD) (H':Hp),H l=none->H' l=some (.lst xs)->aX (MIn Ms.length H H') xs Ms->0 < Ms.length->(Ms.length:Int)<=n->(Ms.map MD.nm).Nodup->eC H' p->But p H H'->Q (.ref l) H'
theorem ok_mo (D:Df K mg "_law_model" iE pMo f fd) (DN:Df K mg "_law_names" iD ["_law_purse_here","_law_many"] fN fdN) (DM:Df K mg "_law_machine" gQ pMa fM fdM) (GM:∀ sgs,bX P w K mg base CX0 18 fM fdM pMa (Ji sgs)) (DD:Df K mg "_law_draw" d9 ["_law_purse_here","_law_out_of"] fD fdD) (B:Bl mg) :
    bX P w K mg base CX0 19 f fd pMo spMo:=by
  have GD:bX P w K mg base CX0 1 fD fdD ["_law_purse_here","_law_out_of"] jX:=j2 DD
  have GN:bX P w K mg base CX0 2 fN fdN ["_law_purse_here","_law_many"] wc:=xx DN DD B
  have GM:bX P w K mg base CX0 18 fM fdM pMa (fun vs H Q E=>∃ sgs,Ji sgs vs H Q E):=⟨fun vs H Q E h=>by
    obtain ⟨sgs,p,ls,nm,m,rfl,_⟩:=h
    rfl,fun A outer s H ar us vs Q E hr he hb hv h=>by
    obtain ⟨sgs,h⟩:=h
    exact (GM sgs).run A outer s H ar us vs Q E hr he hb hv h⟩
  refine D.F.ok Jj (fun vs H Q E h=>?_) (fun cdv A outer s H vs Q E hr h=>?_)
  · obtain ⟨p,n,rfl,_⟩:=h
    rfl
  obtain ⟨p,n,rfl,pu,n0,n9,k⟩:=h
  have r1:eA 1 _:=hr.mono (by decide)
  have r2:eA 2 _:=hr.mono (by decide)
  refine ⟨_,ak (bF (i:=2) Jj.nd rfl (Or.inr rfl) (cL gW aq (aS GD r1 (by rfl) DD.m DD.F.kp DD.b .nil bS (bH (pv 0) (bH (pv 1) aw)))))
    (ak (bF (i:=3) Jj.nd rfl (Or.inr rfl) (aS GN r2 (by rfl) DN.m DN.F.kp DN.b .nil bS (bH (pv 0) (dO aq aw))))
    (aG (bR (p9 ["_law_name"] (jv.open (NN:=nMo) (N:=nMo) (sc:=aF iE) rfl rfl (by decide +kernel) rfl (by decide +kernel) (by decide +kernel) rfl (by decide +kernel)) rfl (ip (aS GN r2 (by rfl) DN.m DN.F.kp DN.b .nil bS (bH (pv 0) (bH (pv 2) aw)))) (fun _ _ _ _=>eD (i:=0) ndMo rfl (Or.inl rfl)) (fun _ _ _ _=>mK) (fun _ _ _ _=>aS GM hr (by rfl) DM.m DM.F.kp DM.b .nil bS (bH (pv 1) (bH (pv 0) (bH (pv 4) (bH (pv 3) aw))))))))),?_⟩
  have big:=fK
  refine cA (dG ?_)
  refine ⟨_,rfl,_,rfl,p,n,rfl,pu,n0,by omega,fun r G1 r0 r1 pu1 b1=>⟨_,_,rfl,rfl,?_⟩⟩
  refine cj ?_
  dsimp only
  refine cA (dG ?_)
  refine ⟨_,rfl,p,4,rfl,pu1,by decide,by decide,fun ls sgs G2 fls hls lsg nds pu2 b2=>?_⟩
  refine cj ?_
  dsimp only
  refine ⟨_,rfl,_,rfl,p,1 + r,rfl,pu2,by omega,by omega,fun ln ss G3 fln hln lss ndn pu3 b3=>⟨ln,rfl,⟨_,SqL.of hln⟩,?_⟩⟩
  have nln:=gB pu3 hln
  have nls:=gB pu2 hls
  have hls3:=b3 _ _ hls nls
  have b03:But p H G3:=(b1.trans b2).trans b3
  have lsN:ss.length<=9:=by omega
  refine oP (K:=K) (a:=ln) (xs:=ss.map V.str) (fun i ys G=>ys.length=i/\eC G p/\But p G3 G/\∃ Ms:List MD,Ms.map MD.nm=ss.take i/\aX (MIn (1 + r) H G) ys Ms) ⟨rfl,pu3,But.refl _ _,[],rfl,.nil⟩ ?_ ?_ ?_
  · rintro i ys G hi ⟨h1,h2,h3,_⟩
    rw [ah] at hi
    exact ⟨SqL.of (h3 _ _ hln nln),by omega⟩
  · rintro i x ys G hi ⟨h1,h2,h3,Ms,h5,h6⟩
    obtain ⟨y,hy,rfl,lt,tk⟩:=yU hi
    refine ⟨rfl,?_⟩
    unfold w6
    refine iJ ?_
    refine ⟨_,rfl,_,rfl,_,rfl,_,rfl,sgs,p,ls,y,1 + r,rfl,h2,h3 _ _ hls3 nls,by omega,by omega,by omega,by omega,fun t G' bs qs ds hs ps M pu' b'=>?_⟩
    have b0G:But p H G:=b03.trans h3
    refine ⟨by rw [aI,h1]; rfl,pu',h3.trans b',Ms++[⟨y,bs,qs,ds,hs,ps⟩],?_,?_⟩
    · rw [cy,h5,tk]
      rfl
    · refine eU (Paired.mono (fun v q z=>?_) h6) ⟨t,rfl,M.base (b0G.dm h2)⟩
      obtain ⟨t',e,z⟩:=z
      exact ⟨t',e,z.but pu h2 b'⟩
  rintro ys G ⟨h1,pu4,b4,Ms,h5,h6⟩ l hl
  rw [ah,eI] at h5
  rw [ah] at h1
  have lM:Ms.length=ss.length:=by rw [<- h5,ah]
  have s5:=aR hl (.lst ys)
  have b04:But p H G:=b03.trans b4
  refine k l ys Ms _ (b04.dm pu4 l hl) ao ?_ (by omega) (by omega) (by rw [h5]; exact ndn) (pu4.same s5) (b04.same s5)
  rw [show ((Ms.length:Nat):Int)=1 + r from by omega]
  exact Paired.mono (fun v q z=>by
    obtain ⟨t',e,z⟩:=z
    exact ⟨t',e,z.same s5⟩) h6
end
end My
namespace My
open PySem L2
def Hrd (H:Hp) (x:V):Prop:=∃ (t hl:ae) (a b c d:V) (hv:List V),x=.ref t/\H t=some (.tup [a,b,c,d,.ref hl])/\H hl=some (.lst hv)/\hv.length<=9/\∀ v∈hv,∃ u s d,v=.ref u/\H u=some (.tup [.str s,d])
theorem Hrd.same {H H':Hp} {x:V} (s:bT H H') (h:Hrd H x):Hrd H' x:=by
  obtain ⟨t,hl,a,b,c,d,hv,e,h1,h2,h3,h4⟩:=h
  refine ⟨t,hl,a,b,c,d,hv,e,s _ _ h1,s _ _ h2,h3,fun v hv=>?_⟩
  obtain ⟨u,y,z,e,h5⟩:=h4 v hv
  exact ⟨u,y,z,e,s _ _ h5⟩
theorem Mch.hrd {m:Int} {H H':Hp} {t:ae} {nm:Str} {bs qs:List Str} {ds:List Int} {hs:List (Str×Ds)} {ps:List (Str×Int)} (h:Mch m H H' t nm bs qs ds hs ps):Hrd H' (.ref t):=by
  obtain ⟨⟨bl,ql,dl,hl,vb,hv,h1,h2,h3,h4,h5,h6,h7,f1,f2,f3,f4⟩,kb,nb,nq,lb,lq,ld,lh,wb,hk⟩:=h
  refine ⟨t,hl,_,_,_,_,hv,rfl,h1,h6,by rw [bJ h7]; exact lh,fun v m=>?_⟩
  obtain ⟨q,z⟩:∃ q,HsO bs qs H H' v q:=by
    clear h6 lh hk
    induction h7 with
    | nil=>cases m
    | cons a _ ih =>
      rcases ax.mp m with z | z
      · exact ⟨_,by rw [z]; exact a⟩
      · exact ih z
  obtain ⟨t',l,xs,e,h1,_⟩:=z
  exact ⟨t',_,_,e,h1⟩
theorem Hn (a b:Int) (k:Bool):atI [V.int a,.int b] (if k=true then 1 else 0)=some (.int (if k=true then b else a)):=by
  cases k <;> rfl
theorem zQ {P:Int->Prop} {a b:Int} (k:Bool) (ha:P a) (hb:P b):P (if k=true then b else a):=by
  cases k
  · exact ha
  · exact hb
theorem FS {ss:List Str} {r:Int} (h0:0<=r) (h1:r < ss.length):∃ s,atI (ss.map V.str) r=some (.str s):=by
  obtain ⟨j,rfl⟩:∃ j:Nat,r=(j:Int):=⟨r.toNat,by omega⟩
  have lt:j < ss.length:=by omega
  exact ⟨ss[j],gy (by rw [cC,aA lt]; rfl)⟩
theorem Dz {K:ag} {a t:ae} {xs ts:List V} {c:Int} {n i:Nat} {g:TG} {tc:L2.TT} {te:TE} {σ:St} {H:Hp} {Q:VK} (hv:σ[i]?=some (some (.ref t))) (ht:SqT K H t ts) (hat:atI ts c=some (.ref a)) (hx:SqL K H a xs) (Pv:Nat->List V->Hp->Prop) (h0:Pv 0 [] H) (hl:∀ i ys H,i<=xs.length->Pv i ys H->SqL K H a xs/\ys.length < aJ)
    (hs:∀ i x ys H,xs[i]?=some x->Pv i ys H->g x (cO n none++σ) H fun σ2 H2=>σ2.drop n=σ/\tc σ2 H2 fun b H3=>if b=true then te σ2 H3 fun y H4=>Pv (i + 1) (ys++[y]) H4 else Pv (i + 1) ys H3)
    (hd:∀ ys H,Pv xs.length ys H->∀ p,H p=none->Q (.ref p) (upd H p (.lst ys))):tu n (Bw K (tOp (HR K) (qE i) (tC (.int c)))) g tc te σ H Q:=
  ⟨.ref t,hv,t,ts,c,_,rfl,rfl,ht,hat,a,rfl,⟨xs,hx⟩,oP Pv h0 hl hs hd⟩
structure SgOk (m:Nat) (e:Ev):Prop where
  t:0<=e.t/\e.t<=1000000
  r:0<=e.r/\e.r<=9
  to:0<=e.to/\e.to < m
  a:-4<=e.a/\e.a<=4
  b:-1000000000000000<=e.b/\e.b<=1000000000000000
theorem mh.keepI {H H':Hp} (s:eK H H') {v:V} {e:Ev} (h:mh H v e):mh H' v e:=by
  obtain ⟨t,z,h⟩:=h
  exact ⟨t,z,s _ _ h (pJ _)⟩
section
variable {P:aW} {w:bO} {K:ag} {mg:Str->Option aa} {base:cE} {f fD:ae} {fd fdD:cu}
seal L2.PS L2.PSs L2.PE L2.PA L2.PT L2.PW L2.PI L2.PG L2.PGs L2.PC
abbrev nSg:List Str:=["_law_purse_here","_law_machines","_law_most","_law_found","_law_heard","_law_machine_here","_law_k","_law_time","_law_sign","_law_one","_law_other"]
abbrev nnSg:List Str:=["_law_purse_here","_law_machines","_law_most","_law_found","_law_heard","_law_machine_here","_law_k","_law_time","-","_law_one","_law_other"]
abbrev pSg:List Str:=["_law_purse_here","_law_machines","_law_most"]
theorem uq:bY nSg pSg (aF iF):=⟨rfl,rfl,rfl,by decide +kernel,rfl,by decide +kernel,by decide +kernel⟩
theorem ndSg:(((["_law_sign","_law_deeds_here"]:List Str))++nnSg).Nodup:=by decide +kernel
def spSg:Sp:=fun vs H Q _=>∃ (p lm:ae) (n:Int) (ms:List V),vs=[.ref p,.ref lm,.int n]/\eC H p/\H lm=some (.lst ms)/\lm≠p/\(∀ x∈ms,Hrd H x)/\0 < ms.length/\ms.length<=9/\0<=n/\n<=99 /\
  ∀ (l:ae) (xs:List V) (es:List Ev) (H':Hp),H l=none->H' l=some (.lst xs)->aX (mh H') xs es->(es.length:Int)<=n->(∀ e∈es,SgOk ms.length e)->eC H' p->But p H H'->Q (.ref l) H'
theorem ok_sg (D:Df K mg "_law_signs" iF pSg f fd) (DD:Df K mg "_law_draw" d9 ["_law_purse_here","_law_out_of"] fD fdD) (B:Bl mg) :
    bX P w K mg base CX0 2 f fd pSg spSg:=by
  have GD:bX P w K mg base CX0 1 fD fdD ["_law_purse_here","_law_out_of"] jX:=j2 DD
  refine D.F.ok uq (fun vs H Q E h=>?_) (fun cdv A outer s H vs Q E hr h=>?_)
  · obtain ⟨p,lm,n,ms,rfl,_⟩:=h
    rfl
  obtain ⟨p,lm,n,ms,rfl,pu,hlm,nlm,hH,m0,m9,n0,n9,k⟩:=h
  have r1:eA 1 _:=hr.mono (by decide)
  refine ⟨_,ak (bF (i:=3) uq.nd rfl (Or.inl rfl) (fy aw))
    (ak (bF (i:=4) uq.nd rfl (Or.inl rfl) (fy (dO cG aw)))
    (ak (iz cI rfl (ip (pv 1)) (eD (i:=5) uq.nd rfl (Or.inl rfl)) (aG (bF (i:=4) uq.nd rfl (Or.inl rfl) (cL BX (pv 4) (p9 ["_law_sign","_law_deeds_here"] (jv.open (NN:=nnSg) (N:=nSg) (sc:=aF iF) rfl rfl (by decide +kernel) rfl (by decide +kernel) (by decide +kernel) rfl (by decide +kernel)) rfl (ip (bN cz (pv 5) aq (fun _ _=>rfl))) (fun _ _ _ _=>zL (n:=2) K (by rfl) rfl (lV (eD (i:=0) ndSg rfl (Or.inl rfl)) (lV (eD (i:=1) ndSg rfl (Or.inl rfl)) vp))) (fun _ _ _ _=>mK) (fun _ _ _ _=>pv 0))))))
    (ak (iz cI rfl (jK (by rfl) B.range (jy (aS GD r1 (by rfl) DD.m DD.F.kp DD.b .nil bS (bH (pv 0) (nj (cL gW (pv 2) aq) aw))) aw)) (eD (i:=6) uq.nd rfl (Or.inl rfl)) (ak (bF (i:=7) uq.nd rfl (Or.inl rfl) (bN cU (fy (jy (aS GD r1 (by rfl) DD.m DD.F.kp DD.b .nil bS (bH (pv 0) (dO aq aw))) (jy (aS GD r1 (by rfl) DD.m DD.F.kp DD.b .nil bS (bH (pv 0) (nj (cL gW (cL mE aq aq) aq) aw))) aw))) (jL uz (by rfl) B.int boot_int (au (oJ eO (aS GD r1 (by rfl) DD.m DD.F.kp DD.b .nil bS (bH (pv 0) (dO aq aw))) aq (cg _)) aw)) (fun _ _=>rfl)))
    (ak (bF (i:=8) uq.nd rfl (Or.inl rfl) (bN cU (pv 4) (aS GD r1 (by rfl) DD.m DD.F.kp DD.b .nil bS (bH (pv 0) (jy (cX (eF K (by rfl)) (by rfl) B.len cm (bH (pv 4) aw)) aw))) (fun _ _=>rfl)))
    (ak (bF (i:=9) uq.nd rfl (Or.inl rfl) (cL jc (aS GD r1 (by rfl) DD.m DD.F.kp DD.b .nil bS (bH (pv 0) (dO aq aw))) aq))
    (ak (bF (i:=10) uq.nd rfl (Or.inl rfl) (bN cU (fy (dO aq (nj (cL jc (aS GD r1 (by rfl) DD.m DD.F.kp DD.b .nil bS (bH (pv 0) (nj (cL gW (cL mC aq (cL mE aq aq)) aq) aw))) (cL mE aq aq)) aw))) (jL uz (by rfl) B.int boot_int (au (oJ eO (aS GD r1 (by rfl) DD.m DD.F.kp DD.b .nil bS (bH (pv 0) (dO aq aw))) aq (cg _)) aw)) (fun _ _=>rfl)))
    (aG (eT (lY cv cJ cK gX (pv 3) (yR (eE (bH (pv 7) (jy (aS GD r1 (by rfl) DD.m DD.F.kp DD.b .nil bS (bH (pv 0) (dO aq aw))) (jy (aS GD r1 (by rfl) DD.m DD.F.kp DD.b .nil bS (bH (pv 0) (jy (cX (eF K (by rfl)) (by rfl) B.len cm (bH (pv 1) aw)) aw))) (bH (pv 8) (bH (pv 9) (bH (pv 10) aw))))))) aw) (hs:=xu)))))))))
    (aG (bR (pv 3)))))),?_⟩
  have big:=fK
  have newp:∀ {G:Hp} {a:ae},eC G p->G a=none->a≠p:=fun {G a} h n=>by
    obtain ⟨x,y,e⟩:=h
    exact (aH e n).symm
  refine cA (dG ?_)
  refine ⟨bK _,fun lf hlf=>?_⟩
  have s1:=aR hlf (.lst [])
  have nlf:=newp pu hlf
  refine cj ?_
  dsimp only
  refine cA (dG ?_)
  refine ⟨yO,fun lh hlh=>?_⟩
  have s2:=aR hlh (.lst [.str "none"])
  have nlh:=newp (pu.same s1) hlh
  refine cj ?_
  dsimp only
  have hlf2:=s2 _ _ (ao:upd H lf (.lst []) lf=_)
  have hlh2:upd (upd H lf (.lst [])) lh (.lst [.str "none"]) lh=some (.lst [.str "none"]):=ao
  have s12:=s1.trans s2
  revert hlf2 hlh2 s12
  clear s1 s2
  generalize upd (upd H lf (.lst [])) lh (.lst [.str "none"])=G1
  intro hlf2 hlh2 s12
  refine cA ?_
  refine ⟨_,rfl,lm,rfl,⟨_,SqL.of (s12 _ _ hlm)⟩,?_⟩
  refine iY (K:=K) (a:=lm) (xs:=ms) (fun i σ G=>∃ (lh:ae) (ss:List Str) (v5:Option V),σ=[some (.ref p),some (.ref lm),some (.int n),some (.ref lf),some (.ref lh),v5,none,none,none,none,none]/\G lh=some (.lst (ss.map V.str))/\lh≠p/\lh≠lf/\0 < ss.length/\ss.length<=1 + 9 * i/\bT G1 G)
    ⟨lh,["none"],_,rfl,hlh2,nlh,(fun z=>by rw [z,ao] at hlh; cases hlh),by decide,by decide,fun _ _ e=>e⟩ ?_ ?_ ?_
  · rintro i σ G _ ⟨lh,ss,v5,rfl,h1,h2,h3,h4,h5,h6⟩
    exact SqL.of (h6 _ _ (s12 _ _ hlm))
  · rintro i x σ G hi ⟨lh,ss,v5,rfl,h1,h2,h3,h4,h5,h6⟩
    have li:i < ms.length:=(aB.mp hi).1
    obtain ⟨t,hl,a,b,c,d,hv,rfl,ht,hhl,lv,hu⟩:=(hH x (bQ hi)).same (s12.trans h6)
    refine cj ?_
    dsimp only
    refine dG ?_
    refine ⟨_,rfl,?_⟩
    refine Dz (K:=K) (a:=hl) (xs:=hv) rfl (SqT.of ht) rfl (SqL.of hhl) (fun i ys G'=>G'=G/\∃ zs:List Str,ys=zs.map V.str/\zs.length=i) ⟨rfl,[],rfl,rfl⟩ ?_ ?_ ?_
    · rintro i ys G' hi ⟨rfl,zs,rfl,lz⟩
      exact ⟨SqL.of hhl,by rw [ah]; omega⟩
    · rintro i y ys G' hi ⟨rfl,zs,rfl,lz⟩
      obtain ⟨u,sg,dd,rfl,hu⟩:=hu y (bQ hi)
      refine ⟨u,_,rfl,SqT.of hu,rfl,_,_,rfl,_,_,rfl,rfl,?_⟩
      refine ⟨rfl,?_⟩
      unfold w6
      refine iJ ?_
      exact ⟨_,rfl,rfl,zs++[sg],by rw [cy]; rfl,by rw [aI,lz]; rfl⟩
    rintro ys G' ⟨rfl,zs,rfl,lz⟩ l hl'
    have s3:=aR hl' (.lst (zs.map V.str))
    refine ⟨lh,l,_,_,rfl,rfl,s3 _ _ h1,ao,by rw [ah,ah]; omega,fun q hq=>?_⟩
    have s4:=aR hq (.lst (ss.map V.str++zs.map V.str))
    have nq:q≠p:=newp (((pu.same s12).same h6).same s3) hq
    refine ⟨q,ss++zs,_,rfl,by rw [cy]; exact ao,nq,?_,by rw [aI]; omega,by rw [aI]; omega,(h6.trans s3).trans s4⟩
    exact (aH (s3 _ _ (h6 _ _ hlf2)) hq).symm
  rintro σ G2 ⟨lh,ss,v5,rfl,h1,h2,h3,h4,h5,h6⟩
  dsimp only
  have pu2:=(pu.same s12).same h6
  have hlm2:=h6 _ _ (s12 _ _ hlm)
  have hlf3:=h6 _ _ hlf2
  have sH2:bT H G2:=s12.trans h6
  have nmf:lm≠lf:=aH hlm hlf
  clear h6 hlf2 hlh2 s12 hlh nlh
  have c6:wO 10 6:=⟨by decide,by decide,by decide⟩
  have c15:wO 10 15:=⟨by decide,by decide,by decide⟩
  refine cA ?_
  refine ⟨_,rfl,_,rfl,_,_,rfl,rfl,p,n + 1,rfl,pu2,by omega,by omega,fun rc G3 rc0 rc1 pu3 b3=>⟨rc,rfl,by omega,by omega,kA (n:=rc.toNat) (fun i σ G=>∃ (xs:List V) (es:List Ev) (v6 v7 v8 v9 v10:Option V),σ=[some (.ref p),some (.ref lm),some (.int n),some (.ref lf),some (.ref lh),v5,v6,v7,v8,v9,v10]/\G lf=some (.lst xs)/\aX (mh G) xs es/\xs.length=i/\(∀ e∈es,SgOk ms.length e)/\eC G p/\Kp [p,lf] G2 G)
    ⟨[],[],_,_,_,_,_,rfl,b3 _ _ hlf3 nlf,.nil,rfl,(fun e he=>by cases he),pu3,Kp.but b3 aC⟩ ?_ ?_⟩⟩
  · rintro i σ G hi ⟨xs,es,v6,v7,v8,v9,v10,rfl,hf,hP,lx,hok,puG,kG⟩
    have hlhG:=kG _ _ h1 (by simp [h2,h3])
    have hlmG:=kG _ _ hlm2 (by simp [nlm,nmf])
    refine cj ?_
    dsimp only
    refine cA (dG ?_)
    refine ⟨_,rfl,p,6,rfl,puG,by decide,by decide,fun a1 Ga a10 a11 pua ba=>⟨_,rfl,_,_,rfl,rfl,c6,_,_,rfl,rfl,p,_,rfl,pua,by decide,by decide,fun a2 Gb a20 a21 pub bb=>⟨lt2,fun l2 hl2=>?_⟩⟩⟩
    have sl2:=aR hl2 (.lst [.int a1,.int a2])
    have nl2:=newp pub hl2
    refine ⟨_,rfl,p,9,rfl,pub.same sl2,by decide,by decide,fun a3 Gc a30 a31 puc bc=>⟨rfl,.inr ⟨_,rfl,l2,_,_,_,rfl,rfl,SqL.of (bc _ _ ao nl2),Hn a1 a2 _,?_⟩⟩⟩
    have tI:=fun k:Bool=>zQ (P:=fun t=>0<=t/\t<=1000000) k ⟨a10,by omega⟩ ⟨a20,by
      have:a2 < 1000001:=a21
      omega⟩
    refine cj ?_
    dsimp only
    have tI':=tI (decide (V.int a3=V.int 1))
    revert tI'
    generalize (if decide (V.int a3=V.int 1)=true then a2 else a1)=tm
    intro tI'
    have bGc:But p G Gc:=((ba.trans bb).same sl2).trans bc
    refine cA (dG ?_)
    refine ⟨_,rfl,_,rfl,_,rfl,lh,_,rfl,.inl (SqL.of (bGc _ _ hlhG h2)),p,_,rfl,puc,by rw [ah]; omega,by rw [ah]; omega,fun r4 Gd r40 r41 pud bd=>?_⟩
    rw [ah] at r41
    obtain ⟨sg,hsg⟩:=FS r40 r41
    refine ⟨lh,_,_,_,rfl,rfl,SqL.of (bd _ _ (bGc _ _ hlhG h2) h2),hsg,?_⟩
    refine cj ?_
    dsimp only
    refine cA (dG ?_)
    refine ⟨_,rfl,p,9,rfl,pud,by decide,by decide,fun r5 Ge r50 r51 pue be=>⟨_,_,rfl,rfl,?_⟩⟩
    refine cj ?_
    dsimp only
    refine cA (dG ?_)
    refine ⟨_,rfl,_,_,rfl,rfl,c15,_,_,rfl,rfl,.inl ⟨by decide,by decide⟩,_,_,rfl,rfl,?_⟩
    refine ⟨p,_,rfl,pue,by decide,by decide,fun r6 Gf r60 r61 puf bf=>⟨_,_,rfl,rfl,c15,_,_,rfl,rfl,lt2,fun l3 hl3=>?_⟩⟩
    have sl3:=aR hl3 (.lst [.int 0,.int (r6 - 10 ^ (15:Int).toNat)])
    have nl3:=newp puf hl3
    refine ⟨_,rfl,p,9,rfl,puf.same sl3,by decide,by decide,fun r7 Gg r70 r71 pug bg=>⟨rfl,.inr ⟨_,rfl,l3,_,_,_,rfl,rfl,SqL.of (bg _ _ ao nl3),Hn _ _ _,?_⟩⟩⟩
    have oI:=zQ (P:=fun t=>-1000000000000000<=t/\t<=1000000000000000) (decide (V.int r7=V.int 1)) (a:=0) (b:=r6 - 10 ^ (15:Int).toNat) ⟨by decide,by decide⟩ (by
      have e1:r6 < 2000000000000001:=r61
      have e2:(10:Int) ^ (15:Int).toNat=1000000000000000:=by decide
      rw [e2]
      exact ⟨by omega,by omega⟩)
    refine cj ?_
    dsimp only
    revert oI
    generalize (if decide (V.int r7=V.int 1)=true then r6 - 10 ^ (15:Int).toNat else 0)=ot
    intro oI
    have bGg:But p G Gg:=((((bGc.trans bd).trans be).trans bf).same sl3).trans bg
    refine ⟨_,rfl,.inl ⟨rfl,_,SqL.of (bGg _ _ hf nlf)⟩,_,rfl,_,rfl,p,10,rfl,pug,by decide,by decide,fun rk Gh rk0 rk1 puh bh=>⟨_,rfl,_,rfl,lm,_,rfl,.inl (SqL.of (bh _ _ (bGg _ _ hlmG nlm) nlm)),p,_,rfl,puh,by omega,by omega,fun to Gi to0 to1 pui bi=>⟨_,rfl,_,rfl,_,rfl,by show 6<=aJ; omega,fun t ht=>?_⟩⟩⟩
    have st_:=aR ht (.tup [.int tm,.int rk,.int to,.str sg,.int (r5 - 4),.int ot])
    have bGi:But p G Gi:=(bGg.trans bh).trans bi
    have hf1:=st_ _ _ (bGi _ _ hf nlf)
    refine ⟨lf,_,_,rfl,rfl,hf1,by omega,?_⟩
    have ki:eK G (upd Gi t (.tup [.int tm,.int rk,.int to,.str sg,.int (r5 - 4),.int ot])):=(eK.but puG bGi).trans (eK.same st_)
    have ntf:∀ {b:ae} {ys:List V},upd Gi t (.tup [.int tm,.int rk,.int to,.str sg,.int (r5 - 4),.int ot]) b=some (.tup ys)->b≠lf:=fun {b ys} e z=>by
      rw [z,hf1] at e
      cases e
    refine ⟨xs++[.ref t],es++[⟨tm,rk,0,0,to,sg,r5 - 4,ot⟩],_,_,_,_,_,rfl,ao,eU (Paired.mono (fun v q z=>?_) hP) ⟨t,rfl,bA ao (ntf ao)⟩,by rw [aI,lx]; rfl,fun e he=>?_,?_,?_⟩
    · obtain ⟨t',e,z⟩:=mh.keepI ki z
      exact ⟨t',e,bA z (ntf z)⟩
    · rcases b8.mp he with z | z
      · exact hok e z
      · rw [aM.mp z]
        exact ⟨tI',⟨rk0,by show rk<=9; omega⟩,⟨to0,to1⟩,⟨by show -4<=r5 - 4; omega,by show r5 - 4<=4; omega⟩,oI⟩
    · obtain ⟨x,y,e⟩:=pui
      exact ⟨x,y,bA (st_ _ _ e) nlf.symm⟩
    · intro b o e nb
      have nb':¬ b=p/\¬ b=lf:=by simpa using nb
      exact bA (st_ _ _ (bGi _ _ (kG b o e nb) nb'.1)) nb'.2
  · rintro σ G ⟨xs,es,v6,v7,v8,v9,v10,rfl,hf,hP,lx,hok,puG,kG⟩
    dsimp only
    refine ⟨_,rfl,?_⟩
    have lP:=bJ hP
    exact k lf xs es G hlf hf hP (by omega) hok puG fun b o e nb=>kG _ _ (sH2 _ _ e) (by
      have:b≠lf:=aH e hlf
      simp [nb,this])
end
end My
namespace My
open PySem L2
theorem qm {H:Hp}:∀ {ps:List (Str×Int)} {vs:List V},ff H ps vs->aX (fun v (x:Str)=>∃ a n,v=.ref a/\H a=some (.tup [.str x,n])) vs (ps.map (·.1))
  | [],_,h=>by
    cases h
    exact .nil
  | p :: ps,_,h=>by
    cases h with
    | cons a b =>
      obtain ⟨t,e,h⟩:=a
      exact .cons ⟨t,_,e,h⟩ (qm (ps:=ps) b)
theorem kP {α:Type} {R:V->α->Prop}:∀ {xs:List V} {as:List α},aX R xs as->∀ x∈xs,∃ a∈as,R x a
  | _,_,.nil,_,h=>by cases h
  | _,_,.cons a b,x,h=>by
    rcases ax.mp h with z | z
    · exact ⟨_,aC,by rw [z]; exact a⟩
    · obtain ⟨c,hc,r⟩:=kP b x z
      exact ⟨c,af _ hc,r⟩
def yV (H:Hp) (v:V) (M:MD):Prop:=∃ (t bl ql:ae) (n0 x3 x4:V) (vb:List V),v=.ref t/\H t=some (.tup [n0,.ref bl,.ref ql,x3,x4])/\H bl=some (.lst vb)/\ff H M.ps vb/\H ql=some (.lst (M.qs.map V.str))
structure MoI (m:Int) (H:Hp) (v:V) (M:MD):Prop where
  ma:tM M.bs M.qs M.ds M.hs H v
  fs:yV H v M
  kb:M.ps.map (·.1)=M.bs
  nb:M.bs.Nodup
  nq:M.qs.Nodup
  lb:M.bs.length<=9
  lq:M.qs.length<=9
  ld:M.ds.length<=100
  lh:M.hs.length<=9
  wb:∀ q∈M.ps,-4<=q.2/\q.2<=4
  hk:∀ q∈M.hs,q.2.toOk m/\q.2.deep<=4/\q.2.size<=3 * ddz 4
theorem yV.same {H H':Hp} (s:bT H H') {v:V} {M:MD} (h:yV H v M):yV H' v M:=by
  obtain ⟨t,bl,ql,n0,x3,x4,vb,e,h1,h2,h3,h4⟩:=h
  exact ⟨t,bl,ql,n0,x3,x4,vb,e,s _ _ h1,s _ _ h2,h3.same s,s _ _ h4⟩
theorem MoI.same {m:Int} {H H':Hp} (s:bT H H') {v:V} {M:MD} (h:MoI m H v M):MoI m H' v M:=
  ⟨h.ma.same s,h.fs.same s,h.kb,h.nb,h.nq,h.lb,h.lq,h.ld,h.lh,h.wb,h.hk⟩
theorem MIn.moI {m:Int} {H H':Hp} {v:V} {M:MD} (h:MIn m H H' v M):MoI m H' v M:=by
  obtain ⟨t,rfl,⟨bl,ql,dl,hl,vb,hv,h1,h2,h3,h4,h5,h6,h7,f1,f2,f3,f4⟩,kb,nb,nq,lb,lq,ld,lh,wb,hk⟩:=h
  refine ⟨⟨t,bl,ql,dl,hl,_,vb,hv,rfl,h1,h2,by rw [<- kb]; exact qm h3,h4,h5,h6,Paired.mono (fun v q z=>?_) h7⟩,⟨t,bl,ql,_,_,_,vb,rfl,h1,h2,h3,h4⟩,kb,nb,nq,lb,lq,ld,lh,wb,hk⟩
  obtain ⟨u,l,xs,e,g1,g2,g3,g4,g5⟩:=z
  exact ⟨u,.ref l,e,g1,l,xs,rfl,g3,g4,g5.now⟩
theorem MIn.tree {m:Int} {H H':Hp} {v:V} {M:MD} (h:MIn m H H' v M):Tree H' 28 v:=by
  obtain ⟨t,rfl,⟨bl,ql,dl,hl,vb,hv,h1,h2,h3,h4,h5,h6,h7,f1,f2,f3,f4⟩,kb,nb,nq,lb,lq,ld,lh,wb,hk⟩:=h
  have lps:M.ps.length<=9:=by
    have:=congrArg pf kb
    rw [ah] at this
    omega
  refine Tree.atup h1 (by show 5 < 1000; decide) fun y hy=>?_
  simp only [ax,bz,or_false] at hy
  rcases hy with rfl | rfl | rfl | rfl | rfl
  · exact Tree.scal (by exact trivial) _
  · exact Tree.alst h2 (by rw [<- h3.length]; omega) fun z hz=>h3.tree (n:=25) z hz
  · refine Tree.alst h4 (by rw [ah]; omega) fun z hz=>?_
    obtain ⟨x,_,rfl⟩:=cN.mp hz
    exact Tree.scal (by exact trivial) _
  · refine Tree.alst h5 (by rw [ah]; omega) fun z hz=>?_
    obtain ⟨x,_,rfl⟩:=cN.mp hz
    exact Tree.scal (by exact trivial) _
  · refine Tree.alst h6 (by rw [bJ h7]; omega) fun z hz=>?_
    obtain ⟨q,hq,u,l,xs,rfl,g1,g2,g3,g4,g5⟩:=kP h7 z hz
    refine Tree.atup g1 (by show 2 < 1000; decide) fun y hy=>?_
    simp only [ax,bz,or_false] at hy
    rcases hy with rfl | rfl
    · exact Tree.scal (by exact trivial) _
    · exact Tree.alst g3 g4 fun z hz=>fg.tree q.2 xs 24 g5.now (by have:=(hk q hq).2.1; omega) z hz
theorem yV.alike {H H':Hp} {v v':V} {M:MD} (h:yV H v M) (al:Alike H H' 28 v v'):yV H' v' M:=by
  obtain ⟨t,bl,ql,n0,x3,x4,vb,rfl,h1,h2,h3,h4⟩:=h
  obtain ⟨t',ys2,rfl,al2,p3⟩:=qX h1 al
  obtain ⟨z0,yr,rfl,a0,p3⟩:=dE p3
  obtain ⟨z1,yr,rfl,a1,p3⟩:=dE p3
  obtain ⟨z2,yr,rfl,a2,p3⟩:=dE p3
  obtain ⟨z3,yr,rfl,a3,p3⟩:=dE p3
  obtain ⟨z4,yr,rfl,a4,p3⟩:=dE p3
  obtain rfl:=mf p3
  obtain ⟨b',vb',rfl,c1,d1⟩:=oR h2 a1
  obtain ⟨q',vq,rfl,c2,d2⟩:=oR h4 a2
  rw [iQ d2 (by intro x hx; obtain ⟨z,_,rfl⟩:=cN.mp hx; exact trivial)] at c2
  exact ⟨t',b',q',z0,z3,z4,vb',rfl,al2,c1,h3.alike d1,c2⟩
def DG (m:Int) (H:Hp) (ml:ae) (Ms:List MD):Prop:=∃ xs,H ml=some (.lst xs)/\aX (MoI m H) xs Ms
theorem DG.same {m:Int} {H H':Hp} (s:bT H H') {ml:ae} {Ms:List MD} (h:DG m H ml Ms):DG m H' ml Ms:=by
  obtain ⟨xs,h1,h2⟩:=h
  exact ⟨xs,s _ _ h1,Paired.mono (fun _ _ z=>z.same s) h2⟩
theorem FT {m:Int} {H0 H:Hp} {ml:ae} {xs:List V} {Ms:List MD} (h:H ml=some (.lst xs)) (p:aX (MIn m H0 H) xs Ms) (l:Ms.length < 1000):Tree H 29 (.ref ml):=
  Tree.alst h (by rw [bJ p]; exact l) fun x hx=>by
    obtain ⟨M,_,z⟩:=kP p x hx
    exact z.tree
theorem FU {m:Int} {H0 H H2:Hp} {ml:ae} {xs:List V} {Ms:List MD} {v':V} (h:H ml=some (.lst xs)) (p:aX (MIn m H0 H) xs Ms) (al:Alike H H2 29 (.ref ml) v'):∃ ml',v'=.ref ml'/\DG m H2 ml' Ms:=by
  obtain ⟨ml',ys,rfl,h1,p1⟩:=oR h al
  refine ⟨ml',rfl,ys,h1,oV (R:=MIn m H0 H) (S:=Alike H H2 28) (T:=Tree H 28) (fun v M v' a b c=>?_) p p1 fun x hx=>?_⟩
  · have z:=a.moI
    exact ⟨z.ma.alike c b,z.fs.alike b,z.kb,z.nb,z.nq,z.lb,z.lq,z.ld,z.lh,z.wb,z.hk⟩
  · obtain ⟨M,_,z⟩:=kP p x hx
    exact z.tree
end My
namespace My
open PySem L2
abbrev oG (zs:List (V×List Int)):Prop:=zs.Pairwise (fun a b=>HT.lexLt b.2 a.2=true)
theorem oG.put {zs:List (V×List Int)} {x:V×List Int} {i:Nat} (h:oG zs) (h1:∀ (j:Nat) z,j < i->zs[j]?=some z->HT.lexLt x.2 z.2=true) (h2:∀ (j:Nat) z,i<=j->zs[j]?=some z->HT.lexLt z.2 x.2=true):oG (zs.take i++x :: zs.drop i):=by
  have a1:∀ a∈zs.take i,HT.lexLt x.2 a.2=true:=fun a ha=>by
    obtain ⟨j,hj⟩:=cV ha
    have lt:j < (zs.take i).length:=(aB.mp hj).1
    rw [cW] at lt
    rw [mw (by omega)] at hj
    exact h1 j a (by omega) hj
  have a2:∀ a∈zs.drop i,HT.lexLt a.2 x.2=true:=fun a ha=>by
    obtain ⟨j,hj⟩:=cV ha
    rw [Bh] at hj
    exact h2 (i + j) a (by omega) hj
  have hh:oG (zs.take i++zs.drop i):=by
    rw [oW]
    exact h
  obtain ⟨p1,p2,p3⟩:=gc.mp hh
  refine gc.mpr ⟨p1,gD.mpr ⟨fun b hb=>a2 b hb,p2⟩,fun a ha b hb=>?_⟩
  rcases ax.mp hb with z | z
  · rw [z]
    exact a1 a ha
  · exact p3 a ha b z
theorem oG.at_ {zs:List (V×List Int)} (h:oG zs) {i j:Nat} (lt:i < j) {y z:V×List Int} (hi:zs[i]?=some y) (hj:zs[j]?=some z):HT.lexLt z.2 y.2=true:=by
  obtain ⟨l1,e1⟩:=aB.mp hi
  obtain ⟨l2,e2⟩:=aB.mp hj
  have:=cQ.mp h i j l1 l2 lt
  rw [e1,e2] at this
  exact this
section
variable {P:aW} {w:bO} {K:ag} {mg:Str->Option aa} {base:cE} {f fP:ae} {fd fdP:cu}
def Ho:Sp:=fun vs H Q _=>∃ (q b:ae) (zs:List (V×List Int)) (n:List Int),vs=[.ref q,.ref b]/\H q=some (.lst (zs.map (·.1)))/\(∀ z∈zs,yD H z)/\oG zs/\yD H (.ref b,n)/\n∉zs.map (·.2)/\zs.length<=10000000 /\
  ∀ i:Nat,i<=zs.length->oG (zs.take i++(V.ref b,n) :: zs.drop i)->Q (.int i) H
theorem Jk (D:Df K mg "place_in" jW ["falling","thing"] f fd) (B:Bl mg):bX P w K mg base CX0 1 f fd ["falling","thing"] Ho:=by
  refine D.F.ok uZ (fun vs H Q E h=>?_) (fun cdv A outer s H vs Q E hr h=>?_)
  · obtain ⟨q,b,zs,n,rfl,_⟩:=h
    rfl
  obtain ⟨q,b,zs,n,rfl,hq,hz,hf,hb,nn,hl,k⟩:=h
  have hu:=m6 hr
  obtain ⟨b0,kb,rb,eb,hb1,hb2⟩:=hb
  cases eb
  refine ⟨_,ak (bF (i:=2) uZ.nd rfl (Or.inl rfl) aq)
    (ak (bF (i:=3) uZ.nd rfl (Or.inl rfl) (cX hJ (by rfl) B.len cm (au (pv 0) aw)))
    (ak (wM cI (bL rp (pv 2) (pv 3) (cg _))
      (ak (bF (i:=4) uZ.nd rfl (Or.inl rfl) (cL EA (cL gW (pv 2) (pv 3)) aq))
      (aG (cZ (bL (Iv hu) (bN cU (pv 0) (pv 4) (fun _ _=>rfl)) (pv 1) (cg _))
        (aG (bF (i:=2) uZ.nd rfl (Or.inl rfl) (cL gW (pv 4) aq)))
        (aG (bF (i:=3) uZ.nd rfl (Or.inl rfl) (pv 4)))))))
    (aG (bR (pv 2))))),?_⟩
  refine ⟨_,rfl,q,_,rfl,.inl (SqL.of hq),?_⟩
  refine wN (fun σ H2=>∃ (lo hi:Nat) (m:Option V),σ=[some (.ref q),some (.ref b),some (.int lo),some (.int hi),m]/\H2=H/\lo<=hi/\hi<=zs.length /\
      (∀ (j:Nat) (z:V×List Int),j < lo->zs[j]?=some z->HT.lexLt n z.2=true)/\∀ (j:Nat) (z:V×List Int),hi<=j->zs[j]?=some z->HT.lexLt n z.2=false)
    (fun σ _=>match σ with | [_,_,some (.int lo),some (.int hi),_]=>(hi - lo).toNat | _=>0) ?_ ?_ ?_
  · refine ⟨0,zs.length,none,?_,rfl,bK _,aL _,fun j z h=>absurd h (kJ _),fun j z h e=>?_⟩
    · rw [ah]
      rfl
    · rw [gF (by omega)] at e
      cases e
  · rintro σ H2 ⟨lo,hi,m,rfl,rfl,h1,h2,h3,h4⟩
    refine ⟨_,rfl,_,rfl,_,_,rfl,rfl,_,rfl,?_⟩
    refine iK (fun c=>?_) (fun c=>?_)
    · have c:lo < hi:=by
        have z:=of_decide_eq_true c
        omega
      refine ⟨_,rfl,_,rfl,_,_,rfl,rfl,_,_,rfl,rfl,⟨by decide,by decide⟩,?_⟩
      have em:((lo:Int) + (hi:Int)) / 2=(((lo + hi) / 2:Nat):Int):=by omega
      have lm:(lo + hi) / 2 < zs.length:=by omega
      obtain ⟨z,hz0⟩:∃ z,zs[(lo + hi) / 2]?=some z:=⟨_,aA lm⟩
      have mz:=bQ hz0
      obtain ⟨az,kz,rz,ez,hz1,hz2⟩:=hz z mz
      have ea:(zs.map (·.1))[(lo + hi) / 2]?=some (.ref az):=by rw [cC,hz0,Cr,ez]
      have nz:z.2≠n:=fun y=>nn (by rw [<- y]; exact pS mz)
      refine ⟨_,rfl,_,rfl,q,_,_,_,rfl,rfl,SqL.of hq,(by rw [em]; exact gy ea),_,rfl,az,b,kz,kb,z.2,n,rz,rb,rfl,rfl,hz1,hb1,hz2,hb2,nz,_,rfl,?_⟩
      refine iK (fun g=>?_) (fun g=>?_)
      · refine ⟨_,rfl,_,_,rfl,rfl,⟨(lo + hi) / 2 + 1,hi,some (.int (((lo:Int) + (hi:Int)) / 2)),?_,rfl,by omega,h2,fun j y hj e=>?_,h4⟩,?_⟩
        · have e2:(((lo + hi) / 2 + 1:Nat):Int)=((lo:Int) + (hi:Int)) / 2 + 1:=by omega
          rw [e2]
          rfl
        · by_cases ej:j=(lo + hi) / 2
          · rw [ej,hz0] at e
            cases e
            exact g
          · exact HT.lx_trans g (hf.at_ (show j < (lo + hi) / 2 by omega) e hz0)
        · show ((hi:Int) - (((lo:Int) + (hi:Int)) / 2 + 1)).toNat < ((hi:Int) - (lo:Int)).toNat
          omega
      · refine ⟨_,rfl,⟨lo,(lo + hi) / 2,some (.int (((lo:Int) + (hi:Int)) / 2)),?_,rfl,by omega,by omega,h3,fun j y hj e=>?_⟩,?_⟩
        · rw [<- em]
          rfl
        · have g':HT.lexLt n z.2=false:=by
            cases e':HT.lexLt n z.2 with
            | false=>rfl
            | true=>exact absurd e' g
          by_cases ej:j=(lo + hi) / 2
          · rw [ej,hz0] at e
            cases e
            exact g'
          · have z1:=hf.at_ (show (lo + hi) / 2 < j by omega) hz0 e
            cases e':HT.lexLt n y.2 with
            | false=>rfl
            | true =>
              have z2:=HT.lx_trans e' z1
              rw [g'] at z2
              cases z2
        · show ((((lo:Int) + (hi:Int)) / 2) - (lo:Int)).toNat < ((hi:Int) - (lo:Int)).toNat
          omega
    · have e:lo=hi:=by
        have z:¬ ((lo:Int) < (hi:Int)):=fun z=>c (decide_eq_true z)
        omega
      subst e
      refine ⟨_,rfl,k lo h2 (hf.put h3 fun j z hj e=>?_)⟩
      exact HT.lx_of_not (h4 j z hj e) fun y=>nn (by
        have y:n=z.2:=y
        rw [y]
        exact pS (bQ e))
  · rintro σ H2 Q1 Q2 hq2 h
    obtain ⟨a1,e1,a2,e2,i,j,e3,e4,b',e5,h⟩:=h
    exact ⟨a1,e1,a2,e2,i,j,e3,e4,b',e5,hq2 _ _ h⟩
def zR:Sp:=fun vs H Q _=>∃ (q b:ae) (zs:List (V×List Int)) (n:List Int),vs=[.ref q,.ref b]/\H q=some (.lst (zs.map (·.1)))/\(∀ z∈zs,yD H z)/\oG zs/\yD H (.ref b,n)/\n∉zs.map (·.2)/\zs.length<=10000000 /\
  ∀ zs':List (V×List Int),zs'.Perm ((V.ref b,n) :: zs)->oG zs'->Q .non (upd H q (.lst (zs'.map (·.1))))
theorem Jl (D:Df K mg "put_in" lZ ["falling","thing"] f fd) (DP:Df K mg "place_in" jW ["falling","thing"] fP fdP) (B:Bl mg):bX P w K mg base CX0 2 f fd ["falling","thing"] zR:=by
  have GP:bX P w K mg base CX0 1 fP fdP ["falling","thing"] Ho:=Jk DP B
  refine D.F.ok scPic (fun vs H Q E h=>?_) (fun cdv A outer s H vs Q E hr h=>?_)
  · obtain ⟨q,b,zs,n,rfl,_⟩:=h
    rfl
  obtain ⟨q,b,zs,n,rfl,hq,hz,hf,hb,nn,hl,k⟩:=h
  refine ⟨_,aG (eT (lY cv PySem.F.slot_list_insert PySem.F.type_list_insert AE (pv 0) (au (aS GP hr rfl DP.m DP.F.kp DP.b .nil bS (au (pv 0) (au (pv 1) aw))) (au (pv 1) aw)))),?_⟩
  have sl:10000000 < aJ:=by decide
  refine ⟨_,rfl,.inl ⟨rfl,_,SqL.of hq⟩,_,rfl,_,rfl,q,b,zs,n,rfl,hq,hz,hf,hb,nn,hl,fun i hi fz=>⟨_,rfl,q,_,i,.ref b,rfl,rfl,hq,by rw [ah]; exact hi,by rw [ah]; omega,?_⟩⟩
  have z:=k (zs.take i++(V.ref b,n) :: zs.drop i) ?_ fz
  · rw [cy,cw,wI,Jh] at z
    exact z
  · refine Eo.trans ?_
    rw [oW]
end
end My
namespace My
open PySem L2
structure Sta where
  bx:List (Str×Int)
  qu:List (Str×List Int)
  dr:Nat
  se:Int
def Sta.w (s:Sta):Wk:=w0 s.bx s.qu s.dr s.se
structure Rec where
  h:Ev
  wb:List (Str×Int)
  wq:List (Str×List Int)
  out:List Ev
inductive Stp where
  | fin (h:Ev)
  | flt (e:Flt) (h:Ev)
inductive End where
  | empty
  | cut
  | stp (s:Stp)
structure RS where
  sts:List Sta
  pd:List Ev
  re:Option Ev
  sp:Option Stp
def Ev.key (e:Ev):List Int:=[e.t,e.r,e.fr,e.c]
def tR (x:Ev):List Ev->List Ev
  | []=>[x]
  | y :: ys=>if HT.lexLt x.key y.key=true then y :: tR x ys else x :: y :: ys
def pK (xs pd:List Ev):List Ev:=xs.foldl (fun p e=>tR e p) pd
abbrev lJ (es:List Ev):Prop:=es.Pairwise (fun a b=>HT.lexLt b.key a.key=true)
def j9 (r:RS) (left:Int):Option End:=match r.sp with
  | some s=>some (.stp s)
  | none=>if r.pd.isEmpty=true then some .empty else if left<=0 then some .cut else none
def gZ (Ms:List MD) (r:RS):RS×List Rec:=match r.pd.getLast? with
  | none=>(r,[])
  | some h=>match Ms[h.to.toNat]?,r.sts[h.to.toNat]? with
    | some M,some s=>(match doS h M.ds (jx M.hs h.sg) s.w with
      | .error e=>({r with pd:=r.pd.dropLast,sp:=some (.flt e h)},[])
      | .ok w=>(⟨r.sts.set h.to.toNat ⟨w.bx,w.qu,w.dr,w.se⟩,pK w.out r.pd.dropLast,some h,if w.en=true then some (.fin h) else none⟩,[⟨h,wrB M.bs w,wrQ M.qs w,w.out⟩]))
    | _,_=>(r,[])
def itR (Ms:List MD) (r:RS):Nat->RS×List Rec
  | 0=>(r,[])
  | n + 1=>((gZ Ms (itR Ms r n).1).1,(itR Ms r n).2++(gZ Ms (itR Ms r n).1).2)
theorem mi (x:Ev):∀ ys:List Ev,(tR x ys).Perm (x :: ys)
  | []=>jt _
  | y :: ys=>by
    unfold tR
    split
    · exact ((mi x ys).cons y).trans (List.Perm.swap x y ys)
    · exact jt _
theorem gv:∀ (xs pd:List Ev),(pK xs pd).Perm (xs++pd)
  | [],pd=>jt _
  | x :: xs,pd=>by
    show (pK xs (tR x pd)).Perm _
    refine (gv xs (tR x pd)).trans ?_
    refine ((jt xs).append (mi x pd)).trans ?_
    exact Eo
theorem q8 {x:Ev}:∀ {ys:List Ev},lJ ys->(∀ y∈ys,x.key≠y.key)->lJ (tR x ys)
  | [],_,_=>jw _ _
  | y :: ys,h,n=>by
    obtain ⟨h1,h2⟩:=gD.mp h
    unfold tR
    by_cases c:HT.lexLt x.key y.key=true
    · rw [if_pos c]
      refine gD.mpr ⟨fun z hz=>?_,q8 h2 fun z hz=>n z (af _ hz)⟩
      rcases ax.mp ((mi x ys).mem_iff.mp hz) with e | e
      · rw [e]
        exact c
      · exact h1 z e
    · rw [if_neg c]
      have lt:HT.lexLt y.key x.key=true:=HT.lx_of_not (by
        cases e:HT.lexLt x.key y.key with
        | false=>rfl
        | true=>exact absurd e c) (n y aC)
      refine gD.mpr ⟨fun z hz=>?_,h⟩
      rcases ax.mp hz with e | e
      · rw [e]
        exact lt
      · exact HT.lx_trans (h1 z e) lt
theorem vc:∀ {xs ys:List Ev},lJ xs->lJ ys->xs.Perm ys->xs=ys
  | [],ys,_,_,p=>(List.nil_perm.mp p).symm ▸ rfl
  | x :: xs,[],_,_,p=>absurd p (by intro z; have:=z.length_eq; simp at this)
  | x :: xs,y :: ys,h,k,p=>by
    obtain ⟨h1,h2⟩:=gD.mp h
    obtain ⟨k1,k2⟩:=gD.mp k
    have e:x=y:=by
      rcases ax.mp (p.mem_iff.mp (aC (a:=x) (l:=xs))) with z | z
      · exact z
      · rcases ax.mp (p.mem_iff.mpr (aC (a:=y) (l:=ys))) with q | q
        · exact q.symm
        · have a:=k1 x z
          have b:=HT.lx_asym (h1 y q)
          rw [a] at b
          cases b
    subst e
    rw [vc h2 k2 ((List.perm_cons x).mp p)]
structure Hq (m:Int) (h:Ev) (se se':Int) (e:Ev):Prop where
  fr:e.fr=h.to
  c0:se<=e.c
  c1:e.c < se'
  t0:h.t < e.t
  t1:e.t<=10 ^ 12
  to0:0<=e.to
  to1:e.to < m
structure News (m:Int) (h:Ev) (n:Nat) (w w':Wk):Prop where
  se:w.se<=w'.se
  ex:∃ new,w'.out=w.out++new/\new.length<=n/\(∀ e∈new,Hq m h w.se w'.se e)/\new.Pairwise (fun a b=>a.c < b.c)
theorem News.none {m:Int} {h:Ev} {n:Nat} {w w':Wk} (e1:w'.se=w.se) (e2:w'.out=w.out):News m h n w w':=
  ⟨by rw [e1]; exact Int.le_refl _,[],by rw [e2,dC],bK _,(fun e he=>by cases he),List.Pairwise.nil⟩
theorem News.trans {m:Int} {h:Ev} {n1 n2:Nat} {w w1 w2:Wk} (a:News m h n1 w w1) (b:News m h n2 w1 w2):News m h (n1 + n2) w w2:=by
  obtain ⟨s1,x1,e1,l1,o1,p1⟩:=a
  obtain ⟨s2,x2,e2,l2,o2,p2⟩:=b
  refine ⟨Int.le_trans s1 s2,x1++x2,by rw [e2,e1,jJ],by rw [aI]; omega,fun e he=>?_,gc.mpr ⟨p1,p2,fun a ha b hb=>?_⟩⟩
  · rcases b8.mp he with z | z
    · obtain ⟨f,c0,c1,t0,t1,q0,q1⟩:=o1 e z
      exact ⟨f,c0,by omega,t0,t1,q0,q1⟩
    · obtain ⟨f,c0,c1,t0,t1,q0,q1⟩:=o2 e z
      exact ⟨f,by omega,c1,t0,t1,q0,q1⟩
  · have:=(o1 a ha).c1
    have:=(o2 b hb).c0
    omega
theorem News.le {m:Int} {h:Ev} {n1 n2:Nat} {w w1:Wk} (a:News m h n1 w w1) (l:n1<=n2):News m h n2 w w1:=by
  obtain ⟨s1,x1,e1,l1,o1,p1⟩:=a
  exact ⟨s1,x1,e1,by omega,o1,p1⟩
theorem News.from {m:Int} {h:Ev} {n:Nat} {w0 w w':Wk} (a:News m h n w w') (e1:w.se=w0.se) (e2:w.out=w0.out):News m h n w0 w':=by
  obtain ⟨s1,x1,f1,l1,o1,p1⟩:=a
  rw [e1] at s1 o1
  exact ⟨s1,x1,by rw [f1,e2],l1,o1,p1⟩
theorem pL {h:Ev} {w w':Wk} {f:Fm} {k:Wk->Int->Except Flt Wk} (e:rck h w f k=.ok w'):∃ n,k {w with rk:=w.rk++[f]} n=.ok w':=by
  unfold rck at e
  split at e
  · exact ⟨_,e⟩
  · cases e
  · cases e
mutual
theorem DH {m:Int} {h:Ev} {ds:List Int}:∀ (D:Dd) (w w':Wk),D.toOk m->doD h ds D w=.ok w'->News m h D.size w w'
  | .put x f,w,w',_,e=>by
    simp only [doD] at e
    obtain ⟨n,e⟩:=pL e
    cases e
    exact News.none rfl rfl
  | .push q f,w,w',_,e=>by
    simp only [doD] at e
    obtain ⟨n,e⟩:=pL e
    try dsimp only at e
    split at e
    · cases e
    · cases e
      exact News.none rfl rfl
  | .pull q x o,w,w',to,e=>by
    simp only [doD] at e
    simp only [Dd.toOk] at to
    split at e
    · exact ((mj o _ _ to e).le (gi _)).from rfl rfl
    · cases e
      exact News.none rfl rfl
  | .draw x f,w,w',_,e=>by
    simp only [doD] at e
    obtain ⟨n,e⟩:=pL e
    try dsimp only at e
    split at e
    · cases e
    · split at e
      · cases e
      · cases e
        exact News.none rfl rfl
  | .send to sg sp rk a b,w,w',to',e=>by
    simp only [doD] at e
    simp only [Dd.toOk] at to'
    obtain ⟨n,e⟩:=pL e
    try dsimp only at e
    split at e
    · cases e
    · rename_i c
      obtain ⟨x,e⟩:=pL e
      obtain ⟨y,e⟩:=pL e
      try dsimp only at e
      split at e
      · cases e
      · rename_i c2
        cases e
        refine ⟨?_,[_],rfl,aL _,fun q hq=>?_,jw _ _⟩
        · show w.se<=w.se + 1
          omega
        · rw [aM.mp hq]
          exact ⟨rfl,Int.le_refl _,(by show w.se < w.se + 1; omega),(by show h.t < h.t + n; omega),(by show h.t + n<=10 ^ 12; omega),to'.1,to'.2⟩
  | .ife f t e',w,w',to,e=>by
    simp only [doD] at e
    simp only [Dd.toOk] at to
    obtain ⟨n,e⟩:=pL e
    try dsimp only at e
    simp only [Dd.size]
    split at e
    · exact ((mj e' _ _ to.2 e).le (by omega)).from rfl rfl
    · exact ((mj t _ _ to.1 e).le (by omega)).from rfl rfl
  | .fin,w,w',_,e=>by
    simp only [doD] at e
    cases e
    exact News.none rfl rfl
theorem mj {m:Int} {h:Ev} {ds:List Int}:∀ (D:Ds) (w w':Wk),D.toOk m->doS h ds D w=.ok w'->News m h D.size w w'
  | .nil,w,w',_,e=>by
    simp only [doS] at e
    cases e
    exact News.none rfl rfl
  | .cons d r,w,w',to,e=>by
    simp only [doS] at e
    simp only [Ds.toOk] at to
    simp only [Ds.size]
    split at e
    · rename_i w1 e1
      exact (DH d _ _ to.1 e1).trans (mj r _ _ to.2 e)
    · cases e
end
structure DI (m:Nat) (e:Ev):Prop where
  to0:0<=e.to
  to1:e.to < m
  wt:Wo e.t
  wa:Wo e.a
  wb:Wo e.b
structure ROk (m:Nat) (r:RS):Prop where
  len:r.sts.length=m
  fall:lJ r.pd
  ev:∀ e∈r.pd,DI m e
  cn:∀ e∈r.pd,e.fr=-1\/∃ (i:Nat) (s:Sta),e.fr=(i:Int)/\r.sts[i]?=some s/\e.c < s.se
theorem oX {pd:List Ev} {h:Ev} (f:lJ (pd++[h])):lJ pd/\∀ e∈pd,HT.lexLt h.key e.key=true:=by
  obtain ⟨f1,_,f3⟩:=gc.mp f
  exact ⟨f1,fun e he=>f3 e he h (aM.mpr rfl)⟩
theorem tS {pd:List Ev} {h:Ev} (e:pd.getLast?=some h):pd=pd.dropLast++[h]:=by
  obtain ⟨ys,rfl⟩:=List.getLast?_eq_some_iff.mp e
  rw [zS]
theorem key_t {a b:Ev} (h:a.t < b.t):HT.lexLt a.key b.key=true:=by
  unfold Ev.key
  rw [HT.lexLt_cons,if_neg (by omega)]
  exact decide_eq_true h
theorem tT {a b:Ev} (h:a.fr≠b.fr\/a.c≠b.c):a.key≠b.key:=fun z=>by
  unfold Ev.key at z
  simp only [List.cons.injEq] at z
  rcases h with h | h
  · exact h z.2.2.1
  · exact h z.2.2.2.1
theorem oY:∀ {xs pd:List Ev},lJ pd->(∀ x∈xs,∀ y∈pd,x.key≠y.key)->xs.Pairwise (fun a b=>a.key≠b.key)->lJ (pK xs pd)
  | [],_,h,_,_=>h
  | x :: xs,pd,h,n,p=>by
    obtain ⟨p1,p2⟩:=gD.mp p
    refine oY (xs:=xs) (q8 h fun y hy=>n x aC y hy) (fun z hz y hy=>?_) p2
    rcases ax.mp ((mi x pd).mem_iff.mp hy) with e | e
    · rw [e]
      exact fun q=>p1 z hz q.symm
    · exact n z (af _ hz) y e
structure Did (Ms:List MD) (r:RS) (h:Ev) (M:MD) (s:Sta):Prop where
  pd:r.pd=r.pd.dropLast++[h]
  hM:Ms[h.to.toNat]?=some M
  hs:r.sts[h.to.toNat]?=some s
theorem qp {Ms:List MD} {r:RS} {h:Ev} {M:MD} {s:Sta} (d:Did Ms r h M s) {e:Flt} (q:doS h M.ds (jx M.hs h.sg) s.w=.error e):gZ Ms r=({r with pd:=r.pd.dropLast,sp:=some (.flt e h)},[]):=by
  have l:r.pd.getLast?=some h:=by
    rw [d.pd,zT]
  unfold gZ
  rw [l]
  dsimp only
  rw [d.hM,d.hs]
  dsimp only
  rw [q]
theorem sN {Ms:List MD} {r:RS} {h:Ev} {M:MD} {s:Sta} (d:Did Ms r h M s) {w:Wk} (q:doS h M.ds (jx M.hs h.sg) s.w=.ok w):gZ Ms r=(⟨r.sts.set h.to.toNat ⟨w.bx,w.qu,w.dr,w.se⟩,pK w.out r.pd.dropLast,some h,if w.en=true then some (.fin h) else none⟩,[⟨h,wrB M.bs w,wrQ M.qs w,w.out⟩]):=by
  have l:r.pd.getLast?=some h:=by
    rw [d.pd,zT]
  unfold gZ
  rw [l]
  dsimp only
  rw [d.hM,d.hs]
  dsimp only
  rw [q]
theorem tU {m:Nat} {Ms:List MD} {r:RS} {h:Ev} {M:MD} {s:Sta} (k:ROk m r) (d:Did Ms r h M s) {n:Nat} {w:Wk} (N:News m h n s.w w):(∀ x∈w.out,∀ y∈r.pd.dropLast,x.key≠y.key)/\w.out.Pairwise (fun a b=>a.key≠b.key)/\(∀ x∈w.out,Hq m h s.se w.se x):=by
  obtain ⟨s1,new,e,ln,ho,hp⟩:=N
  have e:w.out=new:=e
  rw [e]
  have hin:h∈r.pd:=by
    rw [d.pd]
    exact bC _ (aM.mpr rfl)
  have h0:=(k.ev h hin).to0
  refine ⟨fun x hx y hy=>?_,hp.imp fun z=>tT (.inr (by omega)),ho⟩
  have o:=ho x hx
  have yin:y∈r.pd:=eZ _ hy
  rcases k.cn y yin with z | ⟨i,s',z1,z2,z3⟩
  · refine tT (.inl ?_)
    rw [o.fr,z]
    omega
  · by_cases c:y.fr=h.to
    · refine tT (.inr ?_)
      have ei:h.to.toNat=i:=by omega
      have:=d.hs
      rw [ei,z2] at this
      cases this
      have c0:s.se<=x.c:=o.c0
      omega
    · refine tT (.inl ?_)
      rw [o.fr]
      exact fun q=>c q.symm
theorem DJ {m:Nat} {Ms:List MD} {r:RS} {h:Ev} {M:MD} {s:Sta} (k:ROk m r) (d:Did Ms r h M s) {n:Nat} {w:Wk} (q:doS h M.ds (jx M.hs h.sg) s.w=.ok w) (N:News m h n s.w w) (wo:∀ e∈w.out,Wo e.a/\Wo e.b):ROk m (gZ Ms r).1:=by
  rw [sN d q]
  obtain ⟨n1,n2,n3⟩:=tU k d N
  have f:=k.fall
  rw [d.pd] at f
  obtain ⟨f1,f2⟩:=oX f
  refine ⟨by rw [EK]; exact k.len,oY f1 n1 n2,fun e he=>?_,fun e he=>?_⟩
  · rcases b8.mp ((gv _ _).mem_iff.mp he) with z | z
    · obtain ⟨a,b,c,d',e',f',g'⟩:=n3 e z
      have hin:h∈r.pd:=by
        rw [d.pd]
        exact bC _ (aM.mpr rfl)
      have ht:=(k.ev h hin).wt
      have w1:(10:Int) ^ 15=1000000000000000:=by decide
      have w2:(10:Int) ^ 12=1000000000000:=by decide
      refine ⟨f',g',?_,(wo e z).1,(wo e z).2⟩
      unfold Wo at ht |-
      omega
    · exact k.ev e (eZ _ z)
  · have lt:h.to.toNat < r.sts.length:=(aB.mp d.hs).1
    have hin:h∈r.pd:=by
      rw [d.pd]
      exact bC _ (aM.mpr rfl)
    have h0:=(k.ev h hin).to0
    rcases b8.mp ((gv _ _).mem_iff.mp he) with z | z
    · obtain ⟨a,b,c,_⟩:=n3 e z
      refine .inr ⟨h.to.toNat,_,by omega,fh lt,c⟩
    · rcases k.cn e (eZ _ z) with y | ⟨i,s',z1,z2,z3⟩
      · exact .inl y
      · by_cases c:h.to.toNat=i
        · subst c
          have es:s=s':=dR (d.hs.symm.trans z2)
          rw [<- es] at z3
          refine .inr ⟨_,_,z1,fh lt,?_⟩
          have s1:s.se<=w.se:=N.se
          show e.c < w.se
          omega
        · exact .inr ⟨i,s',z1,by rw [iS c]; exact z2,z3⟩
theorem A3 {m:Nat} {Ms:List MD} {r:RS} {h:Ev} {M:MD} {s:Sta} (k:ROk m r) (d:Did Ms r h M s) {e:Flt} (q:doS h M.ds (jx M.hs h.sg) s.w=.error e):ROk m (gZ Ms r).1:=by
  rw [qp d q]
  have f:=k.fall
  rw [d.pd] at f
  exact ⟨k.len,(oX f).1,fun e he=>k.ev e (eZ _ he),fun e he=>k.cn e (eZ _ he)⟩
end My
namespace My
open PySem L2
def Hid (ex:List ae) (G:Hp):Hp:=fun a=>if a∈ex then none else G a
section
variable {ex:List ae} {G G':Hp} {a:ae} {o:HO}
theorem q9 (e:Hid ex G a=some o):a∉ex:=fun m=>by
  unfold Hid at e
  rw [if_pos m] at e
  cases e
theorem jz (n:a∉ex):Hid ex G a=G a:=if_neg n
theorem mU:bT (Hid ex G) G:=fun b o e=>by
  rw [jz (q9 e)] at e
  exact e
theorem jA (m:a∈ex):Hid ex (upd G a o)=Hid ex G:=by
  funext b
  unfold Hid
  by_cases c:b∈ex
  · rw [if_pos c,if_pos c]
  · rw [if_neg c,if_neg c,aV fun z=>c (by rw [z]; exact m)]
theorem iH (s:bT G G'):bT (Hid ex G) (Hid ex G'):=fun b o e=>by
  rw [jz (q9 e)]
  exact s _ _ (mU _ _ e)
theorem Jm (s:∀ b o,G b=some o->b∉ex->G' b=some o):bT (Hid ex G) (Hid ex G'):=fun b o e=>by
  rw [jz (q9 e)]
  exact s _ _ (mU _ _ e) (q9 e)
theorem iw {xs:List V} (nt:∀ a∈ex,∃ o,G a=some o/\∀ xs,o≠.tup xs) (h:G a=some (.tup xs)):Hid ex G a=some (.tup xs):=by
  rw [jz fun m=>by
    obtain ⟨o,e,n⟩:=nt a m
    rw [e] at h
    cases h
    exact n _ rfl]
  exact h
theorem mm (n:G a=none):Hid (a :: ex) (upd G a o)=Hid ex G:=by
  funext b
  unfold Hid
  by_cases c:b=a
  · rw [c,if_pos aC]
    by_cases d:a∈ex
    · rw [if_pos d]
    · rw [if_neg d,n]
  · by_cases d:b∈ex
    · rw [if_pos d,if_pos (af _ d)]
    · rw [if_neg d,if_neg (fun z=>(ax.mp z).elim c d),aV c]
theorem xy:bT (Hid (a :: ex) G) (Hid ex G):=fun b o e=>by
  rw [jz fun m=>q9 e (af _ m)]
  exact mU _ _ e
end
abbrev rV (h:Ev):HO:=.tup [.int h.t,.int h.r,.int h.fr,.int h.c]
def RcIn (F:Hp) (v:V) (q:Rec):Prop:=∃ (rc k wl od:ae) (ws1 ws2 vs:List V) (qa:List (Str×ae)),v=.ref rc/\F rc=some (.tup [.ref k,.int q.h.to,.str q.h.sg,.int q.h.a,.int q.h.b,.ref wl,.ref od])/\F k=some (rV q.h) /\
  F wl=some (.lst (ws1++ws2))/\aX (vV F) ws1 q.wb/\aX (xr F) ws2 qa/\gu F qa q.wq/\F od=some (.lst vs)/\aX (hZ F) vs q.out
theorem RcIn.same {F F':Hp} (s:bT F F') {v:V} {q:Rec} (h:RcIn F v q):RcIn F' v q:=by
  obtain ⟨rc,k,wl,od,ws1,ws2,vs,qa,e,h1,h2,h3,h4,h5,h6,h7,h8⟩:=h
  exact ⟨rc,k,wl,od,ws1,ws2,vs,qa,e,s _ _ h1,s _ _ h2,s _ _ h3,Paired.mono (fun _ _ z=>z.keep fun a xs e=>s _ _ e) h4,Paired.mono (fun _ _ z=>z.keep fun a xs e=>s _ _ e) h5,h6.same s,s _ _ h7,Paired.mono (fun _ _ z=>z.same s) h8⟩
def pA:Flt->Str
  | .nought=>"nought"
  | .great=>"great"
  | .full=>"full"
  | .dry=>"dry"
  | .span=>"span"
  | .late=>"late"
def FV (F:Hp) (v:V):Option Ev->Prop
  | none=>v=.non
  | some h=>∃ k,v=.ref k/\F k=some (rV h)
def tV (F:Hp) (v:V):Stp->Prop
  | .fin h=>∃ t k,v=.ref t/\F t=some (.tup [.str "end",.ref k])/\F k=some (rV h)
  | .flt e h=>∃ t k,v=.ref t/\F t=some (.tup [.str "fault",.str (pA e),.ref k])/\F k=some (rV h)
def FW (F:Hp) (v:V):Option Stp->Prop
  | none=>v=.non
  | some s=>tV F v s
def rg (F:Hp) (v:V):End->Prop
  | .empty=>∃ t,v=.ref t/\F t=some (.tup [.str "empty"])
  | .cut=>∃ t,v=.ref t/\F t=some (.tup [.str "cut"])
  | .stp s=>tV F v s
theorem FV.same {F F':Hp} (s:bT F F') {v:V}:∀ {q:Option Ev},FV F v q->FV F' v q
  | none,h=>h
  | some _,⟨k,e,h⟩=>⟨k,e,s _ _ h⟩
theorem tV.same {F F':Hp} (s:bT F F') {v:V}:∀ {q:Stp},tV F v q->tV F' v q
  | .fin _,⟨t,k,e,h1,h2⟩=>⟨t,k,e,s _ _ h1,s _ _ h2⟩
  | .flt _ _,⟨t,k,e,h1,h2⟩=>⟨t,k,e,s _ _ h1,s _ _ h2⟩
theorem FW.same {F F':Hp} (s:bT F F') {v:V}:∀ {q:Option Stp},FW F v q->FW F' v q
  | none,h=>h
  | some _,h=>tV.same s h
theorem rg.same {F F':Hp} (s:bT F F') {v:V}:∀ {q:End},rg F v q->rg F' v q
  | .empty,⟨t,e,h⟩=>⟨t,e,s _ _ h⟩
  | .cut,⟨t,e,h⟩=>⟨t,e,s _ _ h⟩
  | .stp _,h=>tV.same s h
def jF (m s p r e:V):List (Str×V):=[("model",m),("states",s),("pending",p),("reached",r),("stopped",e)]
structure CoT (K:ag) (mg:Str->Option aa) (CC:ae):Prop where
  cl:Cls K CC
  nM:e8 K CC "model"
  nS:e8 K CC "states"
  nP:e8 K CC "pending"
  nR:e8 K CC "reached"
  nE:e8 K CC "stopped"
  m:mg "Course"=some (.ref CC)
theorem co_m (m s p r e:V):(jF m s p r e).lookup ("model":Str)=some m:=rfl
theorem Jn (m s p r e:V):(jF m s p r e).lookup ("states":Str)=some s:=rfl
theorem Jo (m s p r e:V):(jF m s p r e).lookup ("pending":Str)=some p:=rfl
theorem Jp (m s p r e:V):(jF m s p r e).lookup ("stopped":Str)=some e:=rfl
theorem yW (m s p r e:V):(jF m s p r e).length < 1000:=by show 5 < 1000; decide
theorem Jq (m s p r e:V):dD "stopped" e (dD "reached" r (dD "pending" p (dD "states" s (dD "model" m []))))=jF m s p r e:=rfl
theorem FX (m s p r e r':V):dD "reached" r' (jF m s p r e)=jF m s p r' e:=rfl
theorem zU (m s p r e e':V):dD "stopped" e' (jF m s p r e)=jF m s p r e':=rfl
theorem Hr (m s p r e:V) {x:Str} (hx:(["model","states","pending","reached","stopped"]:List Str).contains x=false):(jF m s p r e).lookup x=none:=by
  have z:∀ k∈(["model","states","pending","reached","stopped"]:List Str),(x == k)=false:=fun k hk=>beq_eq_false_iff_ne.mpr fun e=>by
    rw [e,oS.mpr hk] at hx
    cases hx
  unfold jF
  rw [dW (z _ (by simp)),dW (z _ (by simp)),dW (z _ (by simp)),dW (z _ (by simp)),dW (z _ (by simp))]
  rfl
def uu (CM:ae) (Ms:List MD) (H:Hp) (m:ae):Prop:=∃ (dx ml:ae) (fs:List (Str×V)),H m=some (.ins CM dx fs)/\fs.lookup ("machines":Str)=some (.ref ml)/\DG (Ms.length:Int) H ml Ms
theorem uu.same {CM:ae} {Ms:List MD} {H H':Hp} (s:bT H H') {m:ae} (h:uu CM Ms H m):uu CM Ms H' m:=by
  obtain ⟨dx,ml,fs,h1,h2,h3⟩:=h
  exact ⟨dx,ml,fs,s _ _ h1,h2,h3.same s⟩
abbrev StA (CS:ae) (F:Hp):ae->Sta->Prop:=fun a s=>lu CS F a s.bx s.qu s.dr s.se
structure lA (CC CS:ae) (Ms:List MD) (Hb:Hp) (ex:List ae) (G:Hp) (co m sl pl:ae) (r:RS):Prop where
  ok:ROk Ms.length r
  sm:bT Hb (Hid ex G)
  i1:co∈ex
  i2:sl∈ex
  i3:pl∈ex
  n1:co≠sl
  n2:co≠pl
  n3:sl≠pl
  hc:∃ dx rv sv,G co=some (.ins CC dx (jF (.ref m) (.ref sl) (.ref pl) rv sv))/\FV (Hid ex G) rv r.re/\FW (Hid ex G) sv r.sp
  hs:∃ ss:List ae,G sl=some (.lst (ss.map V.ref))/\aX (StA CS (Hid ex G)) ss r.sts
  hp:∃ ps,G pl=some (.lst ps)/\aX (hZ (Hid ex G)) ps r.pd
  wk:∀ (i:Nat) (M:MD) (s:Sta),Ms[i]?=some M->r.sts[i]?=some s->o9 M.bs M.qs s.w
  nt:∀ a∈ex,∃ o,G a=some o/\∀ xs,o≠.tup xs
theorem lu.same' {CS:ae} {H H':Hp} (s:bT H H') {st:ae} {bx:List (Str×Int)} {qu:List (Str×List Int)} {dr:Nat} {se:Int} (h:lu CS H st bx qu dr se):lu CS H' st bx qu dr se:=by
  obtain ⟨dx,bd,qd,qa,h1,h2,h3,h4⟩:=h
  exact ⟨dx,bd,qd,qa,s _ _ h1,s _ _ h2,s _ _ h3,h4.same s⟩
section
variable {CC CS:ae} {Ms:List MD} {Hb G G':Hp} {ex:List ae} {co m sl pl:ae} {r:RS}
theorem lA.same (c:lA CC CS Ms Hb ex G co m sl pl r) (s:bT G G'):lA CC CS Ms Hb ex G' co m sl pl r:=by
  obtain ⟨dx,rv,sv,h1,h2,h3⟩:=c.hc
  obtain ⟨ss,h4,h5⟩:=c.hs
  obtain ⟨ps,h6,h7⟩:=c.hp
  have f:=iH (ex:=ex) s
  exact ⟨c.ok,c.sm.trans f,c.i1,c.i2,c.i3,c.n1,c.n2,c.n3,⟨dx,rv,sv,s _ _ h1,h2.same f,h3.same f⟩,⟨ss,s _ _ h4,Paired.mono (fun _ _ z=>lu.same' f z) h5⟩,⟨ps,s _ _ h6,Paired.mono (fun _ _ z=>z.same f) h7⟩,c.wk,fun a ha=>by
    obtain ⟨o,e,n⟩:=c.nt a ha
    exact ⟨o,s _ _ e,n⟩⟩
theorem lA.more (c:lA CC CS Ms Hb ex G co m sl pl r) {a:ae} {o:HO} (n:G a=none) (no:∀ xs,o≠.tup xs):lA CC CS Ms Hb (a :: ex) (upd G a o) co m sl pl r:=by
  obtain ⟨dx,rv,sv,h1,h2,h3⟩:=c.hc
  obtain ⟨ss,h4,h5⟩:=c.hs
  obtain ⟨ps,h6,h7⟩:=c.hp
  refine ⟨c.ok,?_,af _ c.i1,af _ c.i2,af _ c.i3,c.n1,c.n2,c.n3,⟨dx,rv,sv,bA h1 (aH h1 n),?_,?_⟩,⟨ss,bA h4 (aH h4 n),?_⟩,⟨ps,bA h6 (aH h6 n),?_⟩,c.wk,fun b hb=>?_⟩
  · rw [mm n]
    exact c.sm
  · rw [mm n]
    exact h2
  · rw [mm n]
    exact h3
  · rw [mm n]
    exact h5
  · rw [mm n]
    exact h7
  · rcases ax.mp hb with z | z
    · rw [z]
      exact ⟨o,ao,no⟩
    · obtain ⟨o',e,n'⟩:=c.nt b z
      exact ⟨o',bA e (aH e n),n'⟩
theorem lA.less {a:ae} (c:lA CC CS Ms Hb (a :: ex) G co m sl pl r) (a1:co≠a) (a2:sl≠a) (a3:pl≠a):lA CC CS Ms Hb ex G co m sl pl r:=by
  obtain ⟨dx,rv,sv,h1,h2,h3⟩:=c.hc
  obtain ⟨ss,h4,h5⟩:=c.hs
  obtain ⟨ps,h6,h7⟩:=c.hp
  have f:bT (Hid (a :: ex) G) (Hid ex G):=xy
  have out:∀ {b:ae},b∈a :: ex->b≠a->b∈ex:=fun m n=>(ax.mp m).elim (fun z=>absurd z n) id
  exact ⟨c.ok,c.sm.trans f,out c.i1 a1,out c.i2 a2,out c.i3 a3,c.n1,c.n2,c.n3,⟨dx,rv,sv,h1,h2.same f,h3.same f⟩,⟨ss,h4,Paired.mono (fun _ _ z=>lu.same' f z) h5⟩,⟨ps,h6,Paired.mono (fun _ _ z=>z.same f) h7⟩,c.wk,fun b hb=>c.nt b (af _ hb)⟩
theorem lA.upd (c:lA CC CS Ms Hb ex G co m sl pl r) {a:ae} {o:HO} (ha:a∈ex) (a1:co≠a) (a2:sl≠a) (a3:pl≠a) (no:∀ xs,o≠.tup xs):lA CC CS Ms Hb ex (L2.upd G a o) co m sl pl r:=by
  obtain ⟨dx,rv,sv,h1,h2,h3⟩:=c.hc
  obtain ⟨ss,h4,h5⟩:=c.hs
  obtain ⟨ps,h6,h7⟩:=c.hp
  refine ⟨c.ok,?_,c.i1,c.i2,c.i3,c.n1,c.n2,c.n3,⟨dx,rv,sv,bA h1 a1,?_,?_⟩,⟨ss,bA h4 a2,?_⟩,⟨ps,bA h6 a3,?_⟩,c.wk,fun b hb=>?_⟩
  · rw [jA ha]
    exact c.sm
  · rw [jA ha]
    exact h2
  · rw [jA ha]
    exact h3
  · rw [jA ha]
    exact h5
  · rw [jA ha]
    exact h7
  · by_cases z:b=a
    · rw [z]
      exact ⟨o,ao,no⟩
    · obtain ⟨o',e,n'⟩:=c.nt b hb
      exact ⟨o',bA e z,n'⟩
end
theorem Paired.snoc_inv {α β:Type} {R:α->β->Prop}:∀ {ys:List β} {xs:List α} {y:β},aX R xs (ys++[y])->∃ xs' x,xs=xs'++[x]/\aX R xs' ys/\R x y
  | [],xs,y,p=>by
    cases p with
    | cons a b =>
      cases b
      exact ⟨[],_,rfl,.nil,a⟩
  | z :: ys,xs,y,p=>by
    cases p with
    | cons a b =>
      obtain ⟨xs',x,e,p',r⟩:=Paired.snoc_inv (ys:=ys) b
      exact ⟨_ :: xs',x,by rw [e]; rfl,.cons a p',r⟩
theorem ig {α β:Type} {R:α->β->Prop}:∀ {xs:List α} {ys:List β} {i:Nat} {y:β},aX R xs ys->ys[i]?=some y->∃ x,xs[i]?=some x/\R x y
  | _,_,i,y,.nil,h=>by simp at h
  | _,_,0,y,.cons a b,h=>by
    simp at h
    subst h
    exact ⟨_,rfl,a⟩
  | _,_,i + 1,y,.cons a b,h=>by
    obtain ⟨x,h1,h2⟩:=ig (i:=i) (y:=y) b (by simpa using h)
    exact ⟨x,by simpa using h1,h2⟩
theorem Paired.set {α β:Type} {R:α->β->Prop}:∀ {xs:List α} {ys:List β},aX R xs ys->∀ (i:Nat) {x:α} {y:β},R x y->aX R (xs.set i x) (ys.set i y)
  | _,_,.nil,i,x,y,h=>.nil
  | _,_,.cons a b,0,x,y,h=>.cons h b
  | _,_,.cons a b,i + 1,x,y,h=>.cons a (Paired.set b i h)
theorem A4 {α β:Type} {f:α->β} {xs ys:List β} (p:xs.Perm ys):∀ us:List α,us.map f=ys->∃ us':List α,us'.Perm us/\us'.map f=xs:=by
  induction p with
  | nil =>
    intro us e
    have:us=[]:=List.map_eq_nil_iff.mp e
    subst this
    exact ⟨[],jt _,rfl⟩
  | cons x _ ih =>
    intro us e
    cases us with
    | nil=>cases e
    | cons u us =>
      rw [cw] at e
      obtain ⟨e1,e2⟩:=tW e
      obtain ⟨us',p',m'⟩:=ih us e2
      exact ⟨u :: us',p'.cons u,by rw [cw,m',e1]⟩
  | swap x y l =>
    intro us e
    match us,e with
    | a :: b :: r,e =>
      rw [cw,cw] at e
      obtain ⟨e1,e⟩:=tW e
      obtain ⟨e2,e3⟩:=tW e
      exact ⟨b :: a :: r,List.Perm.swap _ _ _,by rw [cw,cw,e1,e2,e3]⟩
  | trans _ _ ih1 ih2 =>
    intro us e
    obtain ⟨u1,p1,m1⟩:=ih2 us e
    obtain ⟨u2,p2,m2⟩:=ih1 u1 m1
    exact ⟨u2,p2.trans p1,m2⟩
theorem rK {α β:Type} {R:α->β->Prop}:∀ {us:List (α×β)},(∀ u∈us,R u.1 u.2)->aX R (us.map (·.1)) (us.map (·.2))
  | [],_=>.nil
  | u :: us,h=>.cons (h u aC) (rK fun v hv=>h v (af _ hv))
theorem tX {α β:Type} {R:α->β->Prop} {xs:List α} {ys:List β} (p:aX R xs ys):(xs.zip ys).map (·.1)=xs/\(xs.zip ys).map (·.2)=ys/\∀ u∈xs.zip ys,R u.1 u.2:=by
  induction p with
  | nil=>exact ⟨rfl,rfl,fun u hu=>by cases hu⟩
  | cons a _ ih =>
    obtain ⟨h1,h2,h3⟩:=ih
    refine ⟨by rw [gC,cw,h1],by rw [gC,cw,h2],fun u hu=>?_⟩
    rw [gC] at hu
    rcases ax.mp hu with z | z
    · rw [z]
      exact a
    · exact h3 u z
theorem yX {G:Hp} {v:V} {e:Ev} (h:hZ G v e):yD G (v,e.key):=by
  obtain ⟨t,k,e1,h1,h2⟩:=h
  exact ⟨t,k,_,e1,h1,h2⟩
theorem vd {F:Hp} {us:List (V×Ev)} {es:List Ev} {zs:List (V×List Int)} (hu:∀ u∈us,hZ F u.1 u.2) (p:zs.Perm (us.map fun u=>(u.1,u.2.key))) (f:oG zs) (q:(us.map (·.2)).Perm es) (fe:lJ es):∃ ps,zs.map (·.1)=ps/\aX (hZ F) ps es:=by
  obtain ⟨us',p',m'⟩:=A4 p us rfl
  have h:=rK (R:=hZ F) (us:=us') fun u hu'=>hu u (p'.mem_iff.mp hu')
  have fe':lJ (us'.map (·.2)):=by
    rw [<- m'] at f
    have f2:=gS.mp f
    exact gS.mpr f2
  rw [vc fe' fe ((p'.map _).trans q)] at h
  refine ⟨us'.map (·.1),?_,h⟩
  rw [<- m',eG]
  rfl
theorem FY {F G:Hp} (s:bT F G) {pl:ae} {v:V} {ps:List V} {pd:List Ev} {e:Ev} {Q:VK} {E:XK} (hp:G pl=some (.lst ps)) (pr:aX (hZ F) ps pd) (fe:lJ pd) (hv:hZ F v e) (nw:∀ y∈pd,e.key≠y.key) (len:pd.length<=10000000)
    (k:∀ ps',aX (hZ F) ps' (tR e pd)->Q .non (upd G pl (.lst ps'))):zR [.ref pl,v] G Q E:=by
  obtain ⟨z1,z2,z3⟩:=tX pr
  have ln:=bJ pr
  obtain ⟨t,kk,rfl,h1,h2⟩:=id hv
  refine ⟨pl,t,(ps.zip pd).map fun u=>(u.1,u.2.key),e.key,rfl,?_,fun z hz=>?_,?_,(yX hv).imp fun a ⟨k,ra,e1,e2,e3⟩=>⟨k,ra,e1,s _ _ e2,s _ _ e3⟩,?_,?_,fun zs' p f=>?_⟩
  · rw [eG]
    have:((fun x:V×List Int=>x.1) ∘ fun u:V×Ev=>(u.1,u.2.key))=(fun u:V×Ev=>u.1):=rfl
    rw [this,z1]
    exact hp
  · obtain ⟨u,hu,rfl⟩:=cN.mp hz
    obtain ⟨a,k,ra,e1,e2,e3⟩:=yX (z3 u hu)
    exact ⟨a,k,ra,e1,s _ _ e2,s _ _ e3⟩
  · refine gS.mpr ?_
    have f2:=fe
    rw [<- z2] at f2
    exact gS.mp f2
  · intro m
    obtain ⟨x,hx,ex⟩:=cN.mp m
    obtain ⟨u,hu,rfl⟩:=cN.mp hx
    refine nw u.2 ?_ ex.symm
    rw [<- z2]
    exact pS hu
  · rw [ah,oB]
    omega
  · have hA:∀ u∈(V.ref t,e) :: ps.zip pd,hZ F u.1 u.2:=fun u hu=>by
      rcases ax.mp hu with z | z
      · rw [z]
        exact hv
      · exact z3 u z
    have hB:(((V.ref t,e) :: ps.zip pd).map (·.2)).Perm (tR e pd):=by
      rw [cw,z2]
      exact (mi e pd).symm
    obtain ⟨ps',e',pr'⟩:=vd hA p f hB (q8 fe nw)
    rw [e']
    exact k ps' pr'
end My
namespace My
open PySem L2
section
variable {P:aW} {w:bO} {K:ag} {mg:Str->Option aa} {base:cE} {f:ae} {fd:cu}
theorem DK:bY ["self"] ["self"] (aF iN):=⟨rfl,rfl,rfl,by decide +kernel,rfl,by decide +kernel,by decide +kernel⟩
theorem A5 (F:Fun K "word" "Great.word" iN f fd):oz P w K mg base CX0 1 f fd ["self"] (oE "great"):=by
  refine F.okH DK (fun vs H Q E h=>?_) (fun cdv A outer s H vs Q E h=>?_)
  · obtain ⟨a,rfl,_⟩:=h
    rfl
  obtain ⟨a,rfl,q⟩:=h
  exact ⟨_,aG (bR cG),q⟩
theorem FZ:bY ["self"] ["self"] (aF ji):=⟨rfl,rfl,rfl,by decide +kernel,rfl,by decide +kernel,by decide +kernel⟩
theorem DQ (F:Fun K "word" "Full.word" ji f fd):oz P w K mg base CX0 1 f fd ["self"] (oE "full"):=by
  refine F.okH FZ (fun vs H Q E h=>?_) (fun cdv A outer s H vs Q E h=>?_)
  · obtain ⟨a,rfl,_⟩:=h
    rfl
  obtain ⟨a,rfl,q⟩:=h
  exact ⟨_,aG (bR cG),q⟩
theorem Jr:bY ["self"] ["self"] (aF jP):=⟨rfl,rfl,rfl,by decide +kernel,rfl,by decide +kernel,by decide +kernel⟩
theorem F3 (F:Fun K "word" "Dry.word" jP f fd):oz P w K mg base CX0 1 f fd ["self"] (oE "dry"):=by
  refine F.okH Jr (fun vs H Q E h=>?_) (fun cdv A outer s H vs Q E h=>?_)
  · obtain ⟨a,rfl,_⟩:=h
    rfl
  obtain ⟨a,rfl,q⟩:=h
  exact ⟨_,aG (bR cG),q⟩
theorem F4:bY ["self"] ["self"] (aF jj):=⟨rfl,rfl,rfl,by decide +kernel,rfl,by decide +kernel,by decide +kernel⟩
theorem DV (F:Fun K "word" "Span.word" jj f fd):oz P w K mg base CX0 1 f fd ["self"] (oE "span"):=by
  refine F.okH F4 (fun vs H Q E h=>?_) (fun cdv A outer s H vs Q E h=>?_)
  · obtain ⟨a,rfl,_⟩:=h
    rfl
  obtain ⟨a,rfl,q⟩:=h
  exact ⟨_,aG (bR cG),q⟩
theorem F6:bY ["self"] ["self"] (aF jk):=⟨rfl,rfl,rfl,by decide +kernel,rfl,by decide +kernel,by decide +kernel⟩
theorem DX (F:Fun K "word" "Late.word" jk f fd):oz P w K mg base CX0 1 f fd ["self"] (oE "late"):=by
  refine F.okH F6 (fun vs H Q E h=>?_) (fun cdv A outer s H vs Q E h=>?_)
  · obtain ⟨a,rfl,_⟩:=h
    rfl
  obtain ⟨a,rfl,q⟩:=h
  exact ⟨_,aG (bR cG),q⟩
end
def zV {α:Type} (a b c d e f:α):Flt->α
  | .nought=>a
  | .great=>b
  | .full=>c
  | .dry=>d
  | .span=>e
  | .late=>f
end My
namespace My
open PySem L2
theorem gu.hid {ex:List ae} {G:Hp} {qa:List (Str×ae)} {qu:List (Str×List Int)} (n:∀ a∈qa.map (·.2),a∉ex) (q:gu G qa qu):gu (Hid ex G) qa qu:=
  gu.keep (L:=⟨0,0,0,0,0,0,0,0,0,0,.non,.non,qa⟩) (fun a u e m=>by rw [jz (n a m)]; exact e) (fun _ h=>h) q
theorem hZ.hid {ex:List ae} {G:Hp} (nt:∀ a∈ex,∃ o,G a=some o/\∀ xs,o≠.tup xs) {v:V} {e:Ev} (h:hZ G v e):hZ (Hid ex G) v e:=by
  obtain ⟨t,k,e1,h1,h2⟩:=h
  exact ⟨t,k,e1,iw nt h1,iw nt h2⟩
theorem Dg.sta {CD CS:ae} {bs qs:List Str} {H0 G:Hp} {L:Lay} {h:Ev} {ds:List Int} {w:Wk} (g:Dg CD CS bs qs H0 G L h ds w) {ex:List ae} (n:∀ a∈L.all,a∉ex):lu CS (Hid ex G) L.st w.bx w.qu w.dr w.se:=
  ⟨L.dxs,L.bd,L.qd,L.qa,by rw [jz (n _ He)]; exact g.hst,by rw [jz (n _ Hf)]; exact g.hb,by rw [jz (n _ in_qd)]; exact g.hq,g.hl.hid fun a m=>n a (in_l m)⟩
theorem Di.told {CD CS:ae} {bs qs:List Str} {H G:Hp} {L:Lay} {h:Ev} {ds:List Int} {w:Wk} {t rc wl:ae} {ws1 ws2:List V} {qa:List (Str×ae)} (d:Di CD CS bs qs H G L h ds w t rc wl ws1 ws2 qa) {ex:List ae} (nt:∀ a∈ex,∃ o,H a=some o/\∀ xs,o≠.tup xs) :
    ∃ vs,G L.od=some (.lst vs)/\L.od∉ex/\aX (hZ (Hid ex G)) vs w.out/\RcIn (Hid ex G) (.ref rc) ⟨h,wrB bs w,wrQ qs w,w.out⟩:=by
  have ntG:∀ a∈ex,∃ o,G a=some o/\∀ xs,o≠.tup xs:=fun a ha=>by
    obtain ⟨o,e,n⟩:=nt a ha
    exact ⟨o,d.sm _ _ e,n⟩
  have nx:∀ {a},H a=none->a∉ex:=fun {a} z m=>by
    obtain ⟨o,e,_⟩:=nt a m
    rw [z] at e
    cases e
  obtain ⟨H0,s0,g⟩:=d.dg
  obtain ⟨vs,o1,o2⟩:=g.ho
  obtain ⟨k,h1,h2⟩:=d.hrc
  have nod:L.od∉ex:=nx (none_of s0 (g.fr _ Hg))
  have pv':=Paired.mono (fun _ _ z=>hZ.hid ntG z) o2
  refine ⟨vs,o1,nod,pv',rc,k,wl,L.od,ws1,ws2,vs,qa,rfl,iw ntG h1,iw ntG (d.sm _ _ h2),?_,Paired.mono (fun _ _ z=>z.keep fun a xs e=>iw ntG e) d.wr.b,Paired.mono (fun _ _ z=>z.keep fun a xs e=>iw ntG e) d.wr.q,d.wr.l.hid fun a m=>nx (d.wr.fr a (af _ m)),?_,pv'⟩
  · rw [jz (nx (d.wr.fr _ aC))]
    exact d.wr.hl
  · rw [jz nod]
    exact o1
theorem o9.clean {bs qs:List Str} {w:Wk} (k:o9 bs qs w):o9 bs qs (w0 w.bx w.qu w.dr w.se):=
  ⟨k.kb,k.kq,k.nb,k.nq,k.wb,k.wq,jI,(fun x hx=>by cases hx),jI,(fun x hx=>by cases hx),(fun x hx=>by cases hx),k.fw⟩
theorem zW {P:Ds->Prop} {hs:List (Str×Ds)} (h:∀ q∈hs,P q.2) (n:P .nil) (sg:Str):P (jx hs sg):=by
  unfold jx
  cases e:hs.lookup sg with
  | none=>exact n
  | some d=>exact h _ (oC e)
def ToldR (F:Hp) (v:V):List Rec->Prop
  | []=>v=.non
  | q :: _=>RcIn F v q
def Oth (ex:List ae) (co sl pl:ae) (H G:Hp):Prop:=∀ a∈ex,a≠co->a≠sl->a≠pl->∀ o,H a=some o->G a=some o
theorem bX.some {ι:Type} {P:aW} {w:bO} {K:ag} {mg:Str->Option aa} {base:cE} {CX:CXT} {k:Nat} {f:ae} {fd:cu} {ps:List Str} {sp:ι->Sp} (F:∀ i,bX P w K mg base CX k f fd ps (sp i)) :
    bX P w K mg base CX k f fd ps (fun vs H Q E=>∃ i,sp i vs H Q E):=
  ⟨fun vs H Q E ⟨i,q⟩=>(F i).len vs H Q E q,fun A outer s H args us vs Q E hr he hb hv ⟨i,hs⟩=>(F i).run A outer s H args us vs Q E hr he hb hv hs⟩
theorem Gj {X:Cx} {o value:dv} {f:Str} {ta tv:TE} {pos pos':Pos} (K:ag) (hK:X.K=K) (ha:PE X o ta) (hv:PE X value tv) (hs:rn value (some (.Attribute o f pos')) pos.line X.env=pure false):PS X (.Assign [.Attribute o f pos'] value pos) (sFld K ta tv f):=by
  rw [<- hK]
  exact gf ha hv hs
theorem nil_o {σ:St} {H:Hp} {Q:List V->Hp->Prop} (h:Q [] H):sY σ H Q:=h
theorem yY {D:kU} {σ:St} {H:Hp} (h:D.nx σ H):Br D σ H:=h
theorem A6 (xs:List Ev) (x:Ev) (pd:List Ev):pK (xs++[x]) pd=tR x (pK xs pd):=by
  unfold pK
  rw [CI]
  rfl
section
variable {P:aW} {w:bO} {K:ag} {mg:Str->Option aa} {base:cE} {f fPu fDn CC CM CS CD CF:ae} {fd fdPu fdDn:cu} {cf fW:Flt->ae} {fdW:Flt->cu}
seal L2.PS L2.PSs L2.PE L2.PA L2.PT L2.PW L2.PI L2.PG L2.PGs L2.PC
def spEd (CC CS:ae):Sp:=fun vs H Q _=>∃ (Ms:List MD) (Hb:Hp) (ex:List ae) (co m sl pl:ae) (r:RS) (left:Int),vs=[.ref co,.int left]/\lA CC CS Ms Hb ex H co m sl pl r /\
  ∀ v G,bT H G->((j9 r left=none/\v=.non)\/∃ e,j9 r left=some e/\rg (Hid ex G) v e)->Q v G
theorem scEd:bY ["self","left"] ["self","left"] (aF dY):=⟨rfl,rfl,rfl,by decide +kernel,rfl,by decide +kernel,by decide +kernel⟩
theorem ok_ed (M:Mt K CC "ending_due" "Course.ending_due" dY ["self","left"] f fd) (T:CoT K mg CC):bX P w K mg base CX0 1 f fd ["self","left"] (spEd CC CS):=by
  refine M.F.ok scEd (fun vs H Q E h=>?_) (fun cdv A outer s H vs Q E hr h=>?_)
  · obtain ⟨Ms,Hb,ex,co,m,sl,pl,r,left,rfl,_⟩:=h
    rfl
  obtain ⟨Ms,Hb,ex,co,m,sl,pl,r,left,rfl,c,q⟩:=h
  refine ⟨_,ak (cZ (sQ (y9 (cF (pv 0) rfl))) (aG (bR (cF (pv 0) rfl))) cq)
    (ak (cZ (vm (sT (cF (pv 0) rfl) (fun _=>rfl))) (aG (bR (eE (au cG aw)))) cq)
    (ak (cZ (bL op_le (pv 1) aq (cg _)) (aG (bR (eE (au cG aw)))) cq)
    (aG (bR vk)))),?_⟩
  obtain ⟨dx,rv,sv,h1,h2,h3⟩:=c.hc
  obtain ⟨ps,h6,h7⟩:=c.hp
  have nl:=bJ h7
  have ntn:∀ {G:Hp},bT H G->∀ a∈ex,∃ o,G a=some o/\∀ xs,o≠.tup xs:=fun s a ha=>by
    obtain ⟨o,e,n⟩:=c.nt a ha
    exact ⟨o,s _ _ e,n⟩
  cases hsp:r.sp with
  | some st =>
    rw [hsp] at h3
    have due:j9 r left=some (.stp st):=by
      unfold j9
      rw [hsp]
    obtain ⟨t,rfl⟩:∃ t,sv=.ref t:=by
      cases st with
      | fin h =>
        obtain ⟨t,_,e,_⟩:=h3
        exact ⟨t,e⟩
      | flt e h =>
        obtain ⟨t,_,e,_⟩:=h3
        exact ⟨t,e⟩
    refine ⟨_,rfl,co,CC,dx,_,_,rfl,h1,T.cl,T.nE,Jp _ _ _ _ _,_,rfl,iJ ?_⟩
    exact ⟨_,rfl,co,CC,dx,_,_,rfl,h1,T.cl,T.nE,Jp _ _ _ _ _,q _ _ (bT.refl _) (.inr ⟨_,due,h3⟩)⟩
  | none =>
    rw [hsp] at h3
    have h3:sv=.non:=h3
    subst h3
    refine ⟨_,rfl,co,CC,dx,_,_,rfl,h1,T.cl,T.nE,Jp _ _ _ _ _,_,rfl,hW ?_⟩
    refine ⟨_,rfl,co,CC,dx,_,_,rfl,h1,T.cl,T.nP,Jo _ _ _ _ _,_,.inl ⟨_,SqL.of h6,rfl⟩,?_⟩
    cases ps with
    | nil =>
      have e0:r.pd=[]:=List.eq_nil_of_length_eq_zero nl.symm
      refine iJ ⟨yO,fun t ht=>q _ _ (aR ht _) (.inr ⟨.empty,?_,t,rfl,iw (ntn (aR ht _)) ao⟩)⟩
      unfold j9
      rw [hsp,e0]
      rfl
    | cons x xs =>
      have e0:r.pd.isEmpty=false:=by
        cases z:r.pd with
        | nil =>
          rw [z] at nl
          cases nl
        | cons _ _=>rfl
      refine hW ?_
      refine ⟨_,rfl,_,_,rfl,rfl,_,rfl,iK (fun cc=>?_) (fun cc=>?_)⟩
      · have cc:=of_decide_eq_true cc
        refine ⟨yO,fun t ht=>q _ _ (aR ht _) (.inr ⟨.cut,?_,t,rfl,iw (ntn (aR ht _)) ao⟩)⟩
        unfold j9
        rw [hsp]
        dsimp only
        rw [e0,if_neg (by decide),if_pos cc]
      · have cc:¬ left<=0:=fun z=>cc (decide_eq_true z)
        refine q _ _ (bT.refl _) (.inl ⟨?_,rfl⟩)
        unfold j9
        rw [hsp]
        dsimp only
        rw [e0,if_neg (by decide),if_neg cc]
def Hs (CC CM CS:ae):Sp:=fun vs H Q _=>∃ (Ms:List MD) (Hb:Hp) (ex:List ae) (co m sl pl:ae) (r:RS),vs=[.ref co]/\uu CM Ms Hb m/\lA CC CS Ms Hb ex H co m sl pl r/\r.sp=none/\r.pd≠[]/\r.pd.length<=9000000 /\
  ∀ v G,lA CC CS Ms Hb ex G co m sl pl (gZ Ms r).1->bT (Hid ex H) (Hid ex G)->Oth ex co sl pl H G->ToldR (Hid ex G) v (gZ Ms r).2->Q v G
abbrev nD1:List Str:=["self","happening","at","told","fault","sent"]
theorem A7:bY nD1 ["self"] (aF fq):=⟨rfl,rfl,rfl,by decide +kernel,rfl,by decide +kernel,by decide +kernel⟩
theorem Js {n j:Nat} (h:j < n):ixN n (j:Int)=some j:=by
  unfold ixN
  rw [if_pos (by omega),if_pos (by omega)]
  simp
theorem Jt (M:Mt K CC "do_one" "Course.do_one" fq ["self"] f fd) (DPu:Df K mg "put_in" lZ ["falling","thing"] fPu fdPu) (GPu:bX P w K mg base CX0 2 fPu fdPu ["falling","thing"] zR)
    (DDn:Df K mg "done" qW ["model","state","happening"] fDn fdDn) (GDn:∀ bq:List Str×List Str,bX P w K mg base (CXo P w) 37 fDn fdDn ["model","state","happening"] (Dj cf CM CD CS bq.1 bq.2 5))
    (mW:∀ e,j5 K (cf e) "word" (fW e)) (bW:∀ e,Binds K (fdW e) ["self"] []) (GW:∀ e,oz P w K mg base CX0 1 (fW e) (fdW e) ["self"] (oE (pA e))) (XN:∀ e,uj K (cf e)) (mF:mg "Fault"=some (.ref CF)) (hx:∀ e,dA K (.ref (cf e)) (.ref CF)=some true) (T:CoT K mg CC) (TM:MdT K mg CM CS) :
    bX P w K mg base CX0 38 f fd ["self"] (Hs CC CM CS):=by
  have GD:=bX.some GDn
  refine M.F.ok A7 (fun vs H Q E h=>?_) (fun cdv A outer s H vs Q E hr h=>?_)
  · obtain ⟨Ms,Hb,ex,co,m,sl,pl,r,rfl,_⟩:=h
    rfl
  obtain ⟨Ms,Hb,ex,co,m,sl,pl,r,rfl,hM,c,hsp,hpd,hln,k⟩:=h
  have r1:eA 1 _:=hr.mono (by decide)
  have r2:eA 2 _:=hr.mono (by decide)
  obtain ⟨dx,rv,sv,hc0,hre,hsp0⟩:=c.hc
  obtain ⟨ss,hs0,hss⟩:=c.hs
  obtain ⟨ps,hp0,hps⟩:=c.hp
  -- the last one
  obtain ⟨h,hl⟩:∃ h,r.pd.getLast?=some h:=by
    cases e:r.pd.getLast? with
    | none=>exact absurd (wj.mp e) hpd
    | some h=>exact ⟨h,rfl⟩
  have spl:=tS hl
  have hin:h∈r.pd:=by
    rw [spl]
    exact bC _ (aM.mpr rfl)
  have eo:=c.ok.ev h hin
  obtain ⟨j,hj⟩:∃ j:Nat,h.to=(j:Int):=⟨h.to.toNat,by have:=eo.to0; omega⟩
  have jl:j < Ms.length:=by have:=eo.to1; omega
  have ej:h.to.toNat=j:=by omega
  have js:j < r.sts.length:=by rw [c.ok.len]; exact jl
  obtain ⟨Mm,hMm⟩:∃ M,Ms[j]?=some M:=⟨_,aA jl⟩
  obtain ⟨st0,hst0⟩:∃ s,r.sts[j]?=some s:=⟨_,aA js⟩
  have d:Did Ms r h Mm st0:=⟨spl,by rw [ej]; exact hMm,by rw [ej]; exact hst0⟩
  obtain ⟨ps',v,hpsv,hps',hv⟩:∃ ps' v,ps=ps'++[v]/\aX (hZ (Hid ex H)) ps' r.pd.dropLast/\hZ (Hid ex H) v h:=by
    rw [spl] at hps
    exact Paired.snoc_inv hps
  obtain ⟨th,kh,rfl,hth,hkh⟩:=id hv
  -- the bD and the machine
  obtain ⟨dxm,ml,fs,hm,hfs,xs,hml,hxs⟩:=id (hM.same c.sm)
  obtain ⟨mv,hmv,hMo⟩:=ig hxs hMm
  obtain ⟨sta,hsta,hSt⟩:=ig hss hst0
  have dk:=zW (P:=fun D=>D.toOk (Ms.length:Int)/\D.deep<=4/\D.size<=3 * ddz 4) hMo.hk ⟨by simp only [Ds.toOk],by simp only [Ds.deep]; omega,by simp only [Ds.size]; omega⟩ h.sg
  have dz:3 * ddz 4<=5000:=by decide
  refine ⟨_,ak (bF (i:=1) A7.nd rfl (Or.inl rfl) (HW cv wG wH HX (cF (pv 0) rfl)))
    (ak (bF (i:=2) A7.nd rfl (Or.inl rfl) (bN cz (pv 1) aq (fun _ _=>rfl)))
    (ak (E7 (fun C σ G=>∃ (e:Flt) (u3 u4 u5:Option V),C=cf e/\σ=[some (.ref co),some (.ref th),some (.int h.to),u3,u4,u5]/\doS h Mm.ds (jx Mm.hs h.sg) st0.w=.error e/\bT (upd H pl (.lst ps')) G)
        (fun pins=>aG (bF (i:=3) A7.nd rfl (Or.inl rfl) (B2 GD hr (by rfl) DDn.m DDn.F.kp DDn.b yo (au (vW K (by rfl) (pv 0) (by rfl)) (au (bN (Dk K (by rfl)) (vW K (by rfl) (pv 0) (by rfl)) (pv 2) (fun _ _=>rfl)) (au (pv 1) aw))))))
        (Ii 4 (by rfl) mF A7.nd rfl rfl (fun ea=>ak (Gj K (by rfl) (pv 0) (eE (au cG (au (AI (ι:=Flt) (C:=cf) (fm:=fW) (fd:=fdW) (sp:=fun e=>oE (pA e)) (pv 4) XN mW GW ⟨rfl,r1.dp,r1.un⟩ bW bS) (au (bN (mQ K (by rfl)) (pv 1) aq (fun _ _=>rfl)) aw)))) rfl) (aG (bR vk))) ET)
        cq)
    (ak (vv (bN cz (pv 3) aq (fun _ _=>rfl)) (vt (cF (pv 0) rfl) (pv 2) pZ))
    (ak (gf (pv 0) (bN cz (pv 1) aq (fun _ _=>rfl)) rfl)
    (ak (iz cI rfl (ip (bN cz (bN cz (pv 3) aq (fun _ _=>rfl)) aq (fun _ _=>rfl))) (eD (i:=5) A7.nd rfl (Or.inl rfl)) (aG (eT (aS GPu r2 (by rfl) DPu.m DPu.F.kp DPu.b .nil bS (au (cF (pv 0) rfl) (au (pv 5) aw))))))
    (ak (cZ (qG (bN cz (pv 3) aq (fun _ _=>rfl))) (aG (gf (pv 0) (eE (au cG (au (bN cz (pv 1) aq (fun _ _=>rfl)) aw))) rfl)) cq)
    (aG (bR (bN cz (pv 3) aq (fun _ _=>rfl)))))))))),?_⟩
  subst hpsv
  -- it is taken out
  refine cA (dG ?_)
  refine ⟨_,rfl,co,CC,dx,_,_,rfl,hc0,T.cl,T.nP,Jo _ _ _ _ _,.inl ⟨rfl,_,SqL.of hp0⟩,pl,_,.ref th,rfl,rfl,hp0,?_,?_⟩
  · rw [aI]
    show (ps'++[V.ref th])[ps'.length + 1 - 1]?=_
    rw [B9,dJ (aL _),Nat.sub_self]
    rfl
  rw [zS]
  refine cj ?_
  dsimp only
  have F1:Hid ex (upd H pl (.lst ps'))=Hid ex H:=jA c.i3
  have hc1:upd H pl (.lst ps') co=some (.ins CC dx (jF (.ref m) (.ref sl) (.ref pl) rv sv)):=bA hc0 c.n2
  have hs1:upd H pl (.lst ps') sl=some (.lst (ss.map V.ref)):=bA hs0 c.n3
  have hp1:upd H pl (.lst ps') pl=some (.lst ps'):=ao
  have nt1:∀ a∈ex,∃ o,upd H pl (.lst ps') a=some o/\∀ xs,o≠.tup xs:=fun a ha=>by
    by_cases z:a=pl
    · rw [z]
      exact ⟨_,ao,fun xs z=>by cases z⟩
    · obtain ⟨o,e,n⟩:=c.nt a ha
      exact ⟨o,bA e z,n⟩
  have ot1:Oth ex co sl pl H (upd H pl (.lst ps')):=fun a _ _ _ z o e=>bA e z
  revert F1 hc1 hs1 hp1 nt1 ot1
  generalize upd H pl (.lst ps')=G1
  intro F1 hc1 hs1 hp1 nt1 ot1
  have sF1:bT (Hid ex H) G1:=by
    rw [<- F1]
    exact mU
  have hth1:=sF1 _ _ hth
  refine cA (dG ?_)
  refine ⟨_,rfl,th,_,_,_,rfl,rfl,SqT.of hth1,rfl,?_⟩
  refine cj ?_
  dsimp only
  refine cA ?_
  refine ⟨?_,fun C σ' G6 hl ht=>?_⟩
  · refine dG ?_
    have at1:atI (ss.map V.ref) h.to=some (.ref sta):=by
      rw [hj]
      exact gy (by rw [cC,hsta]; rfl)
    refine ⟨_,rfl,co,CC,dx,_,_,rfl,hc1,T.cl,T.nM,co_m _ _ _ _ _,_,rfl,co,CC,dx,_,_,rfl,hc1,T.cl,T.nS,Jn _ _ _ _ _,_,rfl,sl,_,_,_,rfl,rfl,SqL.of hs1,at1,_,rfl,?_⟩
    refine ⟨(Mm.bs,Mm.qs),m,dxm,ml,sta,fs,xs,.ref th,mv,h,Mm.ds,Mm.hs,st0.bx,st0.qu,st0.dr,st0.se,rfl,sF1 _ _ hm,hfs,sF1 _ _ hml,hv.same sF1,by rw [hj]; exact gy hmv,(hMo.same sF1).ma,lu.same' sF1 hSt,c.wk j Mm st0 hMm hst0,eo.wt,eo.wa,eo.wb,by omega,by omega,?_⟩
    cases ew:doS h Mm.ds (jx Mm.hs h.sg) (w0 st0.bx st0.qu st0.dr st0.se) with
    | error e =>
      exact fun G6 s6=>⟨_,rfl,e,_,_,_,rfl,rfl,ew,s6⟩
    | ok w' =>
      intro G6 L t6 rc wl ws1 ws2 qa Dn
      have ew':doS h Mm.ds (jx Mm.hs h.sg) st0.w=.ok w':=ew
      rw [sN d ew'] at k
      have N:=mj (m:=(Ms.length:Int)) _ _ _ dk.1 ew'
      obtain ⟨nw1,nw2,nw3⟩:=tU c.ok d N
      obtain ⟨H0,s0,g⟩:=Dn.dg
      have rok:=DJ c.ok d ew' N g.ok.wo
      rw [sN d ew'] at rok
      obtain ⟨vs,hod,nod,hvs,hrec⟩:=Dn.told nt1
      have sm6:=Dn.sm
      obtain ⟨kk,hrc,_⟩:=Dn.hrc
      have nx:∀ a∈L.all,a∉ex:=fun a ha z=>by
        obtain ⟨o,e,_⟩:=nt1 a z
        have:=g.fr a ha
        rw [s0 _ _ e] at this
        cases this
      have hsn:=g.sta nx
      have f6:bT (Hid ex H) (Hid ex G6):=by
        rw [<- F1]
        exact iH sm6
      have sF6:bT (Hid ex G6) G6:=mU
      have hc6:=sm6 _ _ hc1
      have hs6:=sm6 _ _ hs1
      have hp6:=sm6 _ _ hp1
      have ot6:Oth ex co sl pl H G6:=fun a ha n1 n2 n3 o e=>sm6 _ _ (ot1 a ha n1 n2 n3 o e)
      have nt6:∀ a∈ex,∃ o,G6 a=some o/\∀ xs,o≠.tup xs:=fun a ha=>by
        obtain ⟨o,e,n⟩:=nt1 a ha
        exact ⟨o,sm6 _ _ e,n⟩
      refine cj ?_
      refine yY ?_
      dsimp only
      refine yY ?_
      dsimp only
      -- the new state
      have jl2:j < (ss.map V.ref).length:=(aB.mp (show (ss.map V.ref)[j]?=some (.ref sta) by rw [cC,hsta]; rfl)).1
      refine cA (dG ?_)
      refine ⟨_,rfl,t6,_,_,_,rfl,rfl,SqT.of Dn.ht,rfl,?_⟩
      refine ⟨_,rfl,co,CC,dx,_,_,rfl,hc6,T.cl,T.nS,Jn _ _ _ _ _,_,rfl,sl,_,_,j,rfl,rfl,hs6,by rw [hj]; exact Js jl2,?_⟩
      -- its key is reached
      have hth7:upd G6 sl (.lst ((ss.map V.ref).set j (.ref L.st))) th=some (.tup [.ref kh,.int h.to,.str h.sg,.int h.a,.int h.b]):=bA (sm6 _ _ hth1) (lU (sm6 _ _ hth1) hs6 (by intro z; cases z))
      have hc7:upd G6 sl (.lst ((ss.map V.ref).set j (.ref L.st))) co=some (.ins CC dx (jF (.ref m) (.ref sl) (.ref pl) rv sv)):=bA hc6 c.n1
      refine cA ?_
      refine ⟨_,rfl,th,_,_,_,rfl,rfl,SqT.of hth7,rfl,_,rfl,co,CC,dx,_,rfl,hc7,T.cl,T.nR,yW _ _ _ _ _,?_⟩
      rw [FX]
      have F8:Hid ex (upd (upd G6 sl (.lst ((ss.map V.ref).set j (.ref L.st)))) co (.ins CC dx (jF (.ref m) (.ref sl) (.ref pl) (.ref kh) sv)))=Hid ex G6:=by
        rw [jA c.i1,jA c.i2]
      have hc8:upd (upd G6 sl (.lst ((ss.map V.ref).set j (.ref L.st)))) co (.ins CC dx (jF (.ref m) (.ref sl) (.ref pl) (.ref kh) sv)) co=some (.ins CC dx (jF (.ref m) (.ref sl) (.ref pl) (.ref kh) sv)):=ao
      have hs8:upd (upd G6 sl (.lst ((ss.map V.ref).set j (.ref L.st)))) co (.ins CC dx (jF (.ref m) (.ref sl) (.ref pl) (.ref kh) sv)) sl=some (.lst ((ss.map V.ref).set j (.ref L.st))):=bA ao c.n1.symm
      have hp8:upd (upd G6 sl (.lst ((ss.map V.ref).set j (.ref L.st)))) co (.ins CC dx (jF (.ref m) (.ref sl) (.ref pl) (.ref kh) sv)) pl=some (.lst ps'):=bA (bA hp6 c.n3.symm) c.n2.symm
      have ot8:Oth ex co sl pl H (upd (upd G6 sl (.lst ((ss.map V.ref).set j (.ref L.st)))) co (.ins CC dx (jF (.ref m) (.ref sl) (.ref pl) (.ref kh) sv))):=fun a ha n1 n2 n3 o e=>bA (bA (ot6 a ha n1 n2 n3 o e) n2) n1
      have nt8:∀ a∈ex,∃ o,upd (upd G6 sl (.lst ((ss.map V.ref).set j (.ref L.st)))) co (.ins CC dx (jF (.ref m) (.ref sl) (.ref pl) (.ref kh) sv)) a=some o/\∀ xs,o≠.tup xs:=fun a ha=>by
        by_cases z:a=co
        · rw [z]
          exact ⟨_,ao,fun xs z=>by cases z⟩
        · by_cases y:a=sl
          · rw [y]
            exact ⟨_,hs8,fun xs z=>by cases z⟩
          · obtain ⟨o,e,n⟩:=nt6 a ha
            exact ⟨o,bA (bA e y) z,n⟩
      revert F8 hc8 hs8 hp8 ot8 nt8
      generalize upd (upd G6 sl (.lst ((ss.map V.ref).set j (.ref L.st)))) co (.ins CC dx (jF (.ref m) (.ref sl) (.ref pl) (.ref kh) sv))=G8
      intro F8 hc8 hs8 hp8 ot8 nt8
      have sF8:bT (Hid ex G6) G8:=by
        rw [<- F8]
        exact mU
      have ht6:Hid ex G6 t6=some (.tup [.ref L.st,.ref rc,.bl w'.en]):=iw nt6 Dn.ht
      have hrc6:Hid ex G6 rc=_:=iw nt6 hrc
      have hod6:Hid ex G6 L.od=some (.lst vs):=by
        rw [jz nod]
        exact hod
      have hth6:Hid ex G6 th=_:=iw nt6 (sm6 _ _ hth1)
      have hkh6:Hid ex G6 kh=some (rV h):=f6 _ _ hkh
      -- what was sent is put in
      have fd':lJ r.pd.dropLast:=by
        have z:=c.ok.fall
        rw [spl] at z
        exact (oX z).1
      have nopl:L.od≠pl:=fun z=>nod (by rw [z]; exact c.i3)
      refine cA ?_
      refine ⟨_,rfl,t6,_,_,_,rfl,rfl,SqT.of (sF8 _ _ ht6),rfl,rc,_,_,_,rfl,rfl,SqT.of (sF8 _ _ hrc6),rfl,L.od,rfl,⟨_,SqL.of (sF8 _ _ hod6)⟩,iY (K:=K) (a:=L.od) (xs:=vs) (fun i σ G'=>∃ (u4 u:Option V) (ps:List V),σ=[some (.ref co),some (.ref th),some (.int h.to),some (.ref t6),u4,u]/\G' pl=some (.lst ps)/\aX (hZ (Hid ex G6)) ps (pK (w'.out.take i) r.pd.dropLast)/\But pl G8 G')
        ⟨_,_,ps',rfl,hp8,by rw [lI]; exact Paired.mono (fun _ _ z=>z.same f6) hps',But.refl _ _⟩ ?_ ?_ ?_⟩
      · rintro i σ G' _ ⟨_,_,_,rfl,_,_,b⟩
        exact SqL.of (b _ _ (sF8 _ _ hod6) nopl)
      · rintro i x σ G' hi ⟨u4,u,ps,rfl,g1,g2,b⟩
        obtain ⟨e,he,hxe⟩:=jY hvs hi
        have sFb:bT (Hid ex G6) G':=fun a o z=>b _ _ (sF8 _ _ z) fun y=>q9 z (by rw [y]; exact c.i3)
        have mem:e∈w'.out:=bQ he
        have tk:w'.out.take (i + 1)=w'.out.take i++[e]:=by
          rw [gR,he]
          rfl
        have fo:∀ x∈w'.out.take i,x.key≠e.key:=fun x hx=>by
          have pw:=nw2
          rw [<- oW (i + 1) w'.out,tk] at pw
          exact (gc.mp (gc.mp pw).1).2.2 x hx e (aM.mpr rfl)
        have fall:lJ (pK (w'.out.take i) r.pd.dropLast):=oY fd' (fun x hx=>nw1 x (zB hx)) (nw2.sublist (lX _ _))
        refine ⟨_,rfl,co,CC,dx,_,_,rfl,b _ _ hc8 c.n2,T.cl,T.nP,Jo _ _ _ _ _,_,rfl,?_⟩
        refine nil_o ?_
        show zR [V.ref pl,x] G' _ _
        refine FY (F:=Hid ex G6) sFb g1 g2 fall hxe (fun y hy=>?_) ?_ fun ps2 hps2=>?_
        · rcases b8.mp ((gv _ _).mem_iff.mp hy) with z | z
          · exact fun q=>fo y z q.symm
          · exact nw1 e mem y z
        · rw [(gv _ _).length_eq,aI,km,cW]
          obtain ⟨new,e1,e2,_⟩:=N.ex
          have e1:w'.out=new:=e1
          have:=dk.2.2
          rw [e1]
          omega
        · refine ⟨_,_,ps2,rfl,ao,?_,b.trans (But.upd pl _ _)⟩
          rw [tk,A6]
          exact hps2
      rintro σ G9 ⟨u4,u,ps9,rfl,g1,g2,b⟩
      have lvs:vs.length=w'.out.length:=bJ hvs
      rw [lvs,eI] at g2
      have F9:bT (Hid ex G6) (Hid ex G9):=by
        rw [<- F8]
        exact Jm fun a o e n=>b _ _ e fun y=>n (by rw [y]; exact c.i3)
      have sF9:bT (Hid ex G6) G9:=F9.trans mU
      have hc9:=b _ _ hc8 c.n2
      have hs9:=b _ _ hs8 c.n3
      have ot9:Oth ex co sl pl H G9:=fun a ha n1 n2 n3 o e=>b _ _ (ot8 a ha n1 n2 n3 o e) n3
      have nt9:∀ a∈ex,∃ o,G9 a=some o/\∀ xs,o≠.tup xs:=fun a ha=>by
        by_cases z:a=pl
        · rw [z]
          exact ⟨_,g1,fun xs z=>by cases z⟩
        · obtain ⟨o,e,n⟩:=nt8 a ha
          exact ⟨o,b _ _ e z,n⟩
      have wk9:∀ (i:Nat) (M:MD) (s:Sta),Ms[i]?=some M->(r.sts.set h.to.toNat ⟨w'.bx,w'.qu,w'.dr,w'.se⟩)[i]?=some s->o9 M.bs M.qs s.w:=fun i M s hi hs=>by
        rw [ej] at hs
        by_cases z:i=j
        · rw [z,fh js] at hs
          rw [z,hMm] at hi
          cases hs
          cases hi
          exact g.ok.clean
        · rw [iS (fun y=>z y.symm)] at hs
          exact c.wk i M s hi hs
      have st9:∀ {F:Hp},bT (Hid ex G6) F->aX (StA CS F) (ss.set j L.st) (r.sts.set h.to.toNat ⟨w'.bx,w'.qu,w'.dr,w'.se⟩):=fun {F} s=>by
        rw [ej]
        exact Paired.set (Paired.mono (fun _ _ z=>lu.same' (f6.trans s) z) hss) j (lu.same' s hsn)
      have ems:(ss.map V.ref).set j (.ref L.st)=(ss.set j L.st).map V.ref:=List.map_set.symm
      rw [ems] at hs9
      refine cA ?_
      refine ⟨_,rfl,t6,_,_,_,rfl,rfl,SqT.of (sF9 _ _ ht6),rfl,w'.en,rfl,?_⟩
      cases een:w'.en with
      | true =>
        rw [een] at k rok
        refine iJ ?_
        refine ⟨_,rfl,th,_,_,_,rfl,rfl,SqT.of (sF9 _ _ hth6),rfl,lt2,fun tz htz=>?_⟩
        have sz:=aR htz (.tup [.str "end",.ref kh])
        refine ⟨_,rfl,co,CC,dx,_,rfl,sz _ _ hc9,T.cl,T.nE,yW _ _ _ _ _,?_⟩
        rw [zU]
        have F10:Hid ex (upd (upd G9 tz (.tup [.str "end",.ref kh])) co (.ins CC dx (jF (.ref m) (.ref sl) (.ref pl) (.ref kh) (.ref tz))))=Hid ex (upd G9 tz (.tup [.str "end",.ref kh])):=jA c.i1
        have ntz:∀ a∈ex,∃ o,upd G9 tz (.tup [.str "end",.ref kh]) a=some o/\∀ xs,o≠.tup xs:=fun a ha=>by
          obtain ⟨o,e,n⟩:=nt9 a ha
          exact ⟨o,sz _ _ e,n⟩
        have s10:bT (Hid ex G6) (Hid ex (upd G9 tz (.tup [.str "end",.ref kh]))):=F9.trans (iH sz)
        have htz10:Hid ex (upd G9 tz (.tup [.str "end",.ref kh])) tz=some (.tup [.str "end",.ref kh]):=iw ntz ao
        have nco:∀ {a:ae} {o:HO},a≠co->upd G9 tz (.tup [.str "end",.ref kh]) a=some o->upd (upd G9 tz (.tup [.str "end",.ref kh])) co (.ins CC dx (jF (.ref m) (.ref sl) (.ref pl) (.ref kh) (.ref tz))) a=some o:=fun n e=>bA e n
        have s10':bT (Hid ex G6) (upd (upd G9 tz (.tup [.str "end",.ref kh])) co (.ins CC dx (jF (.ref m) (.ref sl) (.ref pl) (.ref kh) (.ref tz)))):=by
          refine bT.trans s10 ?_
          rw [<- F10]
          exact mU
        refine ⟨_,rfl,t6,_,_,_,rfl,rfl,SqT.of (s10' _ _ ht6),rfl,?_⟩
        refine k _ _ ⟨rok,?_,c.i1,c.i2,c.i3,c.n1,c.n2,c.n3,⟨dx,_,_,ao,?_,?_⟩,⟨_,nco c.n1.symm (sz _ _ hs9),?_⟩,⟨_,nco c.n2.symm (sz _ _ g1),?_⟩,wk9,fun a ha=>?_⟩ ?_ ?_ ?_
        · rw [F10]
          exact (c.sm.trans f6).trans s10
        · rw [F10]
          exact ⟨kh,rfl,s10 _ _ hkh6⟩
        · rw [F10]
          exact ⟨tz,kh,rfl,htz10,s10 _ _ hkh6⟩
        · rw [F10]
          exact st9 s10
        · rw [F10]
          exact Paired.mono (fun _ _ z=>z.same s10) g2
        · by_cases z:a=co
          · rw [z]
            exact ⟨_,ao,fun xs z=>by cases z⟩
          · obtain ⟨o,e,n⟩:=ntz a ha
            exact ⟨o,nco z e,n⟩
        · rw [F10]
          exact f6.trans s10
        · exact fun a ha n1 n2 n3 o e=>nco n1 (sz _ _ (ot9 a ha n1 n2 n3 o e))
        · rw [F10]
          exact hrec.same s10
      | false =>
        rw [een] at k rok
        refine hW ?_
        have sv0:sv=.non:=by
          rw [hsp] at hsp0
          exact hsp0
        refine ⟨_,rfl,t6,_,_,_,rfl,rfl,SqT.of (sF9 _ _ ht6),rfl,?_⟩
        exact k _ _ ⟨rok,(c.sm.trans f6).trans F9,c.i1,c.i2,c.i3,c.n1,c.n2,c.n3,⟨dx,_,_,hc9,⟨kh,rfl,F9 _ _ hkh6⟩,sv0⟩,⟨_,hs9,st9 F9⟩,⟨_,g1,Paired.mono (fun _ _ z=>z.same F9) g2⟩,wk9,nt9⟩ (f6.trans F9) ot9 (hrec.same F9)
  · -- a fault
    obtain ⟨e,u3,u4,u5,rfl,rfl,ew,s6⟩:=ht
    rw [qp d ew] at k
    have rok:=A3 c.ok d ew
    rw [qp d ew] at rok
    refine .inl ⟨hx e,fun ea hea=>?_⟩
    have sx:=aR hea (XO ea (cf e))
    have s7:=s6.trans sx
    have f7:bT (Hid ex H) (Hid ex (upd G6 ea (XO ea (cf e)))):=by
      rw [<- F1]
      exact iH s7
    refine cA ?_
    refine ⟨_,rfl,ea,e,rfl,ao,_,rfl,_,rfl,th,_,_,_,rfl,rfl,SqT.of (s7 _ _ hth1),rfl,(by show 3<=aJ; decide),fun tz htz=>?_⟩
    have sz:=aR htz (.tup [.str "fault",.str (pA e),.ref kh])
    have s8:=s7.trans sz
    refine ⟨_,rfl,co,CC,dx,_,rfl,s8 _ _ hc1,T.cl,T.nE,yW _ _ _ _ _,?_⟩
    rw [zU]
    revert htz sz s8
    generalize upd G6 ea (XO ea (cf e))=G7 at f7 |-
    intro htz sz s8
    have F10:Hid ex (upd (upd G7 tz (.tup [.str "fault",.str (pA e),.ref kh])) co (.ins CC dx (jF (.ref m) (.ref sl) (.ref pl) rv (.ref tz))))=Hid ex (upd G7 tz (.tup [.str "fault",.str (pA e),.ref kh])):=jA c.i1
    have ntz:∀ a∈ex,∃ o,upd G7 tz (.tup [.str "fault",.str (pA e),.ref kh]) a=some o/\∀ xs,o≠.tup xs:=fun a ha=>by
      obtain ⟨o,e,n⟩:=nt1 a ha
      exact ⟨o,s8 _ _ e,n⟩
    have s10:bT (Hid ex H) (Hid ex (upd G7 tz (.tup [.str "fault",.str (pA e),.ref kh]))):=f7.trans (iH sz)
    have htz10:Hid ex (upd G7 tz (.tup [.str "fault",.str (pA e),.ref kh])) tz=some (.tup [.str "fault",.str (pA e),.ref kh]):=iw ntz ao
    refine k _ _ ⟨rok,?_,c.i1,c.i2,c.i3,c.n1,c.n2,c.n3,⟨dx,_,_,ao,?_,?_⟩,⟨ss,bA (s8 _ _ hs1) c.n1.symm,?_⟩,⟨ps',bA (s8 _ _ hp1) c.n2.symm,?_⟩,c.wk,fun a ha=>?_⟩ ?_ ?_ rfl
    · rw [F10]
      exact c.sm.trans s10
    · rw [F10]
      exact hre.same s10
    · rw [F10]
      exact ⟨tz,kh,rfl,htz10,s10 _ _ hkh⟩
    · rw [F10]
      exact Paired.mono (fun _ _ z=>lu.same' s10 z) hss
    · rw [F10]
      exact Paired.mono (fun _ _ z=>z.same s10) hps'
    · by_cases z:a=co
      · rw [z]
        exact ⟨_,ao,fun xs z=>by cases z⟩
      · obtain ⟨o,e,n⟩:=ntz a ha
        exact ⟨o,bA e z,n⟩
    · rw [F10]
      exact s10
    · exact fun a ha n1 n2 n3 o e=>bA (s8 _ _ (ot1 a ha n1 n2 n3 o e)) n1
end
end My
namespace My
open PySem L2
def DY (Ms:List MD):Prop:=∀ M∈Ms,∀ q∈M.hs,q.2.toOk (Ms.length:Int)/\q.2.deep<=4/\q.2.size<=3 * ddz 4
theorem uu.ok {CM:ae} {Ms:List MD} {H:Hp} {m:ae} (h:uu CM Ms H m):DY Ms:=by
  obtain ⟨dx,ml,fs,_,_,xs,_,p⟩:=h
  intro M hM
  obtain ⟨j,hj⟩:=cV hM
  obtain ⟨x,_,z⟩:=ig p hj
  exact z.hk
theorem Ju {Ms:List MD} {r:RS} (k:ROk Ms.length r) (n:r.pd≠[]):∃ h M s,Did Ms r h M s:=by
  obtain ⟨h,hl⟩:∃ h,r.pd.getLast?=some h:=by
    cases e:r.pd.getLast? with
    | none=>exact absurd (wj.mp e) n
    | some h=>exact ⟨h,rfl⟩
  have spl:=tS hl
  have hin:h∈r.pd:=by
    rw [spl]
    exact bC _ (aM.mpr rfl)
  have eo:=k.ev h hin
  have jl:h.to.toNat < Ms.length:=by have:=eo.to1; have:=eo.to0; omega
  have js:h.to.toNat < r.sts.length:=by rw [k.len]; exact jl
  exact ⟨h,_,_,spl,aA jl,aA js⟩
inductive yZ (Ms:List MD) (r:RS):Prop
  | err (h:Ev) (M:MD) (s:Sta) (e:Flt) (d:Did Ms r h M s) (q:doS h M.ds (jx M.hs h.sg) s.w=.error e) (eq:gZ Ms r=({r with pd:=r.pd.dropLast,sp:=some (.flt e h)},[]))
  | ok (h:Ev) (M:MD) (s:Sta) (w:Wk) (d:Did Ms r h M s) (q:doS h M.ds (jx M.hs h.sg) s.w=.ok w) (N:News (Ms.length:Int) h (3 * ddz 4) s.w w)
      (eq:gZ Ms r=(⟨r.sts.set h.to.toNat ⟨w.bx,w.qu,w.dr,w.se⟩,pK w.out r.pd.dropLast,some h,if w.en=true then some (.fin h) else none⟩,[⟨h,wrB M.bs w,wrQ M.qs w,w.out⟩]))
theorem sO {Ms:List MD} {r:RS} (mo:DY Ms) (k:ROk Ms.length r) (n:r.pd≠[]):yZ Ms r:=by
  obtain ⟨h,M,s,d⟩:=Ju k n
  have dk:=zW (P:=fun D=>D.toOk (Ms.length:Int)/\D.deep<=4/\D.size<=3 * ddz 4) (mo M (bQ d.hM)) ⟨by simp only [Ds.toOk],by simp only [Ds.deep]; omega,by simp only [Ds.size]; omega⟩ h.sg
  cases q:doS h M.ds (jx M.hs h.sg) s.w with
  | error e=>exact .err h M s e d q (qp d q)
  | ok w=>exact .ok h M s w d q ((mj _ _ _ dk.1 q).le dk.2.2) (sN d q)
theorem kQ {r:RS} {left:Int} (h:j9 r left=none):r.sp=none/\r.pd≠[]/\0 < left:=by
  unfold j9 at h
  split at h
  · cases h
  · rename_i e
    split at h
    · cases h
    · rename_i c
      split at h
      · cases h
      · refine ⟨e,fun z=>?_,by omega⟩
        rw [z] at c
        exact c rfl
theorem Jv {r:RS} {left:Int} {s:Stp} (h:r.sp=some s):j9 r left=some (.stp s):=by
  unfold j9
  rw [h]
theorem tY {Ms:List MD} {r:RS} (h:yZ Ms r):(gZ Ms r).1.pd.length<=r.pd.length + 5000 * (gZ Ms r).2.length/\((∃ q,(gZ Ms r).2=[q])\/((gZ Ms r).2=[]/\∃ s,(gZ Ms r).1.sp=some s)):=by
  cases h with
  | err h M s e d q eq =>
    rw [eq]
    refine ⟨?_,.inr ⟨rfl,_,rfl⟩⟩
    show r.pd.dropLast.length<=_
    rw [km]
    omega
  | ok h M s w d q N eq =>
    rw [eq]
    refine ⟨?_,.inl ⟨_,rfl⟩⟩
    show (pK w.out r.pd.dropLast).length<=r.pd.length + 5000 * 1
    rw [(gv _ _).length_eq,aI,km]
    obtain ⟨new,e1,e2,_⟩:=N.ex
    have e1:w.out=new:=e1
    have dz:3 * ddz 4<=5000:=by decide
    rw [e1]
    omega
def xA (Ms:List MD) (r:RS) (most:Int) (i:Nat) (e:End):Prop:=(∀ j,j < i->ROk Ms.length (itR Ms r j).1/\j9 (itR Ms r j).1 (most - (itR Ms r j).2.length)=none)/\j9 (itR Ms r i).1 (most - (itR Ms r i).2.length)=some e/\ROk Ms.length (itR Ms r i).1
def rMu (σ:St) (G:Hp):Nat:=match (σ[3]?:Option (Option V)),(σ[2]?:Option (Option V)) with
  | some (some .non),some (some (.ref rl))=>(match G rl with | some (.lst rs)=>1 + (2000 - rs.length) | _=>0)
  | _,_=>0
theorem zX {σ:St} {G:Hp} {rl:ae} {rs:List V} (h6:σ[3]?=some (some .non)) (h5:σ[2]?=some (some (.ref rl))) (hr:G rl=some (.lst rs)):rMu σ G=1 + (2000 - rs.length):=by
  unfold rMu
  rw [h6,h5]
  dsimp only
  rw [hr]
theorem zY {σ:St} {G:Hp} {t:ae} (h6:σ[3]?=some (some (.ref t))):rMu σ G=0:=by
  unfold rMu
  rw [h6]
theorem rg.ref {F:Hp} {v:V}:∀ {e:End},rg F v e->∃ t,v=.ref t
  | .empty,⟨t,e,_⟩=>⟨t,e⟩
  | .cut,⟨t,e,_⟩=>⟨t,e⟩
  | .stp (.fin _),⟨t,_,e,_⟩=>⟨t,e⟩
  | .stp (.flt _ _),⟨t,_,e,_⟩=>⟨t,e⟩
section
variable {P:aW} {w:bO} {K:ag} {mg:Str->Option aa} {base:cE} {f fE fO CC CM CS:ae} {fd fdE fdO:cu}
seal L2.PS L2.PSs L2.PE L2.PA L2.PT L2.PW L2.PI L2.PG L2.PGs L2.PC
structure Ran (CC CS:ae) (Ms:List MD) (Hb:Hp) (ex:List ae) (co m sl pl:ae) (r:RS) (most:Int) (H G:Hp) (t:ae) (i:Nat) (e:End):Prop where
  st:xA Ms r most i e
  cc:lA CC CS Ms Hb ex G co m sl pl (itR Ms r i).1
  sm:bT (Hid ex H) (Hid ex G)
  ot:Oth ex co sl pl H G
  rs:∃ rl en rvs,Hid ex G t=some (.tup [.ref rl,en])/\Hid ex G rl=some (.lst rvs)/\H rl=none/\aX (RcIn (Hid ex G)) rvs (itR Ms r i).2/\rg (Hid ex G) en e
def Ht (CC CM CS:ae):Sp:=fun vs H Q _=>∃ (Ms:List MD) (Hb:Hp) (ex:List ae) (co m sl pl:ae) (r:RS) (most:Int),vs=[.ref co,.int most]/\uu CM Ms Hb m/\lA CC CS Ms Hb ex H co m sl pl r/\most<=1000/\r.pd.length<=1000000 /\
  ∀ G t i e,Ran CC CS Ms Hb ex co m sl pl r most H G t i e->Q (.ref t) G
abbrev nRn:List Str:=["course","most","records","ending","record"]
theorem DZ:bY nRn ["course","most"] (aF md):=⟨rfl,rfl,rfl,by decide +kernel,rfl,by decide +kernel,by decide +kernel⟩
theorem Jw (D:Df K mg "run_on" md ["course","most"] f fd) (ME:Mt K CC "ending_due" "Course.ending_due" dY ["self","left"] fE fdE) (GE:bX P w K mg base CX0 1 fE fdE ["self","left"] (spEd CC CS))
    (MO:Mt K CC "do_one" "Course.do_one" fq ["self"] fO fdO) (GO:bX P w K mg base CX0 38 fO fdO ["self"] (Hs CC CM CS)) (T:CoT K mg CC) (B:Bl mg) :
    bX P w K mg base CX0 39 f fd ["course","most"] (Ht CC CM CS):=by
  refine D.F.ok DZ (fun vs H Q E h=>?_) (fun cdv A outer s H vs Q E hr h=>?_)
  · obtain ⟨Ms,Hb,ex,co,m,sl,pl,r,most,rfl,_⟩:=h
    rfl
  obtain ⟨Ms,Hb,ex,co,m,sl,pl,r,most,rfl,hM,c,hmost,hln,k⟩:=h
  have r1:eA 1 _:=hr.mono (by decide)
  refine ⟨_,ak (bF (i:=2) DZ.nd rfl (Or.inl rfl) (fy aw))
    (ak (bF (i:=3) DZ.nd rfl (Or.inl rfl) (iq (pv 0) T.cl ME.m GE r1 ME.b .nil bS (au (pv 1) aw)))
    (ak (wM cI (sQ (HD (pv 3)))
      (ak (bF (i:=4) DZ.nd rfl (Or.inl rfl) (pX (pv 0) T.cl MO.m GO hr MO.b .nil bS))
      (ak (cZ (sQ (y9 (pv 4))) (aG (eT (lY cv cJ cK gX (pv 2) (au (pv 4) aw)))) cq)
      (aG (bF (i:=3) DZ.nd rfl (Or.inl rfl) (iq (pv 0) T.cl ME.m GE r1 ME.b .nil bS (au (cL jc (pv 1) (cX (eF K (by rfl)) (by rfl) B.len cm (au (pv 2) aw))) aw)))))))
    (aG (bR (eE (au (pv 2) (au (pv 3) aw))))))),?_⟩
  have cok:∀ {G:Hp} {r':RS} {ex':List ae},lA CC CS Ms Hb ex' G co m sl pl r'->∃ dx fs,G co=some (.ins CC dx fs)/\fs.lookup ("ending_due":Str)=none/\fs.lookup ("do_one":Str)=none:=fun c'=>by
    obtain ⟨dx,rv,sv,h1,_⟩:=c'.hc
    exact ⟨dx,_,h1,Hr _ _ _ _ _ (by decide +kernel),Hr _ _ _ _ _ (by decide +kernel)⟩
  have mo:=hM.ok
  -- no records
  refine cA (dG ?_)
  refine ⟨bK _,fun rl hrl=>?_⟩
  refine cj ?_
  dsimp only
  have c0:=c.more (o:=.lst []) hrl (fun xs z=>by cases z)
  have hr0:upd H rl (.lst []) rl=some (.lst []):=ao
  have f0:bT (Hid ex H) (Hid (rl :: ex) (upd H rl (.lst []))):=by
    rw [mm hrl]
    exact bT.refl _
  have ot0:Oth ex co sl pl H (upd H rl (.lst [])):=fun a _ _ _ _ o e=>bA e (aH e hrl)
  have n1:co≠rl:=by
    obtain ⟨dx,rv,sv,h1,_⟩:=c.hc
    exact aH h1 hrl
  have n2:sl≠rl:=by
    obtain ⟨ss,h1,_⟩:=c.hs
    exact aH h1 hrl
  have n3:pl≠rl:=by
    obtain ⟨ss,h1,_⟩:=c.hp
    exact aH h1 hrl
  revert c0 hr0 f0 ot0
  generalize upd H rl (.lst [])=G0
  intro c0 hr0 f0 ot0
  refine cA (dG ?_)
  obtain ⟨dx,fs,hco,no1,no2⟩:=cok c0
  refine ⟨_,rfl,co,dx,fs,rfl,hco,no1,_,rfl,Ms,Hb,rl :: ex,co,m,sl,pl,r,most,rfl,c0,fun en G1 s1 hen=>?_⟩
  refine cj ?_
  dsimp only
  refine cA ?_
  refine wN (fun σ G=>∃ (i:Nat) (en:V) (u4:Option V) (rvs:List V),σ=[some (.ref co),some (.int most),some (.ref rl),some en,u4]/\(∀ j,j < i->ROk Ms.length (itR Ms r j).1/\j9 (itR Ms r j).1 (most - (itR Ms r j).2.length)=none)/\lA CC CS Ms Hb (rl :: ex) G co m sl pl (itR Ms r i).1 /\
      G rl=some (.lst rvs)/\aX (RcIn (Hid (rl :: ex) G)) rvs (itR Ms r i).2/\bT (Hid ex H) (Hid (rl :: ex) G)/\Oth ex co sl pl H G/\(itR Ms r i).1.pd.length<=1000000 + 5000 * (itR Ms r i).2.length /\
      ((j9 (itR Ms r i).1 (most - (itR Ms r i).2.length)=none/\en=.non)\/∃ e,j9 (itR Ms r i).1 (most - (itR Ms r i).2.length)=some e/\rg (Hid (rl :: ex) G) en e)) rMu ?_ ?_ ?_
  · refine ⟨0,en,_,[],rfl,fun j hj=>absurd hj (kJ _),c0.same s1,s1 _ _ hr0,.nil,f0.trans (iH s1),fun a ha q1 q2 q3 o e=>s1 _ _ (ot0 a ha q1 q2 q3 o e),by show r.pd.length<=_; omega,?_⟩
    have e0:most - (((itR Ms r 0).2.length:Nat):Int)=most:=by
      show most - ((0:Nat):Int)=most
      omega
    rw [e0]
    exact hen
  · clear hen
    rintro σ G ⟨i,en,u4,rvs,rfl,hj,c1,hrl1,hrv,f1,ot1,hpl,hd⟩
    have lrv:=bJ hrv
    rcases hd with ⟨hd,rfl⟩ | ⟨e,hd,hen⟩
    · obtain ⟨d1,d2,d3⟩:=kQ hd
      have si:=sO mo c1.ok d2
      obtain ⟨sl1,sl2⟩:=tY si
      refine ⟨_,rfl,_,rfl,iJ ?_⟩
      refine cA (dG ?_)
      obtain ⟨dx,fs,hco,no1,no2⟩:=cok c1
      refine ⟨_,rfl,co,dx,fs,rfl,hco,no2,Ms,Hb,rl :: ex,co,m,sl,pl,_,rfl,hM,c1,d1,d2,by omega,fun v G2 c2 f2 ot2 tl=>?_⟩
      refine cj ?_
      dsimp only
      have hrl2:G2 rl=some (.lst rvs):=ot2 rl aC n1.symm n2.symm n3.symm _ hrl1
      have ot2':Oth ex co sl pl H G2:=fun a ha q1 q2 q3 o e=>ot2 a (af _ ha) q1 q2 q3 o (ot1 a ha q1 q2 q3 o e)
      have mu1:rMu [some (.ref co),some (.int most),some (.ref rl),some .non,u4] G=1 + (2000 - rvs.length):=zX rfl rfl hrl1
      have big:2000 < aJ:=by decide
      have itS:itR Ms r (i + 1)=((gZ Ms (itR Ms r i).1).1,(itR Ms r i).2++(gZ Ms (itR Ms r i).1).2):=rfl
      have hj':∀ j,j < i + 1->ROk Ms.length (itR Ms r j).1/\j9 (itR Ms r j).1 (most - (itR Ms r j).2.length)=none:=fun j hlt=>by
        rcases iZ j i with z | z
        · exact hj j z
        · have:j=i:=by omega
          rw [this]
          exact ⟨c1.ok,hd⟩
      rcases sl2 with ⟨q,eq⟩ | ⟨eq,sp,esp⟩
      · rw [eq] at tl sl1
        obtain ⟨rc,erc⟩:∃ rc,v=.ref rc:=by
          obtain ⟨rc,_,_,_,_,_,_,_,e,_⟩:=tl
          exact ⟨rc,e⟩
        subst erc
        refine cA ?_
        refine ⟨_,rfl,_,rfl,iJ ?_⟩
        refine ⟨_,rfl,.inl ⟨rfl,_,SqL.of hrl2⟩,_,rfl,rl,rvs,.ref rc,rfl,rfl,hrl2,by omega,?_⟩
        have c3:=c2.upd (a:=rl) (o:=.lst (rvs++[.ref rc])) aC n1 n2 n3 (fun xs z=>by cases z)
        have hrl3:upd G2 rl (.lst (rvs++[.ref rc])) rl=some (.lst (rvs++[.ref rc])):=ao
        have f3:Hid (rl :: ex) (upd G2 rl (.lst (rvs++[.ref rc])))=Hid (rl :: ex) G2:=jA aC
        have ot3:Oth ex co sl pl H (upd G2 rl (.lst (rvs++[.ref rc]))):=fun a ha q1 q2 q3 o e=>bA (ot2' a ha q1 q2 q3 o e) (aH e hrl)
        have hrv3:aX (RcIn (Hid (rl :: ex) (upd G2 rl (.lst (rvs++[.ref rc]))))) (rvs++[.ref rc]) (itR Ms r (i + 1)).2:=by
          rw [f3,itS,eq]
          exact eU (Paired.mono (fun _ _ z=>z.same f2) hrv) tl
        have f3':bT (Hid ex H) (Hid (rl :: ex) (upd G2 rl (.lst (rvs++[.ref rc])))):=by
          rw [f3]
          exact f1.trans f2
        have c3':lA CC CS Ms Hb (rl :: ex) (upd G2 rl (.lst (rvs++[.ref rc]))) co m sl pl (itR Ms r (i + 1)).1:=c3
        revert c3' hrl3 ot3 hrv3 f3'
        clear c3 f3
        generalize upd G2 rl (.lst (rvs++[.ref rc]))=G3
        intro hrl3 ot3 hrv3 f3' c3'
        have l3:=bJ hrv3
        dsimp only
        refine dG ?_
        obtain ⟨dx,fs,hco,no1,no2⟩:=cok c3'
        refine ⟨_,rfl,co,dx,fs,rfl,hco,no1,_,rfl,_,rfl,rl,_,rfl,.inl (SqL.of hrl3),_,_,rfl,rfl,Ms,Hb,rl :: ex,co,m,sl,pl,_,_,rfl,c3',fun en4 G4 s4 hen4=>?_⟩
        refine cj ?_
        dsimp only
        refine ⟨⟨i + 1,en4,_,_,rfl,hj',c3'.same s4,s4 _ _ hrl3,Paired.mono (fun _ _ z=>z.same (iH s4)) hrv3,f3'.trans (iH s4),fun a ha q1 q2 q3 o e=>s4 _ _ (ot3 a ha q1 q2 q3 o e),?_,?_⟩,?_⟩
        · rw [itS,eq,aI]
          show (gZ Ms (itR Ms r i).1).1.pd.length<=_
          show _<=1000000 + 5000 * ((itR Ms r i).2.length + 1)
          simp only [bj,cP] at sl1
          omega
        · rw [<- l3]
          exact hen4
        · rw [mu1]
          rcases hen4 with ⟨_,rfl⟩ | ⟨e,_,he⟩
          · rw [zX rfl rfl (s4 _ _ hrl3),aI]
            simp only [bj,cP]
            omega
          · obtain ⟨t,rfl⟩:=he.ref
            rw [zY rfl]
            omega
      · rw [eq] at tl sl1
        have tl:v=.non:=tl
        subst tl
        refine cA ?_
        refine ⟨_,rfl,_,rfl,hW (yY ?_)⟩
        dsimp only
        have c3':lA CC CS Ms Hb (rl :: ex) G2 co m sl pl (itR Ms r (i + 1)).1:=c2
        have hrv3:aX (RcIn (Hid (rl :: ex) G2)) rvs (itR Ms r (i + 1)).2:=by
          rw [itS,eq,dC]
          exact Paired.mono (fun _ _ z=>z.same f2) hrv
        have l3:=bJ hrv3
        refine dG ?_
        obtain ⟨dx,fs,hco,no1,no2⟩:=cok c3'
        refine ⟨_,rfl,co,dx,fs,rfl,hco,no1,_,rfl,_,rfl,rl,_,rfl,.inl (SqL.of hrl2),_,_,rfl,rfl,Ms,Hb,rl :: ex,co,m,sl,pl,_,_,rfl,c3',fun en4 G4 s4 hen4=>?_⟩
        refine cj ?_
        dsimp only
        have hen5:∃ e,j9 (itR Ms r (i + 1)).1 (most - (rvs.length:Int))=some e/\rg (Hid (rl :: ex) G4) en4 e:=by
          rcases hen4 with ⟨z,_⟩ | z
          · have y:j9 (itR Ms r (i + 1)).1 (most - (rvs.length:Int))=some (.stp sp):=Jv esp
            rw [y] at z
            cases z
          · exact z
        refine ⟨⟨i + 1,en4,_,_,rfl,hj',c3'.same s4,s4 _ _ hrl2,Paired.mono (fun _ _ z=>z.same (iH s4)) hrv3,(f1.trans f2).trans (iH s4),fun a ha q1 q2 q3 o e=>s4 _ _ (ot2' a ha q1 q2 q3 o e),?_,?_⟩,?_⟩
        · rw [itS,eq,dC]
          show (gZ Ms (itR Ms r i).1).1.pd.length<=1000000 + 5000 * (itR Ms r i).2.length
          simp only [cP] at sl1
          omega
        · rw [<- l3]
          exact .inr hen5
        · rw [mu1]
          obtain ⟨e,_,he⟩:=hen5
          obtain ⟨t,rfl⟩:=he.ref
          rw [zY rfl]
          omega
    · obtain ⟨t0,rfl⟩:=hen.ref
      refine ⟨_,rfl,_,rfl,hW ?_⟩
      dsimp only
      refine uY ?_
      refine ⟨_,rfl,_,rfl,lt2,fun t ht=>?_⟩
      have st_:=aR ht (.tup [.ref rl,.ref t0])
      have f5:bT (Hid (rl :: ex) G) (Hid ex (upd G t (.tup [.ref rl,.ref t0]))):=(iH st_).trans xy
      have nrl:rl∉ex:=fun z=>by
        obtain ⟨o,e,_⟩:=c.nt rl z
        rw [hrl] at e
        cases e
      have nt5:∀ a∈ex,∃ o,upd G t (.tup [.ref rl,.ref t0]) a=some o/\∀ xs,o≠.tup xs:=fun a ha=>by
        obtain ⟨o,e,n⟩:=c1.nt a (af _ ha)
        exact ⟨o,st_ _ _ e,n⟩
      exact k _ t i e ⟨⟨hj,hd,c1.ok⟩,(c1.same st_).less n1 n2 n3,f1.trans f5,fun a ha q1 q2 q3 o e=>st_ _ _ (ot1 a ha q1 q2 q3 o e),rl,_,rvs,iw nt5 ao,by rw [jz nrl]; exact st_ _ _ hrl1,hrl,Paired.mono (fun _ _ z=>z.same f5) hrv,hen.same f5⟩
  · rintro σ G4 Q1 Q2 hq ⟨x,hx,c,ec,z⟩
    exact ⟨x,hx,c,ec,hq _ _ z⟩
end
end My
namespace My
open PySem L2
def st0 (M:MD):Sta:=⟨M.ps,M.qs.map fun q=>(q,[]),0,0⟩
def rh (es:List Ev):List Ev:=es.mapIdx fun i e=>atP e i
def rj (Ms:List MD) (es:List Ev):RS:=⟨Ms.map st0,pK (rh es) [],none,none⟩
theorem lS {α β:Type} {R:α->β->Prop}:∀ {xs:List α} {ys:List β},xs.length=ys.length->(∀ (i:Nat) x y,xs[i]?=some x->ys[i]?=some y->R x y)->aX R xs ys
  | [],[],_,_=>.nil
  | [],_ :: _,l,_=>by cases l
  | _ :: _,[],l,_=>by cases l
  | x :: xs,y :: ys,l,h=>.cons (h 0 x y rfl rfl) (lS (by simpa using l) fun i a b ha hb=>h (i + 1) a b (by simpa using ha) (by simpa using hb))
theorem tZ (es:List Ev):(rh es).length=es.length:=List.length_mapIdx
theorem oZ {es:List Ev} {i:Nat} {x:Ev} (h:(rh es)[i]?=some x):∃ e,es[i]?=some e/\x=atP e i:=by
  unfold rh at h
  rw [List.getElem?_mapIdx] at h
  cases z:es[i]? with
  | none =>
    rw [z] at h
    cases h
  | some e =>
    rw [z] at h
    cases h
    exact ⟨e,rfl,rfl⟩
theorem zZ (es:List Ev):(rh es).Pairwise (fun a b=>a.key≠b.key):=by
  refine cQ.mpr fun i j hi hj lt=>?_
  obtain ⟨e,_,h1⟩:=oZ (es:=es) (i:=i) (x:=(rh es)[i]) (aA hi)
  obtain ⟨e',_,h2⟩:=oZ (es:=es) (i:=j) (x:=(rh es)[j]) (aA hj)
  rw [h1,h2]
  refine tT (.inr ?_)
  show (i:Int)≠(j:Int)
  omega
theorem z9 {Ms:List MD} {es:List Ev} (h:∀ e∈es,DI Ms.length e):ROk Ms.length (rj Ms es):=by
  refine ⟨ah _,oY List.Pairwise.nil (fun x _ y hy=>by cases hy) (zZ es),fun e he=>?_,fun e he=>?_⟩
  · rcases b8.mp ((gv _ _).mem_iff.mp he) with z | z
    · obtain ⟨i,hi⟩:=cV z
      obtain ⟨e',h',rfl⟩:=oZ hi
      obtain ⟨a,b,c,d,f⟩:=h e' (bQ h')
      exact ⟨a,b,c,d,f⟩
    · cases z
  · rcases b8.mp ((gv _ _).mem_iff.mp he) with z | z
    · obtain ⟨i,hi⟩:=cV z
      obtain ⟨e',h',rfl⟩:=oZ hi
      exact .inl rfl
    · cases z
theorem New.sta {H H':Hp} {CS st dx bd qd:ae} {ls:List ae} {M:MD} (N:New H H' CS st M.ps M.qs dx bd qd ls) (nb:(M.ps.map (·.1)).Nodup) (nq:M.qs.Nodup):StA CS H' st (st0 M):=by
  have inj:∀ xs:List Str,xs.Nodup->(xs.map (Sum.inr:Str->Key)).Nodup:=fun xs h=>List.Pairwise.map _ (fun a b z y=>z (lB y)) h
  refine ⟨dx,bd,qd,M.qs.zip ls,N.hst,?_,?_,?_⟩
  · have z:H' bd=some (.dK (pz (boK M.ps) [])):=N.hbd
    have e:pz (boK M.ps) []=boK M.ps:=by
      rw [yG]
      · exact oH _
      · rw [oH]
        unfold boK
        rw [eG]
        have:=inj _ nb
        rw [eG] at this
        exact this
    rw [e] at z
    exact z
  · have z:H' qd=some (.dK (pz (quK (M.qs.zip ls)) [])):=N.hqd
    have e:pz (quK (M.qs.zip ls)) []=quK (M.qs.zip ls):=by
      rw [yG]
      · exact oH _
      · rw [oH]
        unfold quK
        rw [eG]
        have e1:(M.qs.zip ls).map ((fun x:Key×V=>x.1) ∘ fun p:Str×ae=>((Sum.inr p.1:Key),V.ref p.2))=((M.qs.zip ls).map (·.1)).map (Sum.inr:Str->Key):=by
          rw [eG]
          rfl
        rw [e1,List.map_fst_zip (by rw [N.len]; exact aL _)]
        exact inj _ nq
    rw [e] at z
    exact z
  · refine lS ?_ fun i x y hx hy=>?_
    · show _=((M.qs.map fun q=>(q,([]:List Int)))).length
      rw [oB,ah,N.len,Nat.min_self]
    · have hx:=vL.mp hx
      have hy:(M.qs.map fun q=>(q,([]:List Int)))[i]?=some y:=hy
      rw [cC,hx.1] at hy
      cases hy
      exact ⟨rfl,(N.li _ (bQ hx.2)).2⟩
theorem MoI.wk0 {m:Int} {H:Hp} {v:V} {M:MD} (h:MoI m H v M):o9 M.bs M.qs (st0 M).w:=by
  have w1:(10:Int) ^ 15=1000000000000000:=by decide
  refine ⟨h.kb,?_,h.nb,h.nq,fun p hp=>?_,fun p hp=>?_,jI,(fun x hx=>by cases hx),jI,(fun x hx=>by cases hx),(fun x hx=>by cases hx),?_⟩
  · show (M.qs.map fun q=>(q,([]:List Int))).map (·.1)=_
    rw [eG]
    exact List.map_id _
  · have:=h.wb p hp
    unfold Wo
    omega
  · obtain ⟨q,_,rfl⟩:=cN.mp hp
    exact ⟨bK _,fun n hn=>by cases hn⟩
  · rw [aI]
    have:=h.lb
    have:=h.lq
    omega
theorem D0 {H G:Hp} {ex:List ae} (s:bT H G) (n:∀ a∈ex,H a=none):bT H (Hid ex G):=fun a o e=>by
  rw [jz fun z=>by
    rw [n a z] at e
    cases e]
  exact s _ _ e
section
variable {P:aW} {w:bO} {K:ag} {mg:Str->Option aa} {base:cE} {f fI fF fPf fA fR fBk CC CM CS CB:ae} {fd fdI fdF fdPf fdA fdR fdBk:cu}
seal L2.PS L2.PSs L2.PE L2.PA L2.PT L2.PW L2.PI L2.PG L2.PGs L2.PC
def spCI (CC:ae):Sp:=fun vs H Q _=>∃ (b dx:ae) (m s p:V),vs=[.ref b,m,s,p]/\H b=some (.ins CC dx [])/\∀ G,G b=some (.ins CC dx (jF m s p .non .non))->But b H G->Q .non G
theorem scCI:bY ["self","model","states","pending"] ["self","model","states","pending"] (aF ie):=⟨rfl,rfl,rfl,by decide +kernel,rfl,by decide +kernel,by decide +kernel⟩
theorem ok_ci (F:Fun K "__init__" "Course.__init__" ie f fd) (T:CoT K mg CC):bX P w K mg base CX0 1 f fd ["self","model","states","pending"] (spCI CC):=by
  refine F.ok scCI (fun vs H Q E h=>?_) (fun cdv A outer s H vs Q E hr h=>?_)
  · obtain ⟨b,dx,m,s',p,rfl,_⟩:=h
    rfl
  obtain ⟨b,dx,m,s',p,rfl,hb,k⟩:=h
  refine ⟨_,ak (gf (pv 0) (pv 1) rfl) (ak (gf (pv 0) (pv 2) rfl) (ak (gf (pv 0) (pv 3) rfl) (ak (gf (pv 0) vk rfl) (aG (gf (pv 0) vk rfl))))),?_⟩
  have l1:=gT "model" m []
  have l2:=gT "states" s' (dD "model" m [])
  have l3:=gT "pending" p (dD "states" s' (dD "model" m []))
  have l4:=gT "reached" .non (dD "pending" p (dD "states" s' (dD "model" m [])))
  simp only [cP] at l1
  refine ⟨_,rfl,_,rfl,b,CC,dx,[],rfl,hb,T.cl,T.nM,(by show 0 < 1000; decide),_,rfl,_,rfl,b,CC,dx,_,rfl,ao,T.cl,T.nS,(by omega),_,rfl,_,rfl,b,CC,dx,_,rfl,ao,T.cl,T.nP,(by omega),?_⟩
  refine ⟨_,rfl,b,CC,dx,_,rfl,ao,T.cl,T.nR,(by omega),_,rfl,b,CC,dx,_,rfl,ao,T.cl,T.nE,(by omega),?_⟩
  rw [Jq]
  exact k _ ao (((((But.upd b H _).trans (But.upd b _ _)).trans (But.upd b _ _)).trans (But.upd b _ _)).trans (But.upd b _ _))
def Hu (CC CM CS:ae):Sp:=fun vs H Q _=>∃ (Ms:List MD) (m sgl:ae) (svs:List V) (es:List Ev),vs=[.ref m,.ref sgl]/\uu CM Ms H m/\Ms.length < 1000/\H sgl=some (.lst svs)/\aX (mh H) svs es/\es.length < 64/\(∀ e∈es,DI Ms.length e) /\
  ∀ (G:Hp) (co sl pl:ae),lA CC CS Ms H [co,sl,pl] G co m sl pl (rj Ms es)->Q (.ref co) G
abbrev nCa:List Str:=["model","signs","states"]
theorem scCa:bY nCa ["model","signs"] (aF fb):=⟨rfl,rfl,rfl,by decide +kernel,rfl,by decide +kernel,by decide +kernel⟩
theorem ndCa:((["at"]:List Str)++nCa).Nodup:=by decide +kernel
theorem Jx (D:Df K mg "course_at_first" fb ["model","signs"] f fd) (DF:Df K mg "first_state" ic ["model","at"] fF fdF) (GF:bX P w K mg base CX0 3 fF fdF ["model","at"] (xk CM CS)) (DPf:Df K mg "pending_at_first" eQ ["signs"] fPf fdPf) (GPf:bX P w K mg base CX0 1 fPf fdPf ["signs"] Hi)
    (MC:Mk K CC fI) (bI:Binds K fdI ["self","model","states","pending"] []) (GI:bX P w K mg base CX0 1 fI fdI ["self","model","states","pending"] (spCI CC)) (T:CoT K mg CC) (TM:MdT K mg CM CS) (B:Bl mg) (BS:mg "sorted"=none) :
    bX P w K mg base CX0 4 f fd ["model","signs"] (Hu CC CM CS):=by
  refine D.F.ok scCa (fun vs H Q E h=>?_) (fun cdv A outer s H vs Q E hr h=>?_)
  · obtain ⟨Ms,m,sgl,svs,es,rfl,_⟩:=h
    rfl
  obtain ⟨Ms,m,sgl,svs,es,rfl,hM,hlen,hsg,hsv,hes,heo,k⟩:=h
  have hu:=m6 hr
  have h50:=Ig hr
  have h5:=gE (Bf (by decide:5<=50) _) h50
  have r1:eA 1 _:=hr.mono (by decide)
  have r2:eA 2 _:=hr.mono (by decide)
  have r3:eA 3 _:=hr.mono (by decide)
  refine ⟨_,ak (zt (i:=2) ["at"] (jv.open (NN:=nCa) (N:=nCa) (sc:=aF fb) rfl rfl (by decide +kernel) rfl (by decide +kernel) (by decide +kernel) rfl (by decide +kernel)) rfl scCa.nd rfl (Or.inl rfl) (jK (by rfl) B.range (au (cX (eF K (by rfl)) (by rfl) B.len cm (au (vW K (by rfl) (pv 0) (by rfl)) aw)) aw)) (fun _ _ _ _=>eD (i:=0) ndCa rfl (Or.inl rfl)) (fun _ _ _ _=>mK)
      (fun _ _ _ _=>aS GF r3 (by rfl) DF.m DF.F.kp DF.b .nil bS (au (pv 1) (au (pv 0) aw))))
    (aG (bR (oK MC GI r2 (by rfl) T.m bI .nil bS (au (pv 0) (au (pv 2) (au (Ct h5 (by rfl) BS (au (aS GPf r1 (by rfl) DPf.m DPf.F.kp DPf.b .nil bS (au (pv 1) aw)) aw) lC) aw)))))),?_⟩
  obtain ⟨dxm,ml,fs,hm,hfs,xs,hml,hxs⟩:=id hM
  have lxs:xs.length=Ms.length:=bJ hxs
  have big:=fK
  refine cA (dG ?_)
  refine AW (K:=K) (ms:=xs) rfl hm TM.clM TM.nM hfs hml (by omega) (fun i ys G=>∃ ss:List ae,ys=ss.map V.ref/\bT H G/\aX (StA CS G) ss ((Ms.take i).map st0)) ⟨[],rfl,bT.refl _,by rw [lI]; exact .nil⟩ ?_ ?_ ?_
  · rintro i ys G hi ⟨ss,rfl,s1,p1⟩
    have:=bJ p1
    rw [ah,cW] at this
    rw [ah]
    omega
  · rintro i ys G hi ⟨ss,rfl,s1,p1⟩
    obtain ⟨Mi,hMi⟩:∃ M,Ms[i]?=some M:=⟨_,aA (by omega)⟩
    obtain ⟨x,hx,mo⟩:=ig hxs hMi
    obtain ⟨t,bl,ql,n0,x3,x4,vb,rfl,g1,g2,g3,g4⟩:=mo.fs
    refine ⟨rfl,?_⟩
    unfold w6
    refine iJ ?_
    have lb:Mi.ps.length<=100:=by
      have e:=congrArg pf mo.kb
      rw [ah] at e
      have:=mo.lb
      omega
    have lq:Mi.qs.length<=100:=by
      have:=mo.lq
      omega
    refine ⟨_,rfl,_,rfl,m,dxm,ml,t,bl,ql,fs,n0,x3,x4,i,xs,vb,Mi.ps,Mi.qs,by rw [Int.zero_add]; rfl,s1 _ _ hm,hfs,s1 _ _ hml,hx,s1 _ _ g1,s1 _ _ g2,g3.same s1,lb,s1 _ _ g4,lq,fun st dx bd qd ls G' N=>?_⟩
    refine ⟨ss++[st],by rw [cy]; rfl,s1.trans N.same,?_⟩
    rw [gR,hMi,cy]
    exact eU (Paired.mono (fun _ _ z=>lu.same' N.same z) p1) (N.sta (by rw [mo.kb]; exact mo.nb) mo.nq)
  rintro ys G ⟨ss,rfl,s1,p1⟩
  rw [lxs,eI] at p1
  intro sl hsl
  have ssl:=aR hsl (.lst (ss.map V.ref))
  refine cj ?_
  dsimp only
  refine uY (yN ?_)
  have fsl:=none_of s1 hsl
  refine ⟨_,rfl,_,rfl,_,rfl,sgl,svs,es,rfl,ssl _ _ (s1 _ _ hsg),Paired.mono (fun _ _ z=>(z.same s1).same ssl) hsv,by omega,fun G1 l0 ys sm1 fl0 hl0 ly hy=>?_⟩
  have hys:aX (hZ G1) ys (rh es):=lS (by rw [tZ]; exact ly) fun i y e hy' he=>by
    obtain ⟨e',h',rfl⟩:=oZ he
    exact hy i y e' hy' h'
  obtain ⟨z1,z2,z3⟩:=tX hys
  refine ⟨l0,(ys.zip (rh es)).map fun u=>(u.1,u.2.key),rfl,?_,fun z hz=>?_,?_,?_,fun pl zs' hpl pm fz=>?_⟩
  · rw [eG]
    have:((fun x:V×List Int=>x.1) ∘ fun u:V×Ev=>(u.1,u.2.key))=(fun u:V×Ev=>u.1):=rfl
    rw [this,z1]
    exact hl0
  · obtain ⟨u,hu,rfl⟩:=cN.mp hz
    exact yX (z3 u hu)
  · rw [eG]
    have:((fun x:V×List Int=>x.2) ∘ fun u:V×Ev=>(u.1,u.2.key))=Ev.key ∘ (fun u:V×Ev=>u.2):=rfl
    rw [this,<- eG,z2]
    exact gS.mpr (zZ es)
  · rw [ah,oB,tZ]
    omega
  obtain ⟨ps,eps,hps⟩:=vd (F:=G1) (us:=ys.zip (rh es)) (es:=pK (rh es) []) (zs:=zs') z3 pm fz (by
    rw [z2]
    have:=gv (rh es) []
    rw [dC] at this
    exact this.symm) (z9 heo).fall
  rw [eps]
  have spl:=aR hpl (.lst ps)
  have hsl1:=sm1 _ _ (ao:upd G sl (.lst (ss.map V.ref)) sl=_)
  have nsp:sl≠pl:=aH hsl1 hpl
  intro co dxc hco hdx ndx
  have hslG:=spl _ _ hsl1
  have hplG:upd G1 pl (.lst ps) pl=some (.lst ps):=ao
  have nsc:sl≠co:=aH hslG hco
  have npc:pl≠co:=aH hplG hco
  have sA:bT H (upd G1 pl (.lst ps)):=(s1.trans (ssl.trans sm1)).trans spl
  refine ⟨co,dxc,_,_,_,rfl,ao,fun G' hG' but=>⟨rfl,?_⟩⟩
  have sB:bT (upd G1 pl (.lst ps)) G':=fun a o e=>but _ _ (bA (bA e (aH e hdx)) (aH e hco)) (aH e hco)
  have fco:H co=none:=none_of sA hco
  have fpl:H pl=none:=none_of (s1.trans (ssl.trans sm1)) hpl
  have fG:∀ a∈[co,sl,pl],G a=none:=fun a ha=>by
    simp only [ax,bz,or_false] at ha
    rcases ha with rfl | rfl | rfl
    · exact none_of ((ssl.trans sm1).trans spl) hco
    · exact hsl
    · exact none_of (ssl.trans sm1) hpl
  have sG:bT G (Hid [co,sl,pl] G'):=D0 (((ssl.trans sm1).trans spl).trans sB) fG
  have ntt:∀ a∈[co,sl,pl],∃ o,G' a=some o/\∀ xs,o≠.tup xs:=fun a ha=>by
    simp only [ax,bz,or_false] at ha
    rcases ha with rfl | rfl | rfl
    · exact ⟨_,hG',fun xs z=>by cases z⟩
    · exact ⟨_,sB _ _ hslG,fun xs z=>by cases z⟩
    · exact ⟨_,sB _ _ hplG,fun xs z=>by cases z⟩
  refine k G' co sl pl ⟨z9 heo,s1.trans sG,by simp,by simp,by simp,nsc.symm,npc.symm,nsp,⟨dxc,_,_,hG',rfl,rfl⟩,⟨ss,sB _ _ hslG,Paired.mono (fun _ _ z=>lu.same' sG z) p1⟩,⟨ps,sB _ _ hplG,Paired.mono (fun _ _ z=>hZ.hid ntt (z.same (spl.trans sB))) hps⟩,fun i M s hi hs=>?_,ntt⟩
  have hs:(Ms.map st0)[i]?=some s:=hs
  rw [cC,hi] at hs
  cases hs
  obtain ⟨x,_,mo⟩:=ig hxs hi
  exact mo.wk0
structure wx (CB CS:ae) (G:Hp) (b:ae) (q:RS×List Rec) (e:End):Prop where
  ex:∃ (dx rl sl:ae) (en:V) (rvs:List V) (ss:List ae),G b=some (.ins CB dx (FE (.ref rl) en (.ref sl)))/\G rl=some (.lst rvs)/\aX (RcIn G) rvs q.2/\rg G en e/\G sl=some (.lst (ss.map V.ref))/\aX (StA CS G) ss q.1.sts
def Hv (CM CS CB:ae):Sp:=fun vs H Q _=>∃ (Ms:List MD) (m sgl:ae) (svs:List V) (es:List Ev) (most:Int),vs=[.ref m,.ref sgl,.int most]/\uu CM Ms H m/\Ms.length < 1000/\H sgl=some (.lst svs)/\aX (mh H) svs es/\es.length < 64/\(∀ e∈es,DI Ms.length e)/\most<=1000 /\
  ∀ (G:Hp) (b:ae) (i:Nat) (e:End),bT H G->xA Ms (rj Ms es) most i e->wx CB CS G b (itR Ms (rj Ms es) i) e->Q (.ref b) G
theorem Jy:bY ["model","signs","most","course","told"] ["model","signs","most"] (aF oQ):=⟨rfl,rfl,rfl,by decide +kernel,rfl,by decide +kernel,by decide +kernel⟩
theorem Jz (D:Df K mg "plain" oQ ["model","signs","most"] f fd) (DA:Df K mg "course_at_first" fb ["model","signs"] fA fdA) (GA:bX P w K mg base CX0 4 fA fdA ["model","signs"] (Hu CC CM CS)) (DR:Df K mg "run_on" md ["course","most"] fR fdR) (GR:bX P w K mg base CX0 39 fR fdR ["course","most"] (Ht CC CM CS))
    (MB:Mk K CB fBk) (bB:Binds K fdBk ["self","records","ending","states"] []) (GB:bX P w K mg base CX0 1 fBk fdBk ["self","records","ending","states"] (spBk CB)) (TB:BkT K mg CB) (T:CoT K mg CC) :
    bX P w K mg base CX0 40 f fd ["model","signs","most"] (Hv CM CS CB):=by
  refine D.F.ok Jy (fun vs H Q E h=>?_) (fun cdv A outer s H vs Q E hr h=>?_)
  · obtain ⟨Ms,m,sgl,svs,es,most,rfl,_⟩:=h
    rfl
  obtain ⟨Ms,m,sgl,svs,es,most,rfl,hM,hlen,hsg,hsv,hes,heo,hmost,k⟩:=h
  have r2:eA 2 _:=hr.mono (by decide)
  have r4:eA 4 _:=hr.mono (by decide)
  refine ⟨_,ak (bF (i:=3) Jy.nd rfl (Or.inl rfl) (aS GA r4 (by rfl) DA.m DA.F.kp DA.b .nil bS (au (pv 0) (au (pv 1) aw))))
    (ak (bF (i:=4) Jy.nd rfl (Or.inl rfl) (aS GR hr (by rfl) DR.m DR.F.kp DR.b .nil bS (au (pv 3) (au (pv 2) aw))))
    (aG (bR (oK MB GB r2 (by rfl) TB.m bB .nil bS (au (bN cz (pv 4) aq (fun _ _=>rfl)) (au (bN cz (pv 4) aq (fun _ _=>rfl)) (au (cF (pv 3) rfl) aw))))))),?_⟩
  refine cA (dG ?_)
  refine ⟨_,rfl,_,rfl,Ms,m,sgl,svs,es,rfl,hM,hlen,hsg,hsv,hes,heo,fun G co sl pl c=>?_⟩
  refine cj ?_
  dsimp only
  refine cA (dG ?_)
  refine ⟨_,rfl,_,rfl,Ms,H,[co,sl,pl],co,m,sl,pl,_,most,rfl,hM,c,hmost,?_,fun G2 t i e R=>?_⟩
  · show (pK (rh es) []).length<=1000000
    rw [(gv _ _).length_eq,dC,tZ]
    omega
  refine cj ?_
  dsimp only
  obtain ⟨rl,en,rvs,h1,h2,_,h3,h4⟩:=R.rs
  obtain ⟨dx,rv,sv,h5,_⟩:=R.cc.hc
  obtain ⟨ss,h6,h7⟩:=R.cc.hs
  have hl:bT (Hid [co,sl,pl] G2) G2:=mU
  refine uY (yN ?_)
  refine ⟨_,rfl,t,_,_,_,rfl,rfl,SqT.of (hl _ _ h1),rfl,_,rfl,t,_,_,_,rfl,rfl,SqT.of (hl _ _ h1),rfl,_,rfl,co,CC,dx,_,_,rfl,h5,T.cl,T.nS,Jn _ _ _ _ _,fun b dxb hb hdx nb=>⟨b,dxb,_,_,_,rfl,ao,fun G' hG' but=>⟨rfl,?_⟩⟩⟩
  have sgb:bT G2 G':=fun a o e=>but _ _ (bA (bA e (aH e hdx)) (aH e hb)) (aH e hb)
  have sl2:=hl.trans sgb
  exact k G' b i e ((R.cc.sm.trans hl).trans sgb) R.st ⟨dxb,rl,sl,en,rvs,ss,hG',sl2 _ _ h2,Paired.mono (fun _ _ z=>z.same sl2) h3,h4.same sl2,sgb _ _ h6,Paired.mono (fun _ _ z=>lu.same' sl2 z) h7⟩
end
end My
namespace My
open PySem L2
section
variable {Ms:List MD} {r:RS}
theorem Aa (Ms:List MD) (r:RS):∀ (i d:Nat),∃ t,(itR Ms r (i + d)).2=(itR Ms r i).2++t
  | i,0=>⟨[],by rw [dC]; rfl⟩
  | i,d + 1=>by
    obtain ⟨t,e⟩:=Aa Ms r i d
    refine ⟨t++(gZ Ms (itR Ms r (i + d)).1).2,?_⟩
    show (itR Ms r (i + d)).2++(gZ Ms (itR Ms r (i + d)).1).2=_
    rw [e,jJ]
theorem been {most:Int} (mo:DY Ms):∀ {i:Nat},(∀ j,j < i->ROk Ms.length (itR Ms r j).1/\j9 (itR Ms r j).1 (most - (itR Ms r j).2.length)=none)->(∀ j,j < i->(itR Ms r j).2.length=j)/\(itR Ms r i).2.length<=i
  | 0,_=>⟨fun j hj=>absurd hj (kJ _),aL _⟩
  | i + 1,h=>by
    obtain ⟨h2,h3⟩:=been (i:=i) mo fun j hj=>h j (by omega)
    have di:=kQ (h i (by omega)).2
    have ri:=(h i (by omega)).1
    obtain ⟨_,s2⟩:=tY (sO mo ri di.2.1)
    have li:(itR Ms r i).2.length=i:=by
      cases i with
      | zero=>rfl
      | succ i =>
        -- the turn ahead of it told a record, else it would be over
        have e:(itR Ms r (i + 1)).2=(itR Ms r i).2++(gZ Ms (itR Ms r i).1).2:=rfl
        have dj:=kQ (h i (by omega)).2
        obtain ⟨_,s2'⟩:=tY (sO mo (h i (by omega)).1 dj.2.1)
        rcases s2' with ⟨q,eq⟩ | ⟨_,sp,esp⟩
        · rw [e,eq,aI,h2 i (by omega)]
          rfl
        · have:(itR Ms r (i + 1)).1.sp=some sp:=esp
          rw [di.1] at this
          cases this
    refine ⟨fun j hj=>?_,?_⟩
    · rcases iZ j i with z | z
      · exact h2 j z
      · have:j=i:=by omega
        rw [this]
        exact li
    · have e:(itR Ms r (i + 1)).2=(itR Ms r i).2++(gZ Ms (itR Ms r i).1).2:=rfl
      rw [e,aI,li]
      rcases s2 with ⟨q,eq⟩ | ⟨eq,_⟩
      · rw [eq]
        exact aL _
      · rw [eq]
        exact gi _
theorem ve {most:Int} {i:Nat} {e:End} (mo:DY Ms) (s:xA Ms r most i e) (m0:0<=most):((itR Ms r i).2.length:Int)<=most:=by
  cases i with
  | zero =>
    show ((0:Nat):Int)<=most
    omega
  | succ i =>
    obtain ⟨h1,h2⟩:=been mo s.1
    have d:=kQ (s.1 i (by omega)).2
    have:=h1 i (by omega)
    omega
theorem Ea {r:RS} {a b:Int} (h:j9 r a=none) (l:a<=b):j9 r b=none:=by
  obtain ⟨h1,h2,h3⟩:=kQ h
  unfold j9
  rw [h1]
  dsimp only
  rw [if_neg,if_neg (by omega)]
  intro z
  exact h2 (Ep.mp z)
theorem Eb {few most:Int} {i1 i2:Nat} {e1 e2:End} (lt:few<=most) (s1:xA Ms r few i1 e1) (s2:xA Ms r most i2 e2) (b1:((itR Ms r i1).2.length:Int)<=few) (f0:0<=few) :
    (itR Ms r i1).2=(itR Ms r i2).2.take few.toNat/\((few < (itR Ms r i2).2.length->e1=.cut)/\(e1=.cut\/e1=e2)):=by
  have le:i1<=i2:=by
    rcases iZ i2 i1 with z | z
    · have:=(s1.1 i2 z).2
      have:=Ea this (b:=most - (itR Ms r i2).2.length) (by omega)
      rw [s2.2.1] at this
      cases this
    · exact z
  have l1:(itR Ms r i1).2.length<=few.toNat:=by omega
  rcases iZ i1 i2 with z | z
  · -- it goes on there
    have d2:=(s2.1 i1 z).2
    have d1:=s1.2.1
    obtain ⟨p1,p2,p3⟩:=kQ d2
    unfold j9 at d1
    rw [p1] at d1
    dsimp only at d1
    rw [if_neg (fun q=>p2 (Ep.mp q))] at d1
    split at d1
    · rename_i c
      cases d1
      refine ⟨?_,fun _=>rfl,.inl rfl⟩
      obtain ⟨t,et⟩:=Aa Ms r i1 (i2 - i1)
      rw [show i1 + (i2 - i1)=i2 by omega] at et
      have ll:(itR Ms r i1).2.length=few.toNat:=by omega
      rw [et,<- ll,List.take_left']
      rfl
    · cases d1
  · have e:i1=i2:=by omega
    subst e
    refine ⟨(nG l1).symm,fun q=>?_,?_⟩
    · omega
    · have d1:=s1.2.1
      have d2:=s2.2.1
      unfold j9 at d1 d2
      cases hs:(itR Ms r i1).1.sp with
      | some s =>
        rw [hs] at d1 d2
        cases d1
        cases d2
        exact .inr rfl
      | none =>
        rw [hs] at d1 d2
        dsimp only at d1 d2
        by_cases c:(itR Ms r i1).1.pd.isEmpty=true
        · rw [if_pos c] at d1 d2
          cases d1
          cases d2
          exact .inr rfl
        · rw [if_neg c] at d1
          split at d1
          · cases d1
            exact .inl rfl
          · cases d1
end
structure Gk (es:List Ev) (r:RS) (rs:List Rec):Prop where
  pd:∀ e∈r.pd,(e.fr=-1/\∃ (i:Nat) (o:Ev),es[i]?=some o/\e=atP o i)\/(e.fr≠-1/\∃ q∈rs,e∈q.out)
  gt:∀ q∈rs,∀ e∈r.pd,HT.lexLt q.h.key e.key=true
  up:rs.Pairwise (fun a b=>HT.lexLt a.h.key b.h.key=true)
  kn:∀ (k:Nat) (q:Rec),rs[k]?=some q->(q.h.fr=-1/\∃ (i:Nat) (o:Ev),es[i]?=some o/\q.h=atP o i)\/(q.h.fr≠-1/\∃ (j:Nat) (q':Rec),j < k/\rs[j]?=some q'/\q.h∈q'.out)
  ou:∀ q∈rs,∀ e∈q.out,HT.lexLt q.h.key e.key=true/\e.fr=q.h.to/\e.fr≠-1
theorem orig0 {Ms:List MD} {es:List Ev}:Gk es (rj Ms es) []:=by
  refine ⟨fun e he=>?_,fun q hq=>(by cases hq),List.Pairwise.nil,fun k q h=>(by simp at h),fun q hq=>(by cases hq)⟩
  rcases b8.mp ((gv _ _).mem_iff.mp he) with z | z
  · obtain ⟨i,hi⟩:=cV z
    obtain ⟨o,ho,rfl⟩:=oZ hi
    exact .inl ⟨rfl,i,o,ho,rfl⟩
  · cases z
theorem A8 {Ms:List MD} {es:List Ev} {r:RS} {rs:List Rec} (k:ROk Ms.length r) (h:Gk es r rs) (s:yZ Ms r):Gk es (gZ Ms r).1 (rs++(gZ Ms r).2):=by
  cases s with
  | err e M s f d q eq =>
    rw [eq,dC]
    exact ⟨fun e he=>h.pd e (eZ _ he),fun q hq e he=>h.gt q hq e (eZ _ he),h.up,h.kn,h.ou⟩
  | ok x M s w d q N eq =>
    rw [eq]
    obtain ⟨n1,n2,n3⟩:=tU k d N
    have f:=k.fall
    rw [d.pd] at f
    obtain ⟨f1,f2⟩:=oX f
    have hin:x∈r.pd:=by
      rw [d.pd]
      exact bC _ (aM.mpr rfl)
    have ko:∀ e∈w.out,HT.lexLt x.key e.key=true/\e.fr=x.to/\e.fr≠-1:=fun e he=>by
      have o:=n3 e he
      have:=(k.ev x hin).to0
      exact ⟨key_t o.t0,o.fr,by rw [o.fr]; omega⟩
    refine ⟨fun e he=>?_,fun q hq e he=>?_,?_,fun j q hj=>?_,fun q hq e he=>?_⟩
    · rcases b8.mp ((gv _ _).mem_iff.mp he) with z | z
      · exact .inr ⟨(ko e z).2.2,_,bC _ (aM.mpr rfl),z⟩
      · rcases h.pd e (eZ _ z) with y | ⟨y,q',hq',y'⟩
        · exact .inl y
        · exact .inr ⟨y,q',fZ _ hq',y'⟩
    · have up:HT.lexLt q.h.key x.key=true\/q.h=x:=by
        rcases b8.mp hq with z | z
        · exact .inl (h.gt q z x hin)
        · rw [aM.mp z]
          exact .inr rfl
      have lo:HT.lexLt x.key e.key=true:=by
        rcases b8.mp ((gv _ _).mem_iff.mp he) with z | z
        · exact (ko e z).1
        · exact f2 e z
      rcases up with z | z
      · exact HT.lx_trans z lo
      · rw [z]
        exact lo
    · refine gc.mpr ⟨h.up,jw _ _,fun a ha b hb=>?_⟩
      rw [aM.mp hb]
      exact h.gt a ha x hin
    · rcases iZ j rs.length with lt | ge
      · rw [dy lt] at hj
        rcases h.kn j q hj with z | ⟨y,i,q',hi,hq',z⟩
        · exact .inl z
        · exact .inr ⟨y,i,q',hi,by rw [dy (by omega)]; exact hq',z⟩
      · rw [dJ ge] at hj
        have ej:j - rs.length=0:=by
          cases z:j - rs.length with
          | zero=>rfl
          | succ n =>
            rw [z] at hj
            simp at hj
        rw [ej] at hj
        cases hj
        rcases h.pd x hin with z | ⟨y,q',hq',z⟩
        · exact .inl z
        · obtain ⟨i,hi⟩:=cV hq'
          have li:=(aB.mp hi).1
          exact .inr ⟨y,i,q',by omega,by rw [dy li]; exact hi,z⟩
    · rcases b8.mp hq with z | z
      · exact h.ou q z e he
      · rw [aM.mp z] at he |-
        exact ko e he
theorem xB {Ms:List MD} {es:List Ev} {most:Int} (mo:DY Ms):∀ {i:Nat},(∀ j,j < i->ROk Ms.length (itR Ms (rj Ms es) j).1/\j9 (itR Ms (rj Ms es) j).1 (most - (itR Ms (rj Ms es) j).2.length)=none)->Gk es (itR Ms (rj Ms es) i).1 (itR Ms (rj Ms es) i).2
  | 0,_=>orig0
  | i + 1,h=>by
    obtain ⟨a,b⟩:=h i (by omega)
    exact A8 a (xB mo fun j hj=>h j (by omega)) (sO mo a (kQ b).2.1)
end My
namespace My
open PySem L2
theorem Ec (xs:List V) (k:Nat):lO xs none (some (k:Int))=xs.take k:=by
  unfold lO
  rw [HT.sIx_none,HT.sIx_nat,uM,Nat.sub_zero]
  rcases Nat.le_total k xs.length with h | h
  · rw [Nat.min_eq_left h]
  · rw [Nat.min_eq_right h,eI,nG h]
theorem qq {H:Hp} {n:Nat} {p q:ae} {xs:List V} (hp:H p=some (.tup xs)) (hq:H q=some (.tup xs)) (sc:∀ x∈xs,sc0 x):TEq H (n + 1) (.ref p) (.ref q):=
  .inr (.inr ⟨p,q,xs,xs,rfl,rfl,hp,hq,by
    clear hp hq
    induction xs with
    | nil=>exact .nil
    | cons x xs ih =>
      refine .cons ?_ (ih fun y hy=>sc y (af _ hy))
      cases n with
      | zero=>exact ⟨sc x aC,rfl⟩
      | succ n=>exact .inl ⟨sc x aC,rfl⟩⟩)
theorem qt {H:Hp} {n:Nat} {α:Type} {R S:V->α->Prop} (f:∀ x y a,R x a->S y a->TEq H n x y):∀ {xs ys:List V} {as:List α},aX R xs as->aX S ys as->aX (TEq H n) xs ys
  | _,_,_,.nil,.nil=>.nil
  | _,_,_,.cons a b,.cons c d=>.cons (f _ _ _ a c) (qt f b d)
theorem Gm {H:Hp} {n:Nat} {xs ys xs' ys':List V} (a:aX (TEq H n) xs ys) (b:aX (TEq H n) xs' ys'):aX (TEq H n) (xs++xs') (ys++ys'):=by
  induction a with
  | nil=>exact b
  | cons h _ ih=>exact .cons h ih
theorem lT {H:Hp} {n:Nat} {x:V} (h:sc0 x):TEq H n x x:=by
  cases n with
  | zero=>exact ⟨h,rfl⟩
  | succ n=>exact .inl ⟨h,rfl⟩
theorem Ab {H:Hp} {n:Nat} {a b:ae} {h:Ev} (ha:H a=some (rV h)) (hb:H b=some (rV h)):TEq H (n + 1) (.ref a) (.ref b):=
  qq ha hb fun x hx=>by
    simp only [ax,bz,or_false] at hx
    rcases hx with rfl | rfl | rfl | rfl <;> trivial
theorem JA {H:Hp} {n:Nat} {v v':V} {e:Ev} (h:hZ H v e) (h':hZ H v' e):TEq H (n + 2) v v':=by
  obtain ⟨t,k,rfl,h1,h2⟩:=h
  obtain ⟨t',k',rfl,h1',h2'⟩:=h'
  exact .inr (.inr ⟨t,t',_,_,rfl,rfl,h1,h1',.cons (Ab h2 h2') (.cons (lT trivial) (.cons (lT trivial) (.cons (lT trivial) (.cons (lT trivial) .nil))))⟩)
theorem Ed {H:Hp} {n:Nat} {a b:ae} {ns:List Int} (ha:H a=some (.lst (ns.map V.int))) (hb:H b=some (.lst (ns.map V.int))):TEq H (n + 1) (.ref a) (.ref b):=
  .inr (.inl ⟨a,b,_,_,rfl,rfl,ha,hb,by
    clear ha hb
    induction ns with
    | nil=>exact .nil
    | cons x xs ih=>exact .cons (lT trivial) ih⟩)
theorem Ee {H:Hp} {n:Nat}:∀ {qs:List (Str×List Int)} {qa qa':List (Str×ae)} {ws ws':List V},gu H qa qs->gu H qa' qs->aX (xr H) ws qa->aX (xr H) ws' qa'->aX (TEq H (n + 2)) ws ws'
  | [],qa,qa',ws,ws',e,g,a,c=>by
    cases e
    cases g
    cases a
    cases c
    exact .nil
  | q :: qs,qa,qa',ws,ws',e,g,a,c=>by
    cases e with
    | cons e f =>
    cases g with
    | cons g h =>
    cases a with
    | cons a b =>
    cases c with
    | cons c d =>
    obtain ⟨t,rfl,h1⟩:=a
    obtain ⟨t',rfl,h1'⟩:=c
    obtain ⟨e1,e2⟩:=e
    obtain ⟨g1,g2⟩:=g
    rw [e1] at h1
    rw [g1] at h1'
    exact .cons (.inr (.inr ⟨t,t',_,_,rfl,rfl,h1,h1',.cons (lT trivial) (.cons (Ed e2 g2) .nil)⟩)) (Ee f h b d)
theorem Gn {H:Hp} {n:Nat} {v v':V} {q:Rec} (h:RcIn H v q) (h':RcIn H v' q):TEq H (n + 4) v v':=by
  obtain ⟨rc,k,wl,od,ws1,ws2,vs,qa,rfl,h1,h2,h3,h4,h5,h6,h7,h8⟩:=h
  obtain ⟨rc',k',wl',od',ws1',ws2',vs',qa',rfl,h1',h2',h3',h4',h5',h6',h7',h8'⟩:=h'
  have w1:aX (TEq H (n + 2)) ws1 ws1':=qt (R:=vV H) (S:=vV H) (fun x y a hx hy=>by
    obtain ⟨t,rfl,z⟩:=hx
    obtain ⟨t',rfl,z'⟩:=hy
    exact qq z z' fun x hx=>by
      simp only [ax,bz,or_false] at hx
      rcases hx with rfl | rfl <;> trivial) h4 h4'
  have w2:aX (TEq H (n + 2)) ws2 ws2':=Ee h6 h6' h5 h5'
  refine .inr (.inr ⟨rc,rc',_,_,rfl,rfl,h1,h1',.cons (Ab h2 h2') (.cons (lT trivial) (.cons (lT trivial) (.cons (lT trivial) (.cons (lT trivial) (.cons ?_ (.cons ?_ .nil))))))⟩)
  · exact .inr (.inl ⟨wl,wl',_,_,rfl,rfl,h3,h3',Gm w1 w2⟩)
  · exact .inr (.inl ⟨od,od',_,_,rfl,rfl,h7,h7',qt (R:=hZ H) (S:=hZ H) (fun x y a hx hy=>JA hx hy) h8 h8'⟩)
theorem Ef {H:Hp} {a b:ae} {xs ys:List V} {rs:List Rec} (ha:H a=some (.lst xs)) (hb:H b=some (.lst ys)) (px:aX (RcIn H) xs rs) (py:aX (RcIn H) ys rs):TEq H 5 (.ref a) (.ref b):=
  .inr (.inl ⟨a,b,xs,ys,rfl,rfl,ha,hb,qt (R:=RcIn H) (S:=RcIn H) (fun x y q hx hy=>Gn hx hy) px py⟩)
theorem rL {α β:Type} {R:α->β->Prop}:∀ {xs:List α} {ys:List β} (n:Nat),aX R xs ys->aX R (xs.take n) (ys.take n)
  | _,_,0,_=>.nil
  | _,_,_ + 1,.nil=>.nil
  | _,_,n + 1,.cons a b=>.cons a (rL n b)
def e5 (a b c d e:Bool):Nat->Bool
  | 0=>a
  | 1=>b
  | 2=>c
  | 3=>d
  | _=>e
theorem all5 (a b c d e:Bool):(eS 5).all (e5 a b c d e)=(a && (b && (c && (d && e)))):=by
  simp [eS,qC,e5]
theorem all4 (a b c d:Bool):(eS 4).all (e5 a b c d true)=(a && (b && (c && d))):=by
  simp [eS,qC,e5]
theorem mV {H:Hp} {n:Nat} {i j:Int}:BEq H n (.int i) (.int j) (decide (i=j)):=by
  cases n with
  | zero=>exact .inl ⟨i,j,rfl,rfl,rfl⟩
  | succ n=>exact .inl (.inl ⟨i,j,rfl,rfl,rfl⟩)
theorem qv {H:Hp} {n:Nat} {i j:Str}:BEq H n (.str i) (.str j) (decide (i=j)):=by
  cases n with
  | zero=>exact .inr ⟨i,j,rfl,rfl,rfl⟩
  | succ n=>exact .inl (.inr ⟨i,j,rfl,rfl,rfl⟩)
theorem Ac {H:Hp} {n:Nat} {a b:ae} {e h:Ev} (ha:H a=some (rV e)) (hb:H b=some (rV h)):BEq H (n + 1) (.ref a) (.ref b) (decide (e.t=h.t) && (decide (e.r=h.r) && (decide (e.fr=h.fr) && decide (e.c=h.c)))):=by
  refine .inr ⟨a,b,_,_,rfl,rfl,.inr ⟨.inr ⟨ha,hb⟩,rfl,e5 (decide (e.t=h.t)) (decide (e.r=h.r)) (decide (e.fr=h.fr)) (decide (e.c=h.c)) true,fun i x y hx hy=>?_,(all4 _ _ _ _).symm⟩⟩
  match i,hx,hy with
  | 0,hx,hy=>cases hx; cases hy; exact mV
  | 1,hx,hy=>cases hx; cases hy; exact mV
  | 2,hx,hy=>cases hx; cases hy; exact mV
  | 3,hx,hy=>cases hx; cases hy; exact mV
  | n + 4,hx,hy=>simp at hx
theorem JB {H:Hp} {v:V} {t k:ae} {e h:Ev} (he:hZ H v e) (ht:H t=some (.tup [.ref k,.int h.to,.str h.sg,.int h.a,.int h.b])) (hk:H k=some (rV h)):∃ b,BEq H 2 v (.ref t) b/\(b=true->e=h)/\(e=h->b=true):=by
  obtain ⟨t',k',rfl,h1,h2⟩:=he
  refine ⟨_,.inr ⟨t',t,_,_,rfl,rfl,.inr ⟨.inr ⟨h1,ht⟩,rfl,e5 (decide (e.t=h.t) && (decide (e.r=h.r) && (decide (e.fr=h.fr) && decide (e.c=h.c)))) (decide (e.to=h.to)) (decide (e.sg=h.sg)) (decide (e.a=h.a)) (decide (e.b=h.b)),fun i x y hx hy=>?_,(all5 _ _ _ _ _).symm⟩⟩,?_,?_⟩
  · match i,hx,hy with
    | 0,hx,hy=>cases hx; cases hy; exact Ac h2 hk
    | 1,hx,hy=>cases hx; cases hy; exact mV
    | 2,hx,hy=>cases hx; cases hy; exact qv
    | 3,hx,hy=>cases hx; cases hy; exact mV
    | 4,hx,hy=>cases hx; cases hy; exact mV
    | n + 5,hx,hy=>simp at hx
  · intro z
    simp only [eX,decide_eq_true_iff] at z
    obtain ⟨⟨z1,z2,z3,z4⟩,z5,z6,z7,z8⟩:=z
    cases e
    cases h
    simp only [Ev.mk.injEq]
    exact ⟨z1,z2,z3,z4,z5,z6,z7,z8⟩
  · rintro rfl
    simp only [eX,decide_eq_true_iff,and_self]
theorem Ad {H:Hp} {v:V} {e:End} (h:rg H v e):∃ (t:ae) (s:Str) (r:List V),v=.ref t/\H t=some (.tup (.str s :: r))/\(e=.cut->s="cut"/\r=[])/\(e≠.cut->s≠"cut"):=by
  cases e with
  | empty =>
    obtain ⟨t,e,h⟩:=h
    exact ⟨t,_,_,e,h,(fun z=>by cases z),fun _=>sne (by decide +kernel)⟩
  | cut =>
    obtain ⟨t,e,h⟩:=h
    exact ⟨t,_,_,e,h,fun _=>⟨rfl,rfl⟩,fun z=>absurd rfl z⟩
  | stp s =>
    cases s with
    | fin x =>
      obtain ⟨t,k,e,h,_⟩:=h
      exact ⟨t,_,_,e,h,(fun z=>by cases z),fun _=>sne (by decide +kernel)⟩
    | flt f x =>
      obtain ⟨t,k,e,h,_⟩:=h
      exact ⟨t,_,_,e,h,(fun z=>by cases z),fun _=>sne (by decide +kernel)⟩
theorem y7 {H:Hp} {a b:ae} {s:Str} {r:List V} (ha:H a=some (.tup (.str s :: r))) (hb:H b=some (.tup [.str "cut"])):∃ k,TQ H 2 a b k/\TQ H 2 b a k/\(s="cut"/\r=[]->k=true):=by
  have h1:(eS 1).all (fun _=>decide (s=("cut":Str)))=decide (s=("cut":Str)):=by simp [eS,qC]
  refine ⟨decide (s=("cut":Str)) && ((r.length + 1) == 1),⟨_,_,fun _=>decide (s=("cut":Str)),ha,hb,fun i x y hx hy=>?_,?_⟩,⟨_,_,fun _=>decide (s=("cut":Str)),hb,ha,fun i x y hx hy=>?_,?_⟩,?_⟩
  · match i,hx,hy with
    | 0,hx,hy=>cases hx; cases hy; exact qv
    | n + 1,hx,hy=>simp at hy
  · have:min (V.str s :: r).length [V.str "cut"].length=1:=by
      show min (r.length + 1) 1=1
      omega
    rw [this,h1]
    rfl
  · match i,hx,hy with
    | 0,hx,hy =>
      cases hx
      cases hy
      have z:=qv (H:=H) (n:=2) (i:="cut") (j:=s)
      have e:decide (("cut":Str)=s)=decide (s=("cut":Str)):=by
        by_cases c:s=("cut":Str)
        · rw [decide_eq_true c,decide_eq_true c.symm]
        · rw [decide_eq_false c,decide_eq_false fun z=>c z.symm]
      rw [e] at z
      exact z
    | n + 1,hx,hy=>simp at hx
  · have:min [V.str "cut"].length (V.str s :: r).length=1:=by
      show min 1 (r.length + 1)=1
      omega
    rw [this,h1]
    show _=(_ && (1 == r.length + 1))
    cases r with
    | nil=>rfl
    | cons x xs =>
      have e1:((x :: xs).length + 1 == 1)=false:=by
        rw [beq_eq_false_iff_ne]
        show xs.length + 1 + 1≠1
        omega
      have e2:(1 == (x :: xs).length + 1)=false:=by
        rw [beq_eq_false_iff_ne]
        show 1≠xs.length + 1 + 1
        omega
      rw [e1,e2]
  · rintro ⟨rfl,rfl⟩
    rfl
theorem Gp {H:Hp} {v v':V} {e:End} (h:rg H v e) (h':rg H v' e):∃ a b,v=.ref a/\v'=.ref b/\TQ H 2 a b true:=by
  have one:∀ {a b:ae} {s:Str},H a=some (.tup [.str s])->H b=some (.tup [.str s])->TQ H 2 a b true:=fun {a b s} ha hb=>⟨_,_,fun _=>true,ha,hb,fun i x y hx hy=>by
    match i,hx,hy with
    | 0,hx,hy =>
      cases hx
      cases hy
      have z:=qv (H:=H) (n:=2) (i:=s) (j:=s)
      rw [decide_eq_true rfl] at z
      exact z
    | n + 1,hx,hy=>simp at hx,rfl⟩
  have kk:∀ {a b:ae} {x:Ev},H a=some (rV x)->H b=some (rV x)->BEq H 2 (.ref a) (.ref b) true:=fun {a b x} ha hb=>by
    have z:=Ac (n:=1) ha hb
    simp only [decide_true,Bool.and_self] at z
    exact z
  have ss:∀ {s:Str},BEq H 2 (.str s) (.str s) true:=fun {s}=>by
    have z:=qv (H:=H) (n:=2) (i:=s) (j:=s)
    rw [decide_eq_true rfl] at z
    exact z
  cases e with
  | empty =>
    obtain ⟨t,e,h⟩:=h
    obtain ⟨t',e',h'⟩:=h'
    exact ⟨t,t',e,e',one h h'⟩
  | cut =>
    obtain ⟨t,e,h⟩:=h
    obtain ⟨t',e',h'⟩:=h'
    exact ⟨t,t',e,e',one h h'⟩
  | stp s =>
    cases s with
    | fin x =>
      obtain ⟨t,k,e,h,hk⟩:=h
      obtain ⟨t',k',e',h',hk'⟩:=h'
      refine ⟨t,t',e,e',_,_,fun _=>true,h,h',fun i x y hx hy=>?_,rfl⟩
      match i,hx,hy with
      | 0,hx,hy=>cases hx; cases hy; exact ss
      | 1,hx,hy=>cases hx; cases hy; exact kk hk hk'
      | n + 2,hx,hy=>simp at hx
    | flt f x =>
      obtain ⟨t,k,e,h,hk⟩:=h
      obtain ⟨t',k',e',h',hk'⟩:=h'
      refine ⟨t,t',e,e',_,_,fun _=>true,h,h',fun i x y hx hy=>?_,rfl⟩
      match i,hx,hy with
      | 0,hx,hy=>cases hx; cases hy; exact ss
      | 1,hx,hy=>cases hx; cases hy; exact ss
      | 2,hx,hy=>cases hx; cases hy; exact kk hk hk'
      | n + 3,hx,hy=>simp at hx
end My
namespace My
open PySem L2
def Ae (K:ag):Sp:=fun vs H Q _=>∃ (a:ae) (ns:List Int),vs=[.ref a]/\SqL K H a (ns.map V.int)/\ns.length<=63/\(∀ x∈ns,eY x<=1048576)/\∀ H',Q (.bl true) H'
def DetX (t:L2.TT) (σ:St) (H:Hp) (b:Bool):Prop:=∀ Q:Bool->Hp->Prop,(∀ G,bT H G->Q b G)->t σ H Q
theorem xC {t:L2.TT} {a b:TS} {D:kU} {σ:St} {H:Hp} (h:DetX t σ H false) (k:∀ G,bT H G->b D σ G):Eu t a b D σ H:=h _ fun G s=>hW (k G s)
theorem Alike.keep {H H1 H2:Hp} (s:∀ a o,H1 a=some o->(∀ C dx fs,o≠.ins C dx fs)->H2 a=some o):∀ {n:Nat} {v v':V},Alike H H1 n v v'->Alike H H2 n v v'
  | 0,_,_,h=>h
  | n + 1,v,v',h=>by
    rcases h with h | ⟨p,p',xs,ys,e1,e2,h1,h2,r⟩ | ⟨p,p',xs,ys,e1,e2,h1,h2,r⟩
    · exact .inl h
    · exact .inr (.inl ⟨p,p',xs,ys,e1,e2,h1,s _ _ h2 (fun _ _ _ z=>by cases z),L2.Paired.imp' (fun _ _ z=>Alike.keep s z) r⟩)
    · exact .inr (.inr ⟨p,p',xs,ys,e1,e2,h1,s _ _ h2 (fun _ _ _ z=>by cases z),L2.Paired.imp' (fun _ _ z=>Alike.keep s z) r⟩)
theorem Gq {CM m dxm lm:ae} {H0 H H2:Hp} {xs:List V} {Ms:List MD} {v':V} (h:H lm=some (.lst xs)) (p:aX (MIn Ms.length H0 H) xs Ms) (al:Alike H H2 29 (.ref lm) v') (hm:H2 m=some (.ins CM dxm [])):uu CM Ms (upd H2 m (.ins CM dxm (dD "machines" v' []))) m:=by
  obtain ⟨ml',rfl,hMo⟩:=FU h p (Alike.keep (H2:=upd H2 m (.ins CM dxm (dD "machines" v' []))) (fun a o e n=>bA e (lU e hm (n _ _ _))) al)
  exact ⟨dxm,ml',_,ao,by rw [nV,if_pos rfl],hMo⟩
theorem wx.same {CB CS:ae} {G G':Hp} {b:ae} {q:RS×List Rec} {e:End} (h:wx CB CS G b q e) (s:bT G G'):wx CB CS G' b q e:=by
  obtain ⟨dx,rl,sl,en,rvs,ss,h1,h2,h3,h4,h5,h6⟩:=h.ex
  exact ⟨dx,rl,sl,en,rvs,ss,s _ _ h1,s _ _ h2,Paired.mono (fun _ _ z=>z.same s) h3,h4.same s,s _ _ h5,Paired.mono (fun _ _ z=>lu.same' s z) h6⟩
section
variable {P:aW} {w:bO} {K:ag} {mg:Str->Option aa} {base:cE} {f fP fD fMo fSg fMI fPl fKn fM CM CS CB:ae} {fd fdP fdD fdMo fdSg fdMI fdPl fdKn fdM:cu}
seal L2.PS L2.PSs L2.PE L2.PA L2.PT L2.PW L2.PI L2.PG L2.PGs L2.PC
abbrev nKn:List Str:=["_law_records","_law_at","_law_signs_here","_law_key","_law_sign","_law_record","_law_news"]
abbrev pKn:List Str:=["_law_records","_law_at","_law_signs_here"]
theorem Eg:bY nKn pKn (aF jq):=⟨rfl,rfl,rfl,by decide +kernel,rfl,by decide +kernel,by decide +kernel⟩
structure Knows (es:List Ev) (rs:List Rec) (k:Nat):Prop where
  kn:∀ (q:Rec),rs[k]?=some q->(q.h.fr=-1/\∃ (i:Nat) (o:Ev),es[i]?=some o/\q.h=atP o i)\/(q.h.fr≠-1/\∃ (j:Nat) (q':Rec),j < k/\rs[j]?=some q'/\q.h∈q'.out)
  ou:∀ q∈rs,∀ e∈q.out,HT.lexLt q.h.key e.key=true/\e.fr=q.h.to/\e.fr≠-1
def spKn:Sp:=fun vs H Q _=>∃ (rl sgl:ae) (k:Nat) (rvs svs:List V) (rs:List Rec) (es:List Ev),vs=[.ref rl,.int k,.ref sgl]/\H rl=some (.lst rvs)/\aX (RcIn H) rvs rs/\k < rs.length/\H sgl=some (.lst svs)/\aX (mh H) svs es/\Knows es rs k/\∀ H',bT H H'->Q (.bl true) H'
theorem ok_kn (D:Df K mg "_law_known" jq pKn f fd):bX P w K mg base CX0 1 f fd pKn spKn:=by
  refine D.F.ok Eg (fun vs H Q E h=>?_) (fun cdv A outer s H vs Q E hr h=>?_)
  · obtain ⟨rl,sgl,k,rvs,svs,rs,es,rfl,_⟩:=h
    rfl
  obtain ⟨rl,sgl,k,rvs,svs,rs,es,rfl,hrl,hrv,hk,hsg,hsv,hkn,kk⟩:=h
  have hu:=m6 hr
  have h50:=Ig hr
  have hl1:=gE (nh _ _) h50
  refine ⟨_,ak (bF (i:=3) Eg.nd rfl (Or.inl rfl) (bN cz (bN cU (pv 0) (pv 1) (fun _ _=>rfl)) aq (fun _ _=>rfl)))
    (ak (cZ (bL eO (bN cz (pv 3) aq (fun _ _=>rfl)) (By xX aq) (cg _)) (ak (bF (i:=4) Eg.nd rfl (Or.inl rfl) (bN cU (pv 2) (bN cz (pv 3) aq (fun _ _=>rfl)) (fun _ _=>rfl)))
    (aG (bR (Bq (oJ (Cd h50) (hV tf (pv 3) j1 (iu aq)) (hV tf (pv 4) j1 (iu aq)) (cg _)) (Bp (oJ (Cd h50) (hV tf (bN cU (pv 0) (pv 1) (fun _ _=>rfl)) (iu aq) (iu aq)) (hV tf (pv 4) (iu aq) j1) (cg _))))))) cq)
    (ak (iz cI rfl (ip (hV oO (pv 0) j1 (iu (pv 1)))) (eD (i:=5) Eg.nd rfl (Or.inl rfl)) (aG (iz cI rfl (ip (bN cz (pv 5) aq (fun _ _=>rfl))) (eD (i:=6) Eg.nd rfl (Or.inl rfl)) (aG (cZ (bL (Im h50) (pv 6) (hV tf (bN cU (pv 0) (pv 1) (fun _ _=>rfl)) j1 (iu aq)) (cg _)) (aG (bR (Bq (oJ (BN hl1) (bN cz (pv 5) aq (fun _ _=>rfl)) (pv 3) (cg _)) (Bp (oJ eO (bN cz (pv 5) aq (fun _ _=>rfl)) (bN cz (pv 3) aq (fun _ _=>rfl)) (cg _)))))) cq)))))
    (aG (bR lC)))),?_⟩
  obtain ⟨q,hq⟩:∃ q,rs[k]?=some q:=⟨_,aA hk⟩
  obtain ⟨rv,hrvk,hrc⟩:=ig hrv hq
  obtain ⟨rc,ky,wl,od,ws1,ws2,vs,qa,rfl,c1,c2,c3,c4,c5,c6,c7,c8⟩:=id hrc
  have lrv:rvs.length=rs.length:=bJ hrv
  refine cA (dG ?_)
  refine ⟨_,rfl,_,rfl,rl,_,_,_,rfl,rfl,SqL.of hrl,gy hrvk,rc,_,_,_,rfl,rfl,SqT.of c1,rfl,?_⟩
  refine cj ?_
  dsimp only
  refine cA ?_
  refine ⟨_,rfl,ky,_,_,_,rfl,rfl,SqT.of c2,rfl,_,rfl,rfl,_,rfl,?_⟩
  by_cases cf:q.h.fr=-1
  · refine kL (b:=true) (decide_eq_true (by rw [cf])) (iJ ?_)
    rcases hkn.kn q hq with ⟨_,i,o,ho,eo⟩ | ⟨z,_⟩
    · obtain ⟨sv,hsvi,ts,rfl,hts⟩:=ig hsv ho
      rw [eo] at c1 c2
      refine cA (dG ?_)
      refine ⟨_,rfl,_,rfl,ky,_,_,_,rfl,rfl,SqT.of c2,rfl,sgl,_,_,_,rfl,rfl,SqL.of hsg,gy hsvi,?_⟩
      refine cj ?_
      dsimp only
      refine uY ?_
      have sci:∀ {xs:List V},(∀ x∈xs,(∃ i,x=V.int i)\/∃ s,x=V.str s)->∀ x∈xs,sc0 x:=fun h x hx=>by
        rcases h x hx with ⟨i,rfl⟩ | ⟨s,rfl⟩ <;> trivial
      refine ⟨_,rfl,_,rfl,ky,_,rfl,SqT.of c2,(by show ¬ (HT.sIx 4 0 none=0/\HT.sIx 4 4 (some 2)=4); decide),fun p1 hp1=>?_⟩
      have s1:=aR hp1 (.tup [.int o.t,.int o.r])
      refine ⟨_,rfl,_,rfl,ts,_,rfl,SqT.of (s1 _ _ hts),(by show ¬ (HT.sIx 6 0 none=0/\HT.sIx 6 6 (some 2)=6); decide),fun p2 hp2=>?_⟩
      have s2:=aR hp2 (.tup [.int o.t,.int o.r])
      refine ⟨1,by decide,qq (xs:=[.int o.t,.int o.r]) (s2 _ _ ao) ao (sci fun x hx=>?_),_,rfl,iJ ?_⟩
      · simp only [ax,bz,or_false] at hx
        rcases hx with rfl | rfl
        · exact .inl ⟨_,rfl⟩
        · exact .inl ⟨_,rfl⟩
      have s12:=s1.trans s2
      refine ⟨_,rfl,_,rfl,rl,_,_,_,rfl,rfl,SqL.of (s12 _ _ hrl),gy hrvk,_,rfl,_,rfl,rc,_,rfl,SqT.of (s12 _ _ c1),(by show ¬ (HT.sIx 7 0 (some 1)=0/\HT.sIx 7 7 (some 5)=7); decide),fun p3 hp3=>?_⟩
      have s3:=aR hp3 (.tup [.int o.to,.str o.sg,.int o.a,.int o.b])
      refine ⟨_,rfl,_,rfl,ts,_,rfl,SqT.of (s3 _ _ (s12 _ _ hts)),(by show ¬ (HT.sIx 6 0 (some 2)=0/\HT.sIx 6 6 none=6); decide),fun p4 hp4=>?_⟩
      have s4:=aR hp4 (.tup [.int o.to,.str o.sg,.int o.a,.int o.b])
      refine ⟨1,by decide,qq (xs:=[.int o.to,.str o.sg,.int o.a,.int o.b]) (s4 _ _ ao) ao (sci fun x hx=>?_),kk _ ((s12.trans s3).trans s4)⟩
      simp only [ax,bz,or_false] at hx
      rcases hx with rfl | rfl | rfl | rfl
      · exact .inl ⟨_,rfl⟩
      · exact .inr ⟨_,rfl⟩
      · exact .inl ⟨_,rfl⟩
      · exact .inl ⟨_,rfl⟩
    · exact absurd cf z
  · refine kL (b:=false) (decide_eq_false (fun z=>cf (tJ z))) (hW ?_)
    rcases hkn.kn q hq with ⟨z,_⟩ | ⟨_,j0,q0,hj0,hq0,hin0⟩
    · exact absurd z cf
    refine cA ?_
    refine ⟨_,rfl,_,rfl,_,rfl,rl,_,rfl,SqL.of hrl,fun lr hlr=>?_⟩
    rw [Ec]
    have s1:=aR hlr (.lst (rvs.take k))
    refine ⟨lr,rfl,⟨_,SqL.of ao⟩,iY (K:=K) (a:=lr) (xs:=rvs.take k) (fun i σ G=>∃ (u5 u6:Option V),σ=[some (.ref rl),some (.int k),some (.ref sgl),some (.ref ky),none,u5,u6]/\bT (upd H lr (.lst (rvs.take k))) G/\∃ (j:Nat) (q':Rec),i<=j/\j < k/\rs[j]?=some q'/\q.h∈q'.out)
      ⟨_,_,rfl,bT.refl _,j0,q0,bK _,hj0,hq0,hin0⟩ ?_ ?_ ?_⟩
    · rintro i σ G _ ⟨_,_,rfl,sG,_⟩
      exact SqL.of (sG _ _ ao)
    · rintro i x σ G hi ⟨u5,u6,rfl,sG,j,q',hij,hjk,hq',hin⟩
      have ik:i < k:=by
        have:=(aB.mp hi).1
        rw [cW] at this
        omega
      rw [mw ik] at hi
      obtain ⟨qi,hqi,hri⟩:=jY hrv hi
      obtain ⟨rci,kyi,wli,odi,ws1i,ws2i,vsi,qai,rfl,d1,d2,d3,d4,d5,d6,d7,d8⟩:=id hri
      have sH:=s1.trans sG
      refine ⟨_,rfl,rci,_,_,_,rfl,rfl,SqT.of (sH _ _ d1),rfl,odi,rfl,⟨_,SqL.of (sH _ _ d7)⟩,iY (K:=K) (a:=odi) (xs:=vsi) (fun i2 σ G2=>∃ (u6:Option V),σ=[some (.ref rl),some (.int k),some (.ref sgl),some (.ref ky),none,some (.ref rci),u6]/\bT G G2/\((∃ (j:Nat) (q':Rec),i + 1<=j/\j < k/\rs[j]?=some q'/\q.h∈q'.out)\/∃ i3:Nat,i2<=i3/\qi.out[i3]?=some q.h))
        ⟨_,rfl,bT.refl _,?_⟩ ?_ ?_ ?_⟩
      · by_cases ej:j=i
        · subst ej
          rw [hqi] at hq'
          cases hq'
          obtain ⟨i3,h3⟩:=cV hin
          exact .inr ⟨i3,bK _,h3⟩
        · exact .inl ⟨j,q',by omega,hjk,hq',hin⟩
      · rintro i2 σ G2 _ ⟨_,rfl,sG2,_⟩
        exact SqL.of (sG2 _ _ (sH _ _ d7))
      · rintro i2 x σ G2 hi2 ⟨u6,rfl,sG2,hcase⟩
        obtain ⟨e,he,hev⟩:=jY d8 hi2
        obtain ⟨te,ke,rfl,hte,hke⟩:=id hev
        have sA:=sH.trans sG2
        refine ⟨_,rfl,_,rfl,_,rfl,rl,_,_,_,rfl,rfl,SqL.of (sA _ _ hrl),gy hrvk,_,rfl,rc,_,rfl,SqT.of (sA _ _ c1),(by show ¬ (HT.sIx 7 0 none=0/\HT.sIx 7 7 (some 5)=7); decide),fun p hp=>?_⟩
        have sp:=aR hp (.tup [.ref ky,.int q.h.to,.str q.h.sg,.int q.h.a,.int q.h.b])
        have sB:=sA.trans sp
        obtain ⟨b,hb,hb1,hb2⟩:=JB (hev.same sB) (h:=q.h) (t:=p) (k:=ky) ao (sB _ _ c2)
        refine ⟨2,te,p,b,by decide,rfl,rfl,hb,_,rfl,?_⟩
        cases b with
        | true =>
          have ee:=hb1 rfl
          obtain ⟨o1,o2,o3⟩:=hkn.ou qi (bQ hqi) e (bQ he)
          rw [ee] at o1 o2
          refine iJ ?_
          refine ⟨_,rfl,rci,_,_,_,rfl,rfl,SqT.of (sB _ _ d1),rfl,_,rfl,kyi,ky,qi.h.key,q.h.key,rfl,rfl,SqT.of (sB _ _ d2),SqT.of (sB _ _ c2),_,rfl,?_⟩
          refine kL (b:=true) o1 (iJ ?_)
          refine ⟨_,rfl,rci,_,_,_,rfl,rfl,SqT.of (sB _ _ d1),rfl,_,rfl,ky,_,_,_,rfl,rfl,SqT.of (sB _ _ c2),rfl,rfl,?_⟩
          have z:=kk _ sB
          rw [show decide (V.int qi.h.to=V.int q.h.fr)=true from decide_eq_true (by rw [o2])]
          exact z
        | false =>
          refine hW ⟨_,rfl,sG2.trans sp,?_⟩
          rcases hcase with z | ⟨i3,h3,h3'⟩
          · exact .inl z
          · refine .inr ⟨i3,?_,h3'⟩
            rcases iZ i2 i3 with y | y
            · omega
            · have ei:i3=i2:=by omega
              rw [ei,he] at h3'
              have:=hb2 (dR h3')
              cases this
      · rintro σ G2 ⟨u6,rfl,sG2,hcase⟩
        have lv:vsi.length=qi.out.length:=bJ d8
        rcases hcase with ⟨j,q',y1,y2,y3,y4⟩ | ⟨i3,h3,h3'⟩
        · exact ⟨_,_,rfl,sG.trans sG2,j,q',y1,y2,y3,y4⟩
        · have:=(aB.mp h3').1
          omega
    · rintro σ G ⟨u5,u6,rfl,sG,j,q',hij,hjk,_⟩
      rw [cW] at hij
      omega
abbrev nL:List Str:=["_law_script","_law_purse_here","_law_most","_law_few","_law_machines","_law_signs_here","_law_model_here","_law_book","_law_part","_law_at"]
theorem scL:bY nL ["_law_script"] (aF xh):=⟨rfl,rfl,rfl,by decide +kernel,rfl,by decide +kernel,by decide +kernel⟩
theorem JC (D:Df K mg "law" xh ["_law_script"] f fd) (DP:Df K mg "_law_purse" jo ["_law_script"] fP fdP) (DM:Df K mg "_law_mixed" iC ["_law_cell","_law_k"] fM fdM) (DD:Df K mg "_law_draw" d9 ["_law_purse_here","_law_out_of"] fD fdD)
    (DMo:Df K mg "_law_model" iE pMo fMo fdMo) (GMo:bX P w K mg base CX0 19 fMo fdMo pMo spMo) (DSg:Df K mg "_law_signs" iF pSg fSg fdSg) (DKn:Df K mg "_law_known" jq pKn fKn fdKn)
    (MM:Mk K CM fMI) (bMI:Binds K fdMI ["self","machines"] []) (GMI:bX P w K mg base CX0 31 fMI fdMI ["self","machines"] (spMI CM 29)) (DPl:Df K mg "plain" oQ ["model","signs","most"] fPl fdPl) (GPl:bX P w K mg base CX0 40 fPl fdPl ["model","signs","most"] (Hv CM CS CB)) (B:Bl mg) (TM:MdT K mg CM CS) (TB:BkT K mg CB) :
    bX P w K mg base CX0 41 f fd ["_law_script"] (Ae K):=by
  have GP:bX P w K mg base CX0 2 fP fdP ["_law_script"] (zA K):=Cv DP DM B
  have GD:bX P w K mg base CX0 1 fD fdD ["_law_purse_here","_law_out_of"] jX:=j2 DD
  have GSg:bX P w K mg base CX0 2 fSg fdSg pSg spSg:=ok_sg DSg DD B
  have GKn:bX P w K mg base CX0 1 fKn fdKn pKn spKn:=ok_kn DKn
  refine D.F.ok scL (fun vs H Q E h=>?_) (fun cdv A outer s H vs Q E hr h=>?_)
  · obtain ⟨a,ns,rfl,_⟩:=h
    rfl
  obtain ⟨a,ns,rfl,hS,hlen,hbits,k⟩:=h
  have hu:=m6 hr
  have h50:=Ig hr
  have hl1:=gE (nh _ _) h50
  have r1:eA 1 _:=hr.mono (by decide)
  have r2:eA 2 _:=hr.mono (by decide)
  have r19:eA 19 _:=hr.mono (by decide)
  have r32:eA 32 _:=hr.mono (by decide)
  refine ⟨_,ak (bF (i:=1) scL.nd rfl (Or.inl rfl) (aS GP r2 (by rfl) DP.m DP.F.kp DP.b .nil bS (bH (pv 0) aw)))
    (ak (bF (i:=2) scL.nd rfl (Or.inl rfl) (aS GD r1 (by rfl) DD.m DD.F.kp DD.b .nil bS (bH (pv 1) (dO aq aw))))
    (ak (bF (i:=3) scL.nd rfl (Or.inl rfl) (aS GD r1 (by rfl) DD.m DD.F.kp DD.b .nil bS (bH (pv 1) (nj (cL gW (pv 2) aq) aw))))
    (ak (bF (i:=4) scL.nd rfl (Or.inl rfl) (aS GMo r19 (by rfl) DMo.m DMo.F.kp DMo.b .nil bS (bH (pv 1) (dO aq aw))))
    (ak (bF (i:=5) scL.nd rfl (Or.inl rfl) (aS GSg r2 (by rfl) DSg.m DSg.F.kp DSg.b .nil bS (bH (pv 1) (bH (pv 4) (dO aq aw)))))
    (ak (bF (i:=6) scL.nd rfl (Or.inl rfl) (oK MM GMI r32 (by rfl) TM.mM bMI .nil bS (bH (pv 4) aw)))
    (ak (bF (i:=7) scL.nd rfl (Or.inl rfl) (aS GPl hr (by rfl) DPl.m DPl.F.kp DPl.b .nil bS (bH (pv 6) (bH (pv 5) (bH (pv 2) aw)))))
    (ak (bF (i:=8) scL.nd rfl (Or.inl rfl) (aS GPl hr (by rfl) DPl.m DPl.F.kp DPl.b .nil bS (bH (pv 6) (bH (pv 5) (bH (pv 3) aw)))))
    (ak (cZ (bL (Ce h50) (cF (pv 8) (by rfl)) (hV oO (cF (pv 7) (by rfl)) j1 (iu (pv 3))) (cg _)) (aG (bR lC)) cq)
    (ak (cZ ((lL (bL mZ (cX (eF K (by rfl)) (by rfl) B.len cm (au (cF (pv 7) (by rfl)) aw)) (pv 3) (cg _)) (kx (bL (Ce h50) (cF (pv 8) (by rfl)) (eE (dO cG aw)) (cg _)))).pt) (aG (bR lC)) cq)
    (ak (cZ ((lL (bL eO (cX (eF K (by rfl)) (by rfl) B.len cm (au (cF (pv 7) (by rfl)) aw)) (pv 3) (cg _)) (lL (bL rp (pv 3) (pv 2) (cg _)) (kx (bL (E5 h50) (cF (pv 8) (by rfl)) (fy (yR (eE (dO cG aw)) (au (cF (pv 7) (by rfl)) aw))) (by rfl))))).pt) (aG (bR lC)) cq)
    (ak (iz cI rfl (jK (by rfl) B.range (jy (cX (eF K (by rfl)) (by rfl) B.len cm (au (cF (pv 7) (by rfl)) aw)) aw)) (eD (i:=9) scL.nd rfl (Or.inl rfl)) (ak (cZ ((lL (bL mZ (pv 9) aq (cg _)) (kx (vm (bL (BN hl1) (bN cz (bN cU (cF (pv 7) (by rfl)) (cL jc (pv 9) aq) (fun _ _=>rfl)) aq (fun _ _=>rfl)) (bN cz (bN cU (cF (pv 7) (by rfl)) (pv 9) (fun _ _=>rfl)) aq (fun _ _=>rfl)) (cg _))))).pt) (aG (bR lC)) cq)
    (aG (cZ (vm (qG (aS GKn r1 (by rfl) DKn.m DKn.F.kp DKn.b .nil bS (au (cF (pv 7) (by rfl)) (bH (pv 9) (bH (pv 5) aw)))))) (aG (bR lC)) cq))))
    (aG (bR lC))))))))))))),?_⟩
  refine ⟨_,rfl,a,ns,rfl,hS,hlen,hbits,fun p H1 _ pu1 s1=>?_⟩
  refine cj ?_
  dsimp only
  refine cA (dG ?_)
  refine ⟨_,rfl,p,31,rfl,pu1,by decide,by decide,fun mo G1 m0 m1 pu2 b1=>?_⟩
  refine cj ?_
  dsimp only
  refine cA (dG ?_)
  refine ⟨_,rfl,_,rfl,_,_,rfl,rfl,p,mo + 1,rfl,pu2,by omega,by omega,fun fw G2 f0 f1 pu3 b2=>?_⟩
  refine cj ?_
  dsimp only
  obtain ⟨fn,rfl⟩:∃ fn:Nat,fw=(fn:Int):=⟨fw.toNat,by omega⟩
  refine cA (dG ?_)
  refine ⟨_,rfl,p,4,rfl,pu3,by decide,by decide,fun lm xs Ms G3 flm hlm hMs M0 M4 nd pu4 b3=>?_⟩
  refine cj ?_
  dsimp only
  have lxs:xs.length=Ms.length:=bJ hMs
  have nlp:lm≠p:=by
    obtain ⟨x,y,e⟩:=pu3
    exact (aH e flm).symm
  refine cA (dG ?_)
  refine ⟨_,rfl,_,rfl,p,lm,8,xs,rfl,pu4,hlm,nlp,fun x hx=>?_,by omega,by omega,by decide,by decide,fun sgl svs es G4 fsg hsg hsv hes heo pu5 b4=>?_⟩
  · obtain ⟨M,_,t,rfl,z⟩:=kP hMs x hx
    exact z.hrd
  refine cj ?_
  dsimp only
  have hlm4:=b4 _ _ hlm nlp
  have hMs4:aX (MIn Ms.length G2 G4) xs Ms:=Paired.mono (fun v M z=>by
    obtain ⟨t,e,y⟩:=z
    exact ⟨t,e,y.but pu3 pu4 b4⟩) hMs
  rw [lxs] at heo
  have hev:∀ e∈es,DI Ms.length e:=fun e he=>by
    obtain ⟨a1,a2,a3,a4,a5⟩:=heo e he
    have w1:(10:Int) ^ 15=1000000000000000:=by decide
    refine ⟨a3.1,a3.2,?_,?_,?_⟩ <;> unfold Wo <;> omega
  clear b4 b3 b2 b1 pu5 pu1 pu2 hMs hlm
  -- the bD
  refine cA (dG (yN ?_))
  refine ⟨_,rfl,fun m dxm hm hdx ndx=>?_⟩
  have sA:bT G4 (upd (upd G4 dxm (.own m)) m (.ins CM dxm [])):=fun b o e=>by
    rw [aV (aH e hm),aV (aH e hdx)]
    exact e
  have hMs5:aX (MIn Ms.length G2 (upd (upd G4 dxm (.own m)) m (.ins CM dxm []))) xs Ms:=Paired.mono (fun v M z=>by
    obtain ⟨t,e,y⟩:=z
    exact ⟨t,e,y.same sA⟩) hMs4
  refine ⟨m,dxm,.ref lm,rfl,ao,FT (sA _ _ hlm4) hMs5 (by omega),fun v' G5 s5 al=>⟨rfl,?_⟩⟩
  have hMo:=Gq (sA _ _ hlm4) hMs5 al (s5 _ _ ao)
  have s46:bT G4 (upd G5 m (.ins CM dxm (dD "machines" v' []))):=tN (sA.trans s5) hm _
  refine cj ?_
  dsimp only
  have hsg6:=s46 _ _ hsg
  have hsv6:=Paired.mono (fun _ _ z=>mh.same s46 z) hsv
  revert hMo hsg6 hsv6
  clear s46 al s5 hMs5 sA hm hdx ndx hMs4 hlm4 hsg hsv fsg
  generalize upd G5 m (.ins CM dxm (dD "machines" v' []))=G6
  intro hMo hsg6 hsv6
  have mok:=hMo.ok
  -- the longer run, the shorter one
  refine cA (dG ?_)
  refine ⟨_,rfl,_,rfl,_,rfl,Ms,m,sgl,svs,es,mo,rfl,hMo,by omega,hsg6,hsv6,by omega,hev,by omega,fun G7 b2 i2 e2 s7 st2 bk2=>?_⟩
  refine cj ?_
  dsimp only
  refine cA (dG ?_)
  refine ⟨_,rfl,_,rfl,_,rfl,Ms,m,sgl,svs,es,fn,rfl,hMo.same s7,by omega,s7 _ _ hsg6,Paired.mono (fun _ _ z=>mh.same s7 z) hsv6,by omega,hev,by omega,fun G8 b1 i1 e1 s8 st1 bk1=>?_⟩
  refine cj ?_
  dsimp only
  obtain ⟨dx2,rl2,sl2,en2,rvs2,ss2,hb2,hr2,hrs2,hen2,_,_⟩:=(bk2.same s8).ex
  obtain ⟨dx1,rl1,sl1,en1,rvs1,ss1,hb1,hr1,hrs1,hen1,_,_⟩:=bk1.ex
  obtain ⟨t1,t2,t3⟩:=Eb (by omega) st1 st2 (ve mok st1 (by omega)) (by omega)
  have og:=xB mok st2.1
  have hsg8:=s8 _ _ (s7 _ _ hsg6)
  have hsv8:=Paired.mono (fun _ _ z=>mh.same (s7.trans s8) z) hsv6
  have l2:rvs2.length=(itR Ms (rj Ms es) i2).2.length:=bJ hrs2
  have l30:=ve mok st2 (by omega)
  rw [jM] at t1
  rw [<- l2] at t2 l30
  generalize (itR Ms (rj Ms es) i2).2=rs2 at *
  generalize (itR Ms (rj Ms es) i1).2=rs1 at *
  subst t1
  -- the shorter run's records
  refine cA (xC ?_ fun G9 s9=>?_)
  · intro Q q
    refine ⟨_,rfl,b1,CB,dx1,_,_,rfl,hb1,TB.cl,TB.nR,xt _ _ _,_,rfl,b2,CB,dx2,_,_,rfl,hb2,TB.cl,TB.nR,xt _ _ _,_,rfl,_,rfl,rl2,_,rfl,SqL.of hr2,fun p2 hp2=>?_⟩
    rw [Ec]
    have sp:=aR hp2 (.lst (rvs2.take fn))
    exact ⟨5,by decide,Ef (sp _ _ hr1) ao (Paired.mono (fun _ _ z=>z.same sp) hrs1) (Paired.mono (fun _ _ z=>z.same sp) (rL fn hrs2)),_,rfl,q _ sp⟩
  refine kN ?_
  dsimp only
  have hb1:=s9 _ _ hb1
  have hb2:=s9 _ _ hb2
  have hr2:=s9 _ _ hr2
  have hen1:=hen1.same s9
  have hen2:=hen2.same s9
  have hrs2:=Paired.mono (fun _ _ z=>RcIn.same s9 z) hrs2
  have hsg9:=s9 _ _ hsg8
  have hsv9:=Paired.mono (fun _ _ z=>mh.same s9 z) hsv8
  -- where there are more, it is cut
  refine cA (xC ?_ fun G10 s10=>?_)
  · intro Q q
    refine ⟨_,rfl,b2,CB,dx2,_,_,rfl,hb2,TB.cl,TB.nR,xt _ _ _,rl2,_,rfl,.inl (SqL.of hr2),_,rfl,_,_,rfl,rfl,_,rfl,iK (fun c=>?_) (fun c=>q _ (bT.refl _))⟩
    have c:=of_decide_eq_true c
    have ec:=t2 c
    rw [ec] at hen1
    obtain ⟨te,rfl,hte⟩:=hen1
    refine ⟨_,rfl,b1,CB,dx1,_,_,rfl,hb1,TB.cl,TB.nE,IY _ _ _,yO,fun p2 hp2=>?_⟩
    have sp:=aR hp2 (.tup [.str "cut"])
    exact ⟨1,by decide,qq (sp _ _ hte) ao (fun x hx=>by rw [aM.mp hx]; trivial),_,rfl,q _ sp⟩
  refine kN ?_
  dsimp only
  have hb1:=s10 _ _ hb1
  have hb2:=s10 _ _ hb2
  have hr2:=s10 _ _ hr2
  have hen1:=hen1.same s10
  have hen2:=hen2.same s10
  have hrs2:=Paired.mono (fun _ _ z=>RcIn.same s10 z) hrs2
  have hsg10:=s10 _ _ hsg9
  have hsv10:=Paired.mono (fun _ _ z=>mh.same s10 z) hsv9
  -- or it ends as the longer one
  refine cA (xC ?_ fun G11 s11=>?_)
  · intro Q q
    refine ⟨_,rfl,b2,CB,dx2,_,_,rfl,hb2,TB.cl,TB.nR,xt _ _ _,rl2,_,rfl,.inl (SqL.of hr2),_,rfl,rfl,_,rfl,iK (fun c=>?_) (fun c=>q _ (bT.refl _))⟩
    refine ⟨_,rfl,_,rfl,_,_,rfl,rfl,_,rfl,iK (fun c=>?_) (fun c=>q _ (bT.refl _))⟩
    obtain ⟨te1,z1,r1',rfl,ht1,x1,y1⟩:=Ad hen1
    obtain ⟨te2,z2,r2',rfl,ht2,x2,y2⟩:=Ad hen2
    refine ⟨_,rfl,b1,CB,dx1,_,_,rfl,hb1,TB.cl,TB.nE,IY _ _ _,yO,fun p2 hp2=>?_⟩
    have sp:=aR hp2 (.tup [.str "cut"])
    refine ⟨_,rfl,b2,CB,dx2,_,_,rfl,sp _ _ hb2,TB.cl,TB.nE,IY _ _ _,lt2,fun l2' hl2=>?_⟩
    have sl:=aR hl2 (.lst [.ref p2,.ref te2])
    have np:te2≠p2:=aH ht2 hp2
    have ss:=sp.trans sl
    have hcut:=sl _ _ (ao:upd G10 p2 (.tup [.str "cut"]) p2=_)
    obtain ⟨k1,k2,u1,u2,u3⟩:∃ k1 k2:Bool,TQ (upd (upd G10 p2 (.tup [.str "cut"])) l2' (.lst [.ref p2,.ref te2])) 2 p2 te1 k1/\TQ (upd (upd G10 p2 (.tup [.str "cut"])) l2' (.lst [.ref p2,.ref te2])) 2 te2 te1 k2/\(k1 || k2)=true:=by
      rcases t3 with ec | ec
      · obtain ⟨e1',e2'⟩:=x1 ec
        rw [e1',e2'] at ht1
        obtain ⟨k1,v1,v2,v3⟩:=y7 (ss _ _ ht1) hcut
        obtain ⟨k2,v4,_,_⟩:=y7 (ss _ _ ht2) (ss _ _ ht1)
        exact ⟨k1,k2,v2,v4,by rw [v3 ⟨rfl,rfl⟩]; rfl⟩
      · obtain ⟨k1,_,v2,_⟩:=y7 (ss _ _ ht1) hcut
        rw [ec] at hen1
        obtain ⟨a',b',e1',e2',v3⟩:=Gp (hen2.same ss) (hen1.same ss)
        cases e1'
        cases e2'
        exact ⟨k1,true,v2,v3,Bool.or_true _⟩
    refine ⟨2,l2',te1,[p2,te2],fun a=>if a=p2 then k1 else k2,by decide,rfl,rfl,ao,fun a ha=>?_,_,rfl,?_⟩
    · simp only [ax,bz,or_false] at ha
      rcases ha with rfl | rfl
      · dsimp only
        rw [if_pos rfl]
        exact u1
      · dsimp only
        rw [if_neg np]
        exact u2
    · have ea:([p2,te2].any fun a=>if a=p2 then k1 else k2)=true:=by
        show ((if p2=p2 then k1 else k2) || ((if te2=p2 then k1 else k2) || false))=true
        rw [if_pos rfl,if_neg np,HV]
        exact u3
      rw [ea]
      exact q _ ss
  refine kN ?_
  dsimp only
  have hb2:=s11 _ _ hb2
  have hr2:=s11 _ _ hr2
  have hrs2:=Paired.mono (fun _ _ z=>RcIn.same s11 z) hrs2
  have hsg11:=s11 _ _ hsg10
  have hsv11:=Paired.mono (fun _ _ z=>mh.same s11 z) hsv10
  -- each record
  refine cA ?_
  refine ⟨_,rfl,b2,CB,dx2,_,_,rfl,hb2,TB.cl,TB.nR,xt _ _ _,rl2,_,rfl,.inl (SqL.of hr2),_,rfl,by omega,by omega,?_⟩
  rw [jM]
  refine kA (n:=rvs2.length) (fun i σ G=>∃ u:Option V,σ=[some (.ref a),some (.ref p),some (.int mo),some (.int fn),some (.ref lm),some (.ref sgl),some (.ref m),some (.ref b2),some (.ref b1),u]/\bT G11 G) ⟨_,rfl,bT.refl _⟩ ?_ ?_
  · rintro i σ G hi ⟨u,rfl,sG⟩
    have li:i < rs2.length:=by omega
    obtain ⟨qi,hqi⟩:∃ q,rs2[i]?=some q:=⟨_,aA li⟩
    obtain ⟨vi,hvi,hri⟩:=ig hrs2 hqi
    obtain ⟨rci,kyi,_,_,_,_,_,_,rfl,d1,d2,_⟩:=id hri
    refine cj ?_
    dsimp only
    have e0:(0:Int) + (i:Int)=(i:Int):=Int.zero_add _
    rw [e0]
    refine cA (xC ?_ fun G12 s12=>?_)
    · intro Q q
      refine ⟨_,rfl,_,_,rfl,rfl,_,rfl,iK (fun c=>?_) (fun c=>q _ (bT.refl _))⟩
      have c:=of_decide_eq_true c
      obtain ⟨j,rfl⟩:∃ j,i=j + 1:=⟨i - 1,by omega⟩
      obtain ⟨qj,hqj⟩:∃ q,rs2[j]?=some q:=⟨_,aA (by omega)⟩
      obtain ⟨vj,hvj,hrj⟩:=ig hrs2 hqj
      obtain ⟨rcj,kyj,_,_,_,_,_,_,rfl,g1,g2,_⟩:=id hrj
      have ej:(((j + 1:Nat):Int) - 1)=(j:Int):=by omega
      have up:HT.lexLt qj.h.key qi.h.key=true:=by
        have z:=cQ.mp og.up j (j + 1) (by omega) li (by omega)
        have y1:=(aB.mp hqj).2
        have y2:=(aB.mp hqi).2
        rw [y1,y2] at z
        exact z
      refine ⟨_,rfl,b2,CB,dx2,_,_,rfl,sG _ _ hb2,TB.cl,TB.nR,xt _ _ _,_,rfl,_,_,rfl,rfl,rl2,_,_,_,rfl,rfl,SqL.of (sG _ _ hr2),by rw [ej]; exact gy hvj,rcj,_,_,_,rfl,rfl,SqT.of (sG _ _ g1),rfl,?_⟩
      refine ⟨_,rfl,b2,CB,dx2,_,_,rfl,sG _ _ hb2,TB.cl,TB.nR,xt _ _ _,_,rfl,rl2,_,_,_,rfl,rfl,SqL.of (sG _ _ hr2),gy hvi,rci,_,_,_,rfl,rfl,SqT.of (sG _ _ d1),rfl,?_⟩
      refine ⟨kyj,kyi,qj.h.key,qi.h.key,rfl,rfl,SqT.of (sG _ _ g2),SqT.of (sG _ _ d2),_,rfl,?_⟩
      rw [up]
      exact q _ (bT.refl _)
    refine kN ?_
    dsimp only
    have sH:=sG.trans s12
    refine xC ?_ fun G13 s13=>?_
    · intro Q q
      refine ⟨_,rfl,b2,CB,dx2,_,_,rfl,sH _ _ hb2,TB.cl,TB.nR,xt _ _ _,_,rfl,_,rfl,rl2,sgl,i,rvs2,svs,rs2,es,rfl,sH _ _ hr2,Paired.mono (fun _ _ z=>RcIn.same sH z) hrs2,li,sH _ _ hsg11,Paired.mono (fun _ _ z=>mh.same sH z) hsv11,⟨og.kn i,og.ou⟩,fun H' s'=>⟨true,rfl,q _ s'⟩⟩
    refine kN ?_
    dsimp only
    exact ⟨_,rfl,sH.trans s13⟩
  · rintro σ G ⟨u,rfl,sG⟩
    exact k G
end
end My
namespace My
open PySem L2
def wy (CN CG CU CY CP CL:ae):Flt->ae
  | .nought=>CN
  | .great=>CG
  | .full=>CU
  | .dry=>CY
  | .span=>CP
  | .late=>CL
end My
namespace My
theorem Af {P:Flt->Prop} (a:P .nought) (b:P .great) (c:P .full) (d:P .dry) (e:P .span) (f:P .late):∀ x,P x
  | .nought=>a
  | .great=>b
  | .full=>c
  | .dry=>d
  | .span=>e
  | .late=>f
end My
namespace My
open PySem L2
theorem fH {K:ag} {h:cE} {mg:Str->Option aa} {x:Str} {st:dP} {f:ae} {oc:aa} {od an:Option ae} {sl:Array (Option aa)} {kV dc pm cd ct:aa} {ps:List Str} (X:K.In h) (G:h.Ns aN mg) (a:aP K aN x=some (some (.ref f)))
    (l:K.lookup f=some ⟨oc,od,.func (aO x x (bV st) (bP st) (aF st) .none kV dc pm an cd ct),sl⟩) (c:aK K cd x=true) (k:aE K (.ref f)=true)
    (hb:∀ (kV doc pm:aa) (an:Option ae) (cdv ct:aa) (us:List aa),us.length=ps.length->bindArgs (aO x x (bV st) (bP st) (aF st) .none kV doc pm an cdv ct) ⟨us,[]⟩=pure (ps.zip us)) :
    Df K mg x st ps f (aO x x (bV st) (bP st) (aF st) .none kV dc pm an cd ct):=⟨gY l c k,(gY l c k).binds hb,eg X G a⟩
theorem iy {α:Type} {us:List α} (h:us.length=1):∃ a,us=[a]:=by
  match us,h with | [a],_=>exact ⟨a,rfl⟩
theorem gN {α:Type} {us:List α} (h:us.length=2):∃ a b,us=[a,b]:=by
  match us,h with | [a,b],_=>exact ⟨a,b,rfl⟩
theorem jB {α:Type} {us:List α} (h:us.length=3):∃ a b c,us=[a,b,c]:=by
  match us,h with | [a,b,c],_=>exact ⟨a,b,c,rfl⟩
theorem lK {α:Type} {us:List α} (h:us.length=4):∃ a b c d,us=[a,b,c,d]:=by
  match us,h with | [a,b,c,d],_=>exact ⟨a,b,c,d,rfl⟩
theorem Ag {α:Type} {us:List α} (h:us.length=5):∃ a b c d e,us=[a,b,c,d,e]:=by
  match us,h with | [a,b,c,d,e],_=>exact ⟨a,b,c,d,e,rfl⟩
theorem Ah {α:Type} {us:List α} (h:us.length=7):∃ a b c d e f g,us=[a,b,c,d,e,f,g]:=by
  match us,h with | [a,b,c,d,e,f,g],_=>exact ⟨a,b,c,d,e,f,g,rfl⟩
theorem all_mk {l:rR} {w:bO} {K:ag} {h:cE} {mg:Str->Option aa} {fa f1 f2 f3 f4 f5 f6 f7 f8 f9 f10 f11 f12 f13 f14 f15 f16 f17 f18 f19 f20 f21 f22 f23 f24 f25 f26 f27 f28 f29 f30 f31 f32 f33 f34 f35 f36 CM f37 CS f38 f39 CD f40 f41 f42 f43 f44 CB f45 CC f46 f47 f48 CN CG CU CY CP CL CF:ae} (X:K.In h) (G:h.Ns aN mg) (hfa:mg "law"=some (.ref fa))
    {od100 an100:Option ae} {sl100:Array (Option aa)} {oc100 kV100 dc100 pm100 cd100 ct100:aa} {f100:ae}
    {od101 an101:Option ae} {sl101:Array (Option aa)} {oc101 kV101 dc101 pm101 cd101 ct101:aa} {f101:ae}
    {od102 an102:Option ae} {sl102:Array (Option aa)} {oc102 kV102 dc102 pm102 cd102 ct102:aa} {f102:ae}
    {od103 an103:Option ae} {sl103:Array (Option aa)} {oc103 kV103 dc103 pm103 cd103 ct103:aa} {f103:ae}
    {od104 an104:Option ae} {sl104:Array (Option aa)} {oc104 kV104 dc104 pm104 cd104 ct104:aa} {f104:ae}
    {od105 an105:Option ae} {sl105:Array (Option aa)} {oc105 kV105 dc105 pm105 cd105 ct105:aa} {f105:ae}
    {od1 an1:Option ae} {sl1:Array (Option aa)} {oc1 kV1 dc1 pm1 cd1 ct1:aa}
    {od2 an2:Option ae} {sl2:Array (Option aa)} {oc2 kV2 dc2 pm2 cd2 ct2:aa}
    {od3 an3:Option ae} {sl3:Array (Option aa)} {oc3 kV3 dc3 pm3 cd3 ct3:aa}
    {od4 an4:Option ae} {sl4:Array (Option aa)} {oc4 kV4 dc4 pm4 cd4 ct4:aa}
    {od5 an5:Option ae} {sl5:Array (Option aa)} {oc5 kV5 dc5 pm5 cd5 ct5:aa}
    {od6 an6:Option ae} {sl6:Array (Option aa)} {oc6 kV6 dc6 pm6 cd6 ct6:aa}
    {od7 an7:Option ae} {sl7:Array (Option aa)} {oc7 kV7 dc7 pm7 cd7 ct7:aa}
    {od8 an8:Option ae} {sl8:Array (Option aa)} {oc8 kV8 dc8 pm8 cd8 ct8:aa}
    {od9 an9:Option ae} {sl9:Array (Option aa)} {oc9 kV9 dc9 pm9 cd9 ct9:aa}
    {od10 an10:Option ae} {sl10:Array (Option aa)} {oc10 kV10 dc10 pm10 cd10 ct10:aa}
    {od11 an11:Option ae} {sl11:Array (Option aa)} {oc11 kV11 dc11 pm11 cd11 ct11:aa}
    {od12 an12:Option ae} {sl12:Array (Option aa)} {oc12 kV12 dc12 pm12 cd12 ct12:aa}
    {od13 an13:Option ae} {sl13:Array (Option aa)} {oc13 kV13 dc13 pm13 cd13 ct13:aa}
    {od14 an14:Option ae} {sl14:Array (Option aa)} {oc14 kV14 dc14 pm14 cd14 ct14:aa}
    {od15 an15:Option ae} {sl15:Array (Option aa)} {oc15 kV15 dc15 pm15 cd15 ct15:aa}
    {od16 an16:Option ae} {sl16:Array (Option aa)} {oc16 kV16 dc16 pm16 cd16 ct16:aa}
    {od17 an17:Option ae} {sl17:Array (Option aa)} {oc17 kV17 dc17 pm17 cd17 ct17:aa}
    {od18 an18:Option ae} {sl18:Array (Option aa)} {oc18 kV18 dc18 pm18 cd18 ct18:aa}
    {od19 an19:Option ae} {sl19:Array (Option aa)} {oc19 kV19 dc19 pm19 cd19 ct19:aa}
    {od20 an20:Option ae} {sl20:Array (Option aa)} {oc20 kV20 dc20 pm20 cd20 ct20:aa}
    {od21 an21:Option ae} {sl21:Array (Option aa)} {oc21 kV21 dc21 pm21 cd21 ct21:aa}
    {od22 an22:Option ae} {sl22:Array (Option aa)} {oc22 kV22 dc22 pm22 cd22 ct22:aa}
    {od23 an23:Option ae} {sl23:Array (Option aa)} {oc23 kV23 dc23 pm23 cd23 ct23:aa}
    {od24 an24:Option ae} {sl24:Array (Option aa)} {oc24 kV24 dc24 pm24 cd24 ct24:aa}
    {od25 an25:Option ae} {sl25:Array (Option aa)} {oc25 kV25 dc25 pm25 cd25 ct25:aa}
    {od26 an26:Option ae} {sl26:Array (Option aa)} {oc26 kV26 dc26 pm26 cd26 ct26:aa}
    {od27 an27:Option ae} {sl27:Array (Option aa)} {oc27 kV27 dc27 pm27 cd27 ct27:aa}
    {od28 an28:Option ae} {sl28:Array (Option aa)} {oc28 kV28 dc28 pm28 cd28 ct28:aa}
    {od29 an29:Option ae} {sl29:Array (Option aa)} {oc29 kV29 dc29 pm29 cd29 ct29:aa}
    {od30 an30:Option ae} {sl30:Array (Option aa)} {oc30 kV30 dc30 pm30 cd30 ct30:aa}
    {od31 an31:Option ae} {sl31:Array (Option aa)} {oc31 kV31 dc31 pm31 cd31 ct31:aa}
    {od32 an32:Option ae} {sl32:Array (Option aa)} {oc32 kV32 dc32 pm32 cd32 ct32:aa}
    {od33 an33:Option ae} {sl33:Array (Option aa)} {oc33 kV33 dc33 pm33 cd33 ct33:aa}
    {od34 an34:Option ae} {sl34:Array (Option aa)} {oc34 kV34 dc34 pm34 cd34 ct34:aa}
    {od35 an35:Option ae} {sl35:Array (Option aa)} {oc35 kV35 dc35 pm35 cd35 ct35:aa}
    {od36 an36:Option ae} {sl36:Array (Option aa)} {oc36 kV36 dc36 pm36 cd36 ct36:aa}
    {od37 an37:Option ae} {sl37:Array (Option aa)} {oc37 kV37 dc37 pm37 cd37 ct37:aa}
    {od38 an38:Option ae} {sl38:Array (Option aa)} {oc38 kV38 dc38 pm38 cd38 ct38:aa}
    {od39 an39:Option ae} {sl39:Array (Option aa)} {oc39 kV39 dc39 pm39 cd39 ct39:aa}
    {od40 an40:Option ae} {sl40:Array (Option aa)} {oc40 kV40 dc40 pm40 cd40 ct40:aa}
    {od41 an41:Option ae} {sl41:Array (Option aa)} {oc41 kV41 dc41 pm41 cd41 ct41:aa}
    {od42 an42:Option ae} {sl42:Array (Option aa)} {oc42 kV42 dc42 pm42 cd42 ct42:aa}
    {od43 an43:Option ae} {sl43:Array (Option aa)} {oc43 kV43 dc43 pm43 cd43 ct43:aa}
    {od44 an44:Option ae} {sl44:Array (Option aa)} {oc44 kV44 dc44 pm44 cd44 ct44:aa}
    {od45 an45:Option ae} {sl45:Array (Option aa)} {oc45 kV45 dc45 pm45 cd45 ct45:aa}
    {od46 an46:Option ae} {sl46:Array (Option aa)} {oc46 kV46 dc46 pm46 cd46 ct46:aa}
    {od47 an47:Option ae} {sl47:Array (Option aa)} {oc47 kV47 dc47 pm47 cd47 ct47:aa}
    {od48 an48:Option ae} {sl48:Array (Option aa)} {oc48 kV48 dc48 pm48 cd48 ct48:aa}
    (a1:aP K aN "worth_of"=some (some (.ref f1))) (l1:K.lookup f1=some ⟨oc1,od1,.func (aO "worth_of" "worth_of" (bV je) (bP je) (aF je) .none kV1 dc1 pm1 an1 cd1 ct1),sl1⟩) (c1:aK K cd1 "worth_of"=true) (k1:aE K (.ref f1)=true)
    (a2:aP K aN "number_of_leaf"=some (some (.ref f2))) (l2:K.lookup f2=some ⟨oc2,od2,.func (aO "number_of_leaf" "number_of_leaf" (bV eR) (bP eR) (aF eR) .none kV2 dc2 pm2 an2 cd2 ct2),sl2⟩) (c2:aK K cd2 "number_of_leaf"=true) (k2:aE K (.ref f2)=true)
    (a3:aP K aN "number_of_two"=some (some (.ref f3))) (l3:K.lookup f3=some ⟨oc3,od3,.func (aO "number_of_two" "number_of_two" (bV fk) (bP fk) (aF fk) .none kV3 dc3 pm3 an3 cd3 ct3),sl3⟩) (c3:aK K cd3 "number_of_two"=true) (k3:aE K (.ref f3)=true)
    (a4:aP K aN "number_of_division"=some (some (.ref f4))) (l4:K.lookup f4=some ⟨oc4,od4,.func (aO "number_of_division" "number_of_division" (bV dB) (bP dB) (aF dB) .none kV4 dc4 pm4 an4 cd4 ct4),sl4⟩) (c4:aK K cd4 "number_of_division"=true) (k4:aE K (.ref f4)=true)
    (a5:aP K aN "done"=some (some (.ref f5))) (l5:K.lookup f5=some ⟨oc5,od5,.func (aO "done" "done" (bV qW) (bP qW) (aF qW) .none kV5 dc5 pm5 an5 cd5 ct5),sl5⟩) (c5:aK K cd5 "done"=true) (k5:aE K (.ref f5)=true)
    (a6:aP K aN "doing_of"=some (some (.ref f6))) (l6:K.lookup f6=some ⟨oc6,od6,.func (aO "doing_of" "doing_of" (bV jQ) (bP jQ) (aF jQ) .none kV6 dc6 pm6 an6 cd6 ct6),sl6⟩) (c6:aK K cd6 "doing_of"=true) (k6:aE K (.ref f6)=true)
    (a7:aP K aN "deeds_by_sign"=some (some (.ref f7))) (l7:K.lookup f7=some ⟨oc7,od7,.func (aO "deeds_by_sign" "deeds_by_sign" (bV gj) (bP gj) (aF gj) .none kV7 dc7 pm7 an7 cd7 ct7),sl7⟩) (c7:aK K cd7 "deeds_by_sign"=true) (k7:aE K (.ref f7)=true)
    (a8:aP K aN "writes_of"=some (some (.ref f8))) (l8:K.lookup f8=some ⟨oc8,od8,.func (aO "writes_of" "writes_of" (bV jm) (bP jm) (aF jm) .none kV8 dc8 pm8 an8 cd8 ct8),sl8⟩) (c8:aK K cd8 "writes_of"=true) (k8:aE K (.ref f8)=true)
    (a9:aP K aN "do_deeds"=some (some (.ref f9))) (l9:K.lookup f9=some ⟨oc9,od9,.func (aO "do_deeds" "do_deeds" (bV gO) (bP gO) (aF gO) .none kV9 dc9 pm9 an9 cd9 ct9),sl9⟩) (c9:aK K cd9 "do_deeds"=true) (k9:aE K (.ref f9)=true)
    (a10:aP K aN "do_deed"=some (some (.ref f10))) (l10:K.lookup f10=some ⟨oc10,od10,.func (aO "do_deed" "do_deed" (bV jR) (bP jR) (aF jR) .none kV10 dc10 pm10 an10 cd10 ct10),sl10⟩) (c10:aK K cd10 "do_deed"=true) (k10:aE K (.ref f10)=true)
    (a11:aP K aN "do_push"=some (some (.ref f11))) (l11:K.lookup f11=some ⟨oc11,od11,.func (aO "do_push" "do_push" (bV jS) (bP jS) (aF jS) .none kV11 dc11 pm11 an11 cd11 ct11),sl11⟩) (c11:aK K cd11 "do_push"=true) (k11:aE K (.ref f11)=true)
    (a12:aP K aN "do_pull"=some (some (.ref f12))) (l12:K.lookup f12=some ⟨oc12,od12,.func (aO "do_pull" "do_pull" (bV jT) (bP jT) (aF jT) .none kV12 dc12 pm12 an12 cd12 ct12),sl12⟩) (c12:aK K cd12 "do_pull"=true) (k12:aE K (.ref f12)=true)
    (a13:aP K aN "do_draw"=some (some (.ref f13))) (l13:K.lookup f13=some ⟨oc13,od13,.func (aO "do_draw" "do_draw" (bV jU) (bP jU) (aF jU) .none kV13 dc13 pm13 an13 cd13 ct13),sl13⟩) (c13:aK K cd13 "do_draw"=true) (k13:aE K (.ref f13)=true)
    (a14:aP K aN "do_send"=some (some (.ref f14))) (l14:K.lookup f14=some ⟨oc14,od14,.func (aO "do_send" "do_send" (bV jV) (bP jV) (aF jV) .none kV14 dc14 pm14 an14 cd14 ct14),sl14⟩) (c14:aK K cd14 "do_send"=true) (k14:aE K (.ref f14)=true)
    (a15:aP K aN "copied"=some (some (.ref f15))) (l15:K.lookup f15=some ⟨oc15,od15,.func (aO "copied" "copied" (bV j7) (bP j7) (aF j7) .none kV15 dc15 pm15 an15 cd15 ct15),sl15⟩) (c15:aK K cd15 "copied"=true) (k15:aE K (.ref f15)=true)
    (a16:aP K aN "first_state"=some (some (.ref f16))) (l16:K.lookup f16=some ⟨oc16,od16,.func (aO "first_state" "first_state" (bV ic) (bP ic) (aF ic) .none kV16 dc16 pm16 an16 cd16 ct16),sl16⟩) (c16:aK K cd16 "first_state"=true) (k16:aE K (.ref f16)=true)
    (a17:aP K aN "place_in"=some (some (.ref f17))) (l17:K.lookup f17=some ⟨oc17,od17,.func (aO "place_in" "place_in" (bV jW) (bP jW) (aF jW) .none kV17 dc17 pm17 an17 cd17 ct17),sl17⟩) (c17:aK K cd17 "place_in"=true) (k17:aE K (.ref f17)=true)
    (a18:aP K aN "put_in"=some (some (.ref f18))) (l18:K.lookup f18=some ⟨oc18,od18,.func (aO "put_in" "put_in" (bV lZ) (bP lZ) (aF lZ) .none kV18 dc18 pm18 an18 cd18 ct18),sl18⟩) (c18:aK K cd18 "put_in"=true) (k18:aE K (.ref f18)=true)
    (a19:aP K aN "pending_at_first"=some (some (.ref f19))) (l19:K.lookup f19=some ⟨oc19,od19,.func (aO "pending_at_first" "pending_at_first" (bV eQ) (bP eQ) (aF eQ) .none kV19 dc19 pm19 an19 cd19 ct19),sl19⟩) (c19:aK K cd19 "pending_at_first"=true) (k19:aE K (.ref f19)=true)
    (a20:aP K aN "course_at_first"=some (some (.ref f20))) (l20:K.lookup f20=some ⟨oc20,od20,.func (aO "course_at_first" "course_at_first" (bV fb) (bP fb) (aF fb) .none kV20 dc20 pm20 an20 cd20 ct20),sl20⟩) (c20:aK K cd20 "course_at_first"=true) (k20:aE K (.ref f20)=true)
    (a21:aP K aN "run_on"=some (some (.ref f21))) (l21:K.lookup f21=some ⟨oc21,od21,.func (aO "run_on" "run_on" (bV md) (bP md) (aF md) .none kV21 dc21 pm21 an21 cd21 ct21),sl21⟩) (c21:aK K cd21 "run_on"=true) (k21:aE K (.ref f21)=true)
    (a22:aP K aN "plain"=some (some (.ref f22))) (l22:K.lookup f22=some ⟨oc22,od22,.func (aO "plain" "plain" (bV oQ) (bP oQ) (aF oQ) .none kV22 dc22 pm22 an22 cd22 ct22),sl22⟩) (c22:aK K cd22 "plain"=true) (k22:aE K (.ref f22)=true)
    (a23:aP K aN "_law_mixed"=some (some (.ref f23))) (l23:K.lookup f23=some ⟨oc23,od23,.func (aO "_law_mixed" "_law_mixed" (bV iC) (bP iC) (aF iC) .none kV23 dc23 pm23 an23 cd23 ct23),sl23⟩) (c23:aK K cd23 "_law_mixed"=true) (k23:aE K (.ref f23)=true)
    (a24:aP K aN "_law_purse"=some (some (.ref f24))) (l24:K.lookup f24=some ⟨oc24,od24,.func (aO "_law_purse" "_law_purse" (bV jo) (bP jo) (aF jo) .none kV24 dc24 pm24 an24 cd24 ct24),sl24⟩) (c24:aK K cd24 "_law_purse"=true) (k24:aE K (.ref f24)=true)
    (a25:aP K aN "_law_draw"=some (some (.ref f25))) (l25:K.lookup f25=some ⟨oc25,od25,.func (aO "_law_draw" "_law_draw" (bV d9) (bP d9) (aF d9) .none kV25 dc25 pm25 an25 cd25 ct25),sl25⟩) (c25:aK K cd25 "_law_draw"=true) (k25:aE K (.ref f25)=true)
    (a26:aP K aN "_law_names"=some (some (.ref f26))) (l26:K.lookup f26=some ⟨oc26,od26,.func (aO "_law_names" "_law_names" (bV iD) (bP iD) (aF iD) .none kV26 dc26 pm26 an26 cd26 ct26),sl26⟩) (c26:aK K cd26 "_law_names"=true) (k26:aE K (.ref f26)=true)
    (a27:aP K aN "_law_leaf"=some (some (.ref f27))) (l27:K.lookup f27=some ⟨oc27,od27,.func (aO "_law_leaf" "_law_leaf" (bV gP) (bP gP) (aF gP) .none kV27 dc27 pm27 an27 cd27 ct27),sl27⟩) (c27:aK K cd27 "_law_leaf"=true) (k27:aE K (.ref f27)=true)
    (a28:aP K aN "_law_formula"=some (some (.ref f28))) (l28:K.lookup f28=some ⟨oc28,od28,.func (aO "_law_formula" "_law_formula" (bV fJ) (bP fJ) (aF fJ) .none kV28 dc28 pm28 an28 cd28 ct28),sl28⟩) (c28:aK K cd28 "_law_formula"=true) (k28:aE K (.ref f28)=true)
    (a29:aP K aN "_law_send"=some (some (.ref f29))) (l29:K.lookup f29=some ⟨oc29,od29,.func (aO "_law_send" "_law_send" (bV jf) (bP jf) (aF jf) .none kV29 dc29 pm29 an29 cd29 ct29),sl29⟩) (c29:aK K cd29 "_law_send"=true) (k29:aE K (.ref f29)=true)
    (a30:aP K aN "_law_deed"=some (some (.ref f30))) (l30:K.lookup f30=some ⟨oc30,od30,.func (aO "_law_deed" "_law_deed" (bV jg) (bP jg) (aF jg) .none kV30 dc30 pm30 an30 cd30 ct30),sl30⟩) (c30:aK K cd30 "_law_deed"=true) (k30:aE K (.ref f30)=true)
    (a31:aP K aN "_law_deeds"=some (some (.ref f31))) (l31:K.lookup f31=some ⟨oc31,od31,.func (aO "_law_deeds" "_law_deeds" (bV g9) (bP g9) (aF g9) .none kV31 dc31 pm31 an31 cd31 ct31),sl31⟩) (c31:aK K cd31 "_law_deeds"=true) (k31:aE K (.ref f31)=true)
    (a32:aP K aN "_law_machine"=some (some (.ref f32))) (l32:K.lookup f32=some ⟨oc32,od32,.func (aO "_law_machine" "_law_machine" (bV gQ) (bP gQ) (aF gQ) .none kV32 dc32 pm32 an32 cd32 ct32),sl32⟩) (c32:aK K cd32 "_law_machine"=true) (k32:aE K (.ref f32)=true)
    (a33:aP K aN "_law_model"=some (some (.ref f33))) (l33:K.lookup f33=some ⟨oc33,od33,.func (aO "_law_model" "_law_model" (bV iE) (bP iE) (aF iE) .none kV33 dc33 pm33 an33 cd33 ct33),sl33⟩) (c33:aK K cd33 "_law_model"=true) (k33:aE K (.ref f33)=true)
    (a34:aP K aN "_law_signs"=some (some (.ref f34))) (l34:K.lookup f34=some ⟨oc34,od34,.func (aO "_law_signs" "_law_signs" (bV iF) (bP iF) (aF iF) .none kV34 dc34 pm34 an34 cd34 ct34),sl34⟩) (c34:aK K cd34 "_law_signs"=true) (k34:aE K (.ref f34)=true)
    (a35:aP K aN "_law_known"=some (some (.ref f35))) (l35:K.lookup f35=some ⟨oc35,od35,.func (aO "_law_known" "_law_known" (bV jq) (bP jq) (aF jq) .none kV35 dc35 pm35 an35 cd35 ct35),sl35⟩) (c35:aK K cd35 "_law_known"=true) (k35:aE K (.ref f35)=true)
    (a36:aP K aN "law"=some (some (.ref f36))) (l36:K.lookup f36=some ⟨oc36,od36,.func (aO "law" "law" (bV xh) (bP xh) (aF xh) .none kV36 dc36 pm36 an36 cd36 ct36),sl36⟩) (c36:aK K cd36 "law"=true) (k36:aE K (.ref f36)=true)
    (aCM:aP K aN "Model"=some (some (.ref CM)))
    (a37:ay K (.ref CM) "__init__"=some (some (.ref f37))) (i37:cR K (.ref f37)=true) (l37:K.lookup f37=some ⟨oc37,od37,.func (aO "__init__" "Model.__init__" (bV iP) (bP iP) (aF iP) .none kV37 dc37 pm37 an37 cd37 ct37),sl37⟩) (c37:aK K cd37 "Model.__init__"=true) (k37:aE K (.ref f37)=true)
    (pgCM:fx K CM pP=true) (hdCM:gb K CM=true) (poCM:gH K CM=true) (saCM:ay K (.ref CM) "__setattr__"=some (some (.builtin "object.__setattr__"))) (mkCM:hU K CM=true) (kcCM:aE K (.ref CM)=true)
    (nCMmachines:ay K (.ref CM) "machines"=some none)
    (aCS:aP K aN "State"=some (some (.ref CS)))
    (a38:ay K (.ref CS) "__init__"=some (some (.ref f38))) (i38:cR K (.ref f38)=true) (l38:K.lookup f38=some ⟨oc38,od38,.func (aO "__init__" "State.__init__" (bV gK) (bP gK) (aF gK) .none kV38 dc38 pm38 an38 cd38 ct38),sl38⟩) (c38:aK K cd38 "State.__init__"=true) (k38:aE K (.ref f38)=true)
    (a39:ay K (.ref CS) "copy"=some (some (.ref f39))) (i39:cR K (.ref f39)=true) (l39:K.lookup f39=some ⟨oc39,od39,.func (aO "copy" "State.copy" (bV gL) (bP gL) (aF gL) .none kV39 dc39 pm39 an39 cd39 ct39),sl39⟩) (c39:aK K cd39 "State.copy"=true) (k39:aE K (.ref f39)=true)
    (pgCS:fx K CS pP=true) (hdCS:gb K CS=true) (poCS:gH K CS=true) (saCS:ay K (.ref CS) "__setattr__"=some (some (.builtin "object.__setattr__"))) (mkCS:hU K CS=true) (kcCS:aE K (.ref CS)=true)
    (nCSboxes:ay K (.ref CS) "boxes"=some none)
    (nCSqueues:ay K (.ref CS) "queues"=some none)
    (nCSdrawn:ay K (.ref CS) "drawn"=some none)
    (nCSsent:ay K (.ref CS) "sent"=some none)
    (aCD:aP K aN "Doing"=some (some (.ref CD)))
    (a40:ay K (.ref CD) "__init__"=some (some (.ref f40))) (i40:cR K (.ref f40)=true) (l40:K.lookup f40=some ⟨oc40,od40,.func (aO "__init__" "Doing.__init__" (bV iO) (bP iO) (aF iO) .none kV40 dc40 pm40 an40 cd40 ct40),sl40⟩) (c40:aK K cd40 "Doing.__init__"=true) (k40:aE K (.ref f40)=true)
    (a41:ay K (.ref CD) "now"=some (some (.ref f41))) (i41:cR K (.ref f41)=true) (l41:K.lookup f41=some ⟨oc41,od41,.func (aO "now" "Doing.now" (bV gJ) (bP gJ) (aF gJ) .none kV41 dc41 pm41 an41 cd41 ct41),sl41⟩) (c41:aK K cd41 "Doing.now"=true) (k41:aE K (.ref f41)=true)
    (a42:ay K (.ref CD) "reckon"=some (some (.ref f42))) (i42:cR K (.ref f42)=true) (l42:K.lookup f42=some ⟨oc42,od42,.func (aO "reckon" "Doing.reckon" (bV dU) (bP dU) (aF dU) .none kV42 dc42 pm42 an42 cd42 ct42),sl42⟩) (c42:aK K cd42 "Doing.reckon"=true) (k42:aE K (.ref f42)=true)
    (a43:ay K (.ref CD) "queue_of"=some (some (.ref f43))) (i43:cR K (.ref f43)=true) (l43:K.lookup f43=some ⟨oc43,od43,.func (aO "queue_of" "Doing.queue_of" (bV dH) (bP dH) (aF dH) .none kV43 dc43 pm43 an43 cd43 ct43),sl43⟩) (c43:aK K cd43 "Doing.queue_of"=true) (k43:aE K (.ref f43)=true)
    (a44:ay K (.ref CD) "fill"=some (some (.ref f44))) (i44:cR K (.ref f44)=true) (l44:K.lookup f44=some ⟨oc44,od44,.func (aO "fill" "Doing.fill" (bV e9) (bP e9) (aF e9) .none kV44 dc44 pm44 an44 cd44 ct44),sl44⟩) (c44:aK K cd44 "Doing.fill"=true) (k44:aE K (.ref f44)=true)
    (pgCD:fx K CD pP=true) (hdCD:gb K CD=true) (poCD:gH K CD=true) (saCD:ay K (.ref CD) "__setattr__"=some (some (.builtin "object.__setattr__"))) (mkCD:hU K CD=true) (kcCD:aE K (.ref CD)=true)
    (nCDmachine:ay K (.ref CD) "machine"=some none)
    (nCDhappening:ay K (.ref CD) "happening"=some none)
    (nCDstate:ay K (.ref CD) "state"=some none)
    (nCDwritten:ay K (.ref CD) "written"=some none)
    (nCDoutgoing:ay K (.ref CD) "outgoing"=some none)
    (nCDends:ay K (.ref CD) "ends"=some none)
    (nCDreckoned:ay K (.ref CD) "reckoned"=some none)
    (nCDqueued:ay K (.ref CD) "queued"=some none)
    (aCB:aP K aN "Book"=some (some (.ref CB)))
    (a45:ay K (.ref CB) "__init__"=some (some (.ref f45))) (i45:cR K (.ref f45)=true) (l45:K.lookup f45=some ⟨oc45,od45,.func (aO "__init__" "Book.__init__" (bV jn) (bP jn) (aF jn) .none kV45 dc45 pm45 an45 cd45 ct45),sl45⟩) (c45:aK K cd45 "Book.__init__"=true) (k45:aE K (.ref f45)=true)
    (pgCB:fx K CB pP=true) (hdCB:gb K CB=true) (poCB:gH K CB=true) (saCB:ay K (.ref CB) "__setattr__"=some (some (.builtin "object.__setattr__"))) (mkCB:hU K CB=true) (kcCB:aE K (.ref CB)=true)
    (nCBrecords:ay K (.ref CB) "records"=some none)
    (nCBending:ay K (.ref CB) "ending"=some none)
    (nCBstates:ay K (.ref CB) "states"=some none)
    (aCC:aP K aN "Course"=some (some (.ref CC)))
    (a46:ay K (.ref CC) "__init__"=some (some (.ref f46))) (i46:cR K (.ref f46)=true) (l46:K.lookup f46=some ⟨oc46,od46,.func (aO "__init__" "Course.__init__" (bV ie) (bP ie) (aF ie) .none kV46 dc46 pm46 an46 cd46 ct46),sl46⟩) (c46:aK K cd46 "Course.__init__"=true) (k46:aE K (.ref f46)=true)
    (a47:ay K (.ref CC) "ending_due"=some (some (.ref f47))) (i47:cR K (.ref f47)=true) (l47:K.lookup f47=some ⟨oc47,od47,.func (aO "ending_due" "Course.ending_due" (bV dY) (bP dY) (aF dY) .none kV47 dc47 pm47 an47 cd47 ct47),sl47⟩) (c47:aK K cd47 "Course.ending_due"=true) (k47:aE K (.ref f47)=true)
    (a48:ay K (.ref CC) "do_one"=some (some (.ref f48))) (i48:cR K (.ref f48)=true) (l48:K.lookup f48=some ⟨oc48,od48,.func (aO "do_one" "Course.do_one" (bV fq) (bP fq) (aF fq) .none kV48 dc48 pm48 an48 cd48 ct48),sl48⟩) (c48:aK K cd48 "Course.do_one"=true) (k48:aE K (.ref f48)=true)
    (pgCC:fx K CC pP=true) (hdCC:gb K CC=true) (poCC:gH K CC=true) (saCC:ay K (.ref CC) "__setattr__"=some (some (.builtin "object.__setattr__"))) (mkCC:hU K CC=true) (kcCC:aE K (.ref CC)=true)
    (nCCmodel:ay K (.ref CC) "model"=some none)
    (nCCstates:ay K (.ref CC) "states"=some none)
    (nCCpending:ay K (.ref CC) "pending"=some none)
    (nCCreached:ay K (.ref CC) "reached"=some none)
    (nCCstopped:ay K (.ref CC) "stopped"=some none)
    (aCN:aP K aN "Nought"=some (some (.ref CN))) (xCN:dM K CN pG "ValueError.__new__"=true)
    (aCG:aP K aN "Great"=some (some (.ref CG))) (xCG:dM K CG pG "ValueError.__new__"=true)
    (aCU:aP K aN "Full"=some (some (.ref CU))) (xCU:dM K CU pG "ValueError.__new__"=true)
    (aCY:aP K aN "Dry"=some (some (.ref CY))) (xCY:dM K CY pG "ValueError.__new__"=true)
    (aCP:aP K aN "Span"=some (some (.ref CP))) (xCP:dM K CP pG "ValueError.__new__"=true)
    (aCL:aP K aN "Late"=some (some (.ref CL))) (xCL:dM K CL pG "ValueError.__new__"=true)
    (aCF:aP K aN "Fault"=some (some (.ref CF))) (xCF:dM K CF pG "ValueError.__new__"=true)
    (enn:dA K (.ref CN) (.ref CN)=some true)
    (egn:dA K (.ref CG) (.ref CN)=some false)
    (egg:dA K (.ref CG) (.ref CG)=some true)
    (hcn:pW K (.builtin "object.__class__") "__get__"=some (some (.builtin "getset_descriptor.__get__")))
    (hck:rN K (.builtin "object.__class__")=some true)
    (xfCN:dA K (.ref CN) (.ref CF)=some true)
    (gaCN:ay K (.ref CN) "__getattribute__"=some (some (.builtin "BaseException.__getattribute__")))
    (ghCN:ay K (.ref CN) "__getattr__"=some none)
    (gcCN:ay K (.ref CN) "__class__"=some (some (.builtin "object.__class__")))
    (obCN:dX K CN (.type "object")=some true)
    (beCN:dX K CN (.type "BaseException")=some true)
    (a100:ay K (.ref CN) "word"=some (some (.ref f100)))
    (i100:cR K (.ref f100)=true)
    (l100:K.lookup f100=some ⟨oc100,od100,.func (aO "word" "Nought.word" (bV ib) (bP ib) (aF ib) .none kV100 dc100 pm100 an100 cd100 ct100),sl100⟩)
    (c100:aK K cd100 "Nought.word"=true)
    (k100:aE K (.ref f100)=true)
    (xfCG:dA K (.ref CG) (.ref CF)=some true)
    (gaCG:ay K (.ref CG) "__getattribute__"=some (some (.builtin "BaseException.__getattribute__")))
    (ghCG:ay K (.ref CG) "__getattr__"=some none)
    (gcCG:ay K (.ref CG) "__class__"=some (some (.builtin "object.__class__")))
    (obCG:dX K CG (.type "object")=some true)
    (beCG:dX K CG (.type "BaseException")=some true)
    (a101:ay K (.ref CG) "word"=some (some (.ref f101)))
    (i101:cR K (.ref f101)=true)
    (l101:K.lookup f101=some ⟨oc101,od101,.func (aO "word" "Great.word" (bV iN) (bP iN) (aF iN) .none kV101 dc101 pm101 an101 cd101 ct101),sl101⟩)
    (c101:aK K cd101 "Great.word"=true)
    (k101:aE K (.ref f101)=true)
    (xfCU:dA K (.ref CU) (.ref CF)=some true)
    (gaCU:ay K (.ref CU) "__getattribute__"=some (some (.builtin "BaseException.__getattribute__")))
    (ghCU:ay K (.ref CU) "__getattr__"=some none)
    (gcCU:ay K (.ref CU) "__class__"=some (some (.builtin "object.__class__")))
    (obCU:dX K CU (.type "object")=some true)
    (beCU:dX K CU (.type "BaseException")=some true)
    (a102:ay K (.ref CU) "word"=some (some (.ref f102)))
    (i102:cR K (.ref f102)=true)
    (l102:K.lookup f102=some ⟨oc102,od102,.func (aO "word" "Full.word" (bV ji) (bP ji) (aF ji) .none kV102 dc102 pm102 an102 cd102 ct102),sl102⟩)
    (c102:aK K cd102 "Full.word"=true)
    (k102:aE K (.ref f102)=true)
    (xfCY:dA K (.ref CY) (.ref CF)=some true)
    (gaCY:ay K (.ref CY) "__getattribute__"=some (some (.builtin "BaseException.__getattribute__")))
    (ghCY:ay K (.ref CY) "__getattr__"=some none)
    (gcCY:ay K (.ref CY) "__class__"=some (some (.builtin "object.__class__")))
    (obCY:dX K CY (.type "object")=some true)
    (beCY:dX K CY (.type "BaseException")=some true)
    (a103:ay K (.ref CY) "word"=some (some (.ref f103)))
    (i103:cR K (.ref f103)=true)
    (l103:K.lookup f103=some ⟨oc103,od103,.func (aO "word" "Dry.word" (bV jP) (bP jP) (aF jP) .none kV103 dc103 pm103 an103 cd103 ct103),sl103⟩)
    (c103:aK K cd103 "Dry.word"=true)
    (k103:aE K (.ref f103)=true)
    (xfCP:dA K (.ref CP) (.ref CF)=some true)
    (gaCP:ay K (.ref CP) "__getattribute__"=some (some (.builtin "BaseException.__getattribute__")))
    (ghCP:ay K (.ref CP) "__getattr__"=some none)
    (gcCP:ay K (.ref CP) "__class__"=some (some (.builtin "object.__class__")))
    (obCP:dX K CP (.type "object")=some true)
    (beCP:dX K CP (.type "BaseException")=some true)
    (a104:ay K (.ref CP) "word"=some (some (.ref f104)))
    (i104:cR K (.ref f104)=true)
    (l104:K.lookup f104=some ⟨oc104,od104,.func (aO "word" "Span.word" (bV jj) (bP jj) (aF jj) .none kV104 dc104 pm104 an104 cd104 ct104),sl104⟩)
    (c104:aK K cd104 "Span.word"=true)
    (k104:aE K (.ref f104)=true)
    (xfCL:dA K (.ref CL) (.ref CF)=some true)
    (gaCL:ay K (.ref CL) "__getattribute__"=some (some (.builtin "BaseException.__getattribute__")))
    (ghCL:ay K (.ref CL) "__getattr__"=some none)
    (gcCL:ay K (.ref CL) "__class__"=some (some (.builtin "object.__class__")))
    (obCL:dX K CL (.type "object")=some true)
    (beCL:dX K CL (.type "BaseException")=some true)
    (a105:ay K (.ref CL) "word"=some (some (.ref f105)))
    (i105:cR K (.ref f105)=true)
    (l105:K.lookup f105=some ⟨oc105,od105,.func (aO "word" "Late.word" (bV jk) (bP jk) (aF jk) .none kV105 dc105 pm105 an105 cd105 ct105),sl105⟩)
    (c105:aK K cd105 "Late.word"=true)
    (k105:aE K (.ref f105)=true)
    (zlen:aP K aN "len"=some none)
    (zabs:aP K aN "abs"=some none)
    (zisinstance:aP K aN "isinstance"=some none)
    (zlist:aP K aN "list"=some none)
    (ztuple:aP K aN "tuple"=some none)
    (zstr:aP K aN "str"=some none)
    (zint:aP K aN "int"=some none)
    (zbool:aP K aN "bool"=some none)
    (zrange:aP K aN "range"=some none)
    (zmax:aP K aN "max"=some none)
    (zdict:aP K aN "dict"=some none)
    (zsorted:aP K aN "sorted"=some none)
    (zenumerate:aP K aN "enumerate"=some none) :
    ∃ fd:cu,(∀ (s:aj) (v:aa),t9 s fd ⟨[v],[]⟩ [("_law_script",v)])/\∀ base:cE,K.In base->base.Ns aN mg->bX l.prog w K mg base CX0 41 fa fd ["_law_script"] (Ae K):=by
  have e:=hfa.symm.trans (eg X G a36)
  cases e
  have D1:=fH (ps:=["formula","state","now","got"]) X G a1 l1 c1 k1 fun _ _ _ _ _ _ us hl=>by obtain ⟨a,b,c,d,rfl⟩:=lK hl; rfl
  have D2:=fH (ps:=["formula","state","now","got"]) X G a2 l2 c2 k2 fun _ _ _ _ _ _ us hl=>by obtain ⟨a,b,c,d,rfl⟩:=lK hl; rfl
  have D3:=fH (ps:=["kind","first","second"]) X G a3 l3 c3 k3 fun _ _ _ _ _ _ us hl=>by obtain ⟨a,b,c,rfl⟩:=jB hl; rfl
  have D4:=fH (ps:=["kind","first","second"]) X G a4 l4 c4 k4 fun _ _ _ _ _ _ us hl=>by obtain ⟨a,b,c,rfl⟩:=jB hl; rfl
  have D5:=fH (ps:=["model","state","happening"]) X G a5 l5 c5 k5 fun _ _ _ _ _ _ us hl=>by obtain ⟨a,b,c,rfl⟩:=jB hl; rfl
  have D6:=fH (ps:=["model","state","happening"]) X G a6 l6 c6 k6 fun _ _ _ _ _ _ us hl=>by obtain ⟨a,b,c,rfl⟩:=jB hl; rfl
  have D7:=fH (ps:=["machine","sign"]) X G a7 l7 c7 k7 fun _ _ _ _ _ _ us hl=>by obtain ⟨a,b,rfl⟩:=gN hl; rfl
  have D8:=fH (ps:=["doing"]) X G a8 l8 c8 k8 fun _ _ _ _ _ _ us hl=>by obtain ⟨a,rfl⟩:=iy hl; rfl
  have D9:=fH (ps:=["doing","deeds"]) X G a9 l9 c9 k9 fun _ _ _ _ _ _ us hl=>by obtain ⟨a,b,rfl⟩:=gN hl; rfl
  have D10:=fH (ps:=["doing","deed"]) X G a10 l10 c10 k10 fun _ _ _ _ _ _ us hl=>by obtain ⟨a,b,rfl⟩:=gN hl; rfl
  have D11:=fH (ps:=["doing","name","formula"]) X G a11 l11 c11 k11 fun _ _ _ _ _ _ us hl=>by obtain ⟨a,b,c,rfl⟩:=jB hl; rfl
  have D12:=fH (ps:=["doing","name","box","otherwise"]) X G a12 l12 c12 k12 fun _ _ _ _ _ _ us hl=>by obtain ⟨a,b,c,d,rfl⟩:=lK hl; rfl
  have D13:=fH (ps:=["doing","box","formula"]) X G a13 l13 c13 k13 fun _ _ _ _ _ _ us hl=>by obtain ⟨a,b,c,rfl⟩:=jB hl; rfl
  have D14:=fH (ps:=["doing","deed"]) X G a14 l14 c14 k14 fun _ _ _ _ _ _ us hl=>by obtain ⟨a,b,rfl⟩:=gN hl; rfl
  have D15:=fH (ps:=["thing"]) X G a15 l15 c15 k15 fun _ _ _ _ _ _ us hl=>by obtain ⟨a,rfl⟩:=iy hl; rfl
  have D16:=fH (ps:=["model","at"]) X G a16 l16 c16 k16 fun _ _ _ _ _ _ us hl=>by obtain ⟨a,b,rfl⟩:=gN hl; rfl
  have D17:=fH (ps:=["falling","thing"]) X G a17 l17 c17 k17 fun _ _ _ _ _ _ us hl=>by obtain ⟨a,b,rfl⟩:=gN hl; rfl
  have D18:=fH (ps:=["falling","thing"]) X G a18 l18 c18 k18 fun _ _ _ _ _ _ us hl=>by obtain ⟨a,b,rfl⟩:=gN hl; rfl
  have D19:=fH (ps:=["signs"]) X G a19 l19 c19 k19 fun _ _ _ _ _ _ us hl=>by obtain ⟨a,rfl⟩:=iy hl; rfl
  have D20:=fH (ps:=["model","signs"]) X G a20 l20 c20 k20 fun _ _ _ _ _ _ us hl=>by obtain ⟨a,b,rfl⟩:=gN hl; rfl
  have D21:=fH (ps:=["course","most"]) X G a21 l21 c21 k21 fun _ _ _ _ _ _ us hl=>by obtain ⟨a,b,rfl⟩:=gN hl; rfl
  have D22:=fH (ps:=["model","signs","most"]) X G a22 l22 c22 k22 fun _ _ _ _ _ _ us hl=>by obtain ⟨a,b,c,rfl⟩:=jB hl; rfl
  have D23:=fH (ps:=["_law_cell","_law_k"]) X G a23 l23 c23 k23 fun _ _ _ _ _ _ us hl=>by obtain ⟨a,b,rfl⟩:=gN hl; rfl
  have D24:=fH (ps:=["_law_script"]) X G a24 l24 c24 k24 fun _ _ _ _ _ _ us hl=>by obtain ⟨a,rfl⟩:=iy hl; rfl
  have D25:=fH (ps:=["_law_purse_here","_law_out_of"]) X G a25 l25 c25 k25 fun _ _ _ _ _ _ us hl=>by obtain ⟨a,b,rfl⟩:=gN hl; rfl
  have D26:=fH (ps:=["_law_purse_here","_law_many"]) X G a26 l26 c26 k26 fun _ _ _ _ _ _ us hl=>by obtain ⟨a,b,rfl⟩:=gN hl; rfl
  have D27:=fH (ps:=["_law_purse_here","_law_boxes","_law_queues"]) X G a27 l27 c27 k27 fun _ _ _ _ _ _ us hl=>by obtain ⟨a,b,c,rfl⟩:=jB hl; rfl
  have D28:=fH (ps:=["_law_purse_here","_law_boxes","_law_queues","_law_deep"]) X G a28 l28 c28 k28 fun _ _ _ _ _ _ us hl=>by obtain ⟨a,b,c,d,rfl⟩:=lK hl; rfl
  have D29:=fH (ps:=["_law_purse_here","_law_boxes","_law_queues","_law_signs_here","_law_many"]) X G a29 l29 c29 k29 fun _ _ _ _ _ _ us hl=>by obtain ⟨a,b,c,d,e,rfl⟩:=Ag hl; rfl
  have D30:=fH (ps:=["_law_purse_here","_law_boxes","_law_queues","_law_signs_here","_law_many","_law_left","_law_deep"]) X G a30 l30 c30 k30 fun _ _ _ _ _ _ us hl=>by obtain ⟨a,b,c,d,e,f,g,rfl⟩:=Ah hl; rfl
  have D31:=fH (ps:=["_law_purse_here","_law_boxes","_law_queues","_law_signs_here","_law_many","_law_left","_law_deep"]) X G a31 l31 c31 k31 fun _ _ _ _ _ _ us hl=>by obtain ⟨a,b,c,d,e,f,g,rfl⟩:=Ah hl; rfl
  have D32:=fH (ps:=["_law_purse_here","_law_name","_law_signs_here","_law_many"]) X G a32 l32 c32 k32 fun _ _ _ _ _ _ us hl=>by obtain ⟨a,b,c,d,rfl⟩:=lK hl; rfl
  have D33:=fH (ps:=["_law_purse_here","_law_most"]) X G a33 l33 c33 k33 fun _ _ _ _ _ _ us hl=>by obtain ⟨a,b,rfl⟩:=gN hl; rfl
  have D34:=fH (ps:=["_law_purse_here","_law_machines","_law_most"]) X G a34 l34 c34 k34 fun _ _ _ _ _ _ us hl=>by obtain ⟨a,b,c,rfl⟩:=jB hl; rfl
  have D35:=fH (ps:=["_law_records","_law_at","_law_signs_here"]) X G a35 l35 c35 k35 fun _ _ _ _ _ _ us hl=>by obtain ⟨a,b,c,rfl⟩:=jB hl; rfl
  have D36:=fH (ps:=["_law_script"]) X G a36 l36 c36 k36 fun _ _ _ _ _ _ us hl=>by obtain ⟨a,rfl⟩:=iy hl; rfl
  have FMI:=gY (x:="__init__") (qual:="Model.__init__") (st:=iP) l37 c37 k37
  have bMI:=FMI.binds (ps:=["self","machines"]) fun _ _ _ _ _ _ us hl=>by obtain ⟨a,b,rfl⟩:=gN hl; rfl
  have mMI:j5 K CM "__init__" f37:=⟨a37,i37,k37⟩
  have MCM:Mk K CM f37:=⟨mkCM,a37,i37,kcCM⟩
  have FSI:=gY (x:="__init__") (qual:="State.__init__") (st:=gK) l38 c38 k38
  have bSI:=FSI.binds (ps:=["self","boxes","queues","drawn","sent"]) fun _ _ _ _ _ _ us hl=>by obtain ⟨a,b,c,d,e,rfl⟩:=Ag hl; rfl
  have mSI:j5 K CS "__init__" f38:=⟨a38,i38,k38⟩
  have FSC:=gY (x:="copy") (qual:="State.copy") (st:=gL) l39 c39 k39
  have bSC:=FSC.binds (ps:=["self"]) fun _ _ _ _ _ _ us hl=>by obtain ⟨a,rfl⟩:=iy hl; rfl
  have mSC:j5 K CS "copy" f39:=⟨a39,i39,k39⟩
  have MCS:Mk K CS f38:=⟨mkCS,a38,i38,kcCS⟩
  have FDI:=gY (x:="__init__") (qual:="Doing.__init__") (st:=iO) l40 c40 k40
  have bDI:=FDI.binds (ps:=["self","machine","state","happening"]) fun _ _ _ _ _ _ us hl=>by obtain ⟨a,b,c,d,rfl⟩:=lK hl; rfl
  have mDI:j5 K CD "__init__" f40:=⟨a40,i40,k40⟩
  have FDN:=gY (x:="now") (qual:="Doing.now") (st:=gJ) l41 c41 k41
  have bDN:=FDN.binds (ps:=["self"]) fun _ _ _ _ _ _ us hl=>by obtain ⟨a,rfl⟩:=iy hl; rfl
  have mDN:j5 K CD "now" f41:=⟨a41,i41,k41⟩
  have FDR:=gY (x:="reckon") (qual:="Doing.reckon") (st:=dU) l42 c42 k42
  have bDR:=FDR.binds (ps:=["self","formula"]) fun _ _ _ _ _ _ us hl=>by obtain ⟨a,b,rfl⟩:=gN hl; rfl
  have mDR:j5 K CD "reckon" f42:=⟨a42,i42,k42⟩
  have FDQ:=gY (x:="queue_of") (qual:="Doing.queue_of") (st:=dH) l43 c43 k43
  have bDQ:=FDQ.binds (ps:=["self","name"]) fun _ _ _ _ _ _ us hl=>by obtain ⟨a,b,rfl⟩:=gN hl; rfl
  have mDQ:j5 K CD "queue_of" f43:=⟨a43,i43,k43⟩
  have FDF:=gY (x:="fill") (qual:="Doing.fill") (st:=e9) l44 c44 k44
  have bDF:=FDF.binds (ps:=["self","box","worth"]) fun _ _ _ _ _ _ us hl=>by obtain ⟨a,b,c,rfl⟩:=jB hl; rfl
  have mDF:j5 K CD "fill" f44:=⟨a44,i44,k44⟩
  have MCD:Mk K CD f40:=⟨mkCD,a40,i40,kcCD⟩
  have FBI:=gY (x:="__init__") (qual:="Book.__init__") (st:=jn) l45 c45 k45
  have bBI:=FBI.binds (ps:=["self","records","ending","states"]) fun _ _ _ _ _ _ us hl=>by obtain ⟨a,b,c,d,rfl⟩:=lK hl; rfl
  have mBI:j5 K CB "__init__" f45:=⟨a45,i45,k45⟩
  have MCB:Mk K CB f45:=⟨mkCB,a45,i45,kcCB⟩
  have FCI:=gY (x:="__init__") (qual:="Course.__init__") (st:=ie) l46 c46 k46
  have bCI:=FCI.binds (ps:=["self","model","states","pending"]) fun _ _ _ _ _ _ us hl=>by obtain ⟨a,b,c,d,rfl⟩:=lK hl; rfl
  have mCI:j5 K CC "__init__" f46:=⟨a46,i46,k46⟩
  have FCE:=gY (x:="ending_due") (qual:="Course.ending_due") (st:=dY) l47 c47 k47
  have bCE:=FCE.binds (ps:=["self","left"]) fun _ _ _ _ _ _ us hl=>by obtain ⟨a,b,rfl⟩:=gN hl; rfl
  have mCE:j5 K CC "ending_due" f47:=⟨a47,i47,k47⟩
  have FCO:=gY (x:="do_one") (qual:="Course.do_one") (st:=fq) l48 c48 k48
  have bCO:=FCO.binds (ps:=["self"]) fun _ _ _ _ _ _ us hl=>by obtain ⟨a,rfl⟩:=iy hl; rfl
  have mCO:j5 K CC "do_one" f48:=⟨a48,i48,k48⟩
  have MCC:Mk K CC f46:=⟨mkCC,a46,i46,kcCC⟩
  have B:Bl mg:=⟨cY X G zlen,cY X G zabs,cY X G zisinstance,cY X G zlist,cY X G ztuple,cY X G zstr,cY X G zint,cY X G zbool,cY X G zrange,cY X G zmax,cY X G zdict⟩
  have TM:MdT K mg CM CS:=⟨⟨pgCM,hdCM,poCM,saCM⟩,⟨pgCS,hdCS,poCS,saCS⟩,nCMmachines,nCSboxes,nCSqueues,nCSdrawn,nCSsent,eg X G aCM,eg X G aCS⟩
  have TD:DT K mg CD:=⟨⟨pgCD,hdCD,poCD,saCD⟩,nCDmachine,nCDhappening,nCDstate,nCDwritten,nCDoutgoing,nCDends,nCDreckoned,nCDqueued,eg X G aCD⟩
  have T6:C5 K mg (wy CN CG CU CY CP CL):=⟨⟨eg X G aCN,eg X G aCG,xCN,xCG,enn,egn,egg⟩,eg X G aCU,eg X G aCY,eg X G aCP,eg X G aCL,xCU,xCY,xCP,xCL⟩
  have MtN:Mt K CD "now" "Doing.now" gJ ["self"] _ _:=⟨FDN,bDN,mDN⟩
  have MtR:Mt K CD "reckon" "Doing.reckon" dU ["self","formula"] _ _:=⟨FDR,bDR,mDR⟩
  have MtQ:Mt K CD "queue_of" "Doing.queue_of" dH ["self","name"] _ _:=⟨FDQ,bDQ,mDQ⟩
  have MtF:Mt K CD "fill" "Doing.fill" e9 ["self","box","worth"] _ _:=⟨FDF,bDF,mDF⟩
  have MtC:Mt K CS "copy" "State.copy" gL ["self"] _ _:=⟨FSC,bSC,mSC⟩
  have XN100:uj K CN:=⟨gaCN,ghCN,gcCN,hcn,hck,obCN,beCN⟩
  have FW100:=gY (x:="word") (qual:="Nought.word") (st:=ib) l100 c100 k100
  have bW100:=FW100.binds (ps:=["self"]) fun _ _ _ _ _ _ us hl=>by obtain ⟨a,rfl⟩:=iy hl; rfl
  have mW100:j5 K CN "word" f100:=⟨a100,i100,k100⟩
  have XN101:uj K CG:=⟨gaCG,ghCG,gcCG,hcn,hck,obCG,beCG⟩
  have FW101:=gY (x:="word") (qual:="Great.word") (st:=iN) l101 c101 k101
  have bW101:=FW101.binds (ps:=["self"]) fun _ _ _ _ _ _ us hl=>by obtain ⟨a,rfl⟩:=iy hl; rfl
  have mW101:j5 K CG "word" f101:=⟨a101,i101,k101⟩
  have XN102:uj K CU:=⟨gaCU,ghCU,gcCU,hcn,hck,obCU,beCU⟩
  have FW102:=gY (x:="word") (qual:="Full.word") (st:=ji) l102 c102 k102
  have bW102:=FW102.binds (ps:=["self"]) fun _ _ _ _ _ _ us hl=>by obtain ⟨a,rfl⟩:=iy hl; rfl
  have mW102:j5 K CU "word" f102:=⟨a102,i102,k102⟩
  have XN103:uj K CY:=⟨gaCY,ghCY,gcCY,hcn,hck,obCY,beCY⟩
  have FW103:=gY (x:="word") (qual:="Dry.word") (st:=jP) l103 c103 k103
  have bW103:=FW103.binds (ps:=["self"]) fun _ _ _ _ _ _ us hl=>by obtain ⟨a,rfl⟩:=iy hl; rfl
  have mW103:j5 K CY "word" f103:=⟨a103,i103,k103⟩
  have XN104:uj K CP:=⟨gaCP,ghCP,gcCP,hcn,hck,obCP,beCP⟩
  have FW104:=gY (x:="word") (qual:="Span.word") (st:=jj) l104 c104 k104
  have bW104:=FW104.binds (ps:=["self"]) fun _ _ _ _ _ _ us hl=>by obtain ⟨a,rfl⟩:=iy hl; rfl
  have mW104:j5 K CP "word" f104:=⟨a104,i104,k104⟩
  have XN105:uj K CL:=⟨gaCL,ghCL,gcCL,hcn,hck,obCL,beCL⟩
  have FW105:=gY (x:="word") (qual:="Late.word") (st:=jk) l105 c105 k105
  have bW105:=FW105.binds (ps:=["self"]) fun _ _ _ _ _ _ us hl=>by obtain ⟨a,rfl⟩:=iy hl; rfl
  have mW105:j5 K CL "word" f105:=⟨a105,i105,k105⟩
  have TB:BkT K mg CB:=⟨⟨pgCB,hdCB,poCB,saCB⟩,nCBrecords,nCBending,nCBstates,eg X G aCB⟩
  have TC:CoT K mg CC:=⟨⟨pgCC,hdCC,poCC,saCC⟩,nCCmodel,nCCstates,nCCpending,nCCreached,nCCstopped,eg X G aCC⟩
  have MtE:Mt K CC "ending_due" "Course.ending_due" dY ["self","left"] _ _:=⟨FCE,bCE,mCE⟩
  have MtO:Mt K CC "do_one" "Course.do_one" fq ["self"] _ _:=⟨FCO,bCO,mCO⟩
  have BSo:mg "sorted"=none:=cY X G zsorted
  have ME:mg "enumerate"=none:=cY X G zenumerate
  have mFa:mg "Fault"=some (.ref CF):=eg X G aCF
  have MW:∀ e,j5 K ((wy CN CG CU CY CP CL) e) "word" ((zV f100 f101 f102 f103 f104 f105) e):=fun e=>by cases e <;> assumption
  have XNs:∀ e,uj K ((wy CN CG CU CY CP CL) e):=fun e=>by cases e <;> assumption
  have XFs:∀ e,dA K (.ref ((wy CN CG CU CY CP CL) e)) (.ref CF)=some true:=fun e=>by cases e <;> assumption
  have BW:∀ e,Binds K (zV _ _ _ _ _ _ e) ["self"] []:=Af bW100 bW101 bW102 bW103 bW104 bW105
  exact ⟨_,fun s v=>.of_eq rfl,fun base _ _=>JC D36 D24 D23 D25 D33 (ok_mo D33 D26 D32 (fun sgs=>ok_ma D32 D26 D31 (fun bs qs=>(Hm D31 D30 D29 D28 D27 D25 B 5)) D25 B) D25 B) D34 D35 MCM bMI (ok_MI (n:=29) FMI D15 B TM) D22 (Jz D22 D20 (Jx D20 D16 (AM D16 MCS FSI bSI B TM) D19 (IX D19 ME) MCC bCI (ok_ci FCI TC) TC TM B BSo) D21 (Jw D21 MtE (ok_ed MtE TC) MtO (Jt (cf:=(wy CN CG CU CY CP CL)) (fW:=(zV f100 f101 f102 f103 f104 f105)) (fdW:=(zV _ _ _ _ _ _)) MtO D18 (Jl D18 D17 B) D5 (fun bq=>(FD (n:=5) D5 D6 MCD bDI (ok_DI FDI MtC (FB FSC MCS FSI bSI B TM) TD TM) D9 (xp D9 D10 MtF MtR (sL (cf:=(wy CN CG CU CY CP CL)) MtR MtN D1 D3 D4 D2 TD T6 TM B) D12 D11 (Fu D11 MtR (sL (cf:=(wy CN CG CU CY CP CL)) MtR MtN D1 D3 D4 D2 TD T6 TM B) MtQ TD T6 TM B) D13 (Dc D13 MtR (sL (cf:=(wy CN CG CU CY CP CL)) MtR MtN D1 D3 D4 D2 TD T6 TM B) MtF TD T6 TM B) D14 (Fw D14 MtR (sL (cf:=(wy CN CG CU CY CP CL)) MtR MtN D1 D3 D4 D2 TD T6 TM B) MtN TD T6 TM B) MtQ TD TM 5) D7 D8 TD TM B)) MW BW (Af (yQ FW100) (A5 FW101) (DQ FW102) (F3 FW103) (DV FW104) (DX FW105)) XNs mFa XFs TC TM) TC B) MCB bBI (ok_bk FBI TB) TB TC) B TM TB⟩
theorem walk {l:rR} {q:aW} {loose:List Str} {XP:(Str->Option aa)->cE->Prop} {YP:bO->cE->Prop} {d:DefRec} {K:Params->ag} (hn:l.most=some 63) (hdf:d.params.defaults=[])
    (hY:∀ (w:bO) (h:cE),YP w h->(K w.params).In h)
    (F:∀ (w:bO) (mg:Str->Option aa) (fa:ae) (h:cE),(K w.params).In h->h.Ns aN mg->mg d.name=some (.ref fa) ->
      ∃ fd:cu,(∀ (s:aj) (u:aa),t9 s fd ⟨[u],[]⟩ [("_law_script",u)])/\∀ base:cE,(K w.params).In base->base.Ns aN mg->bX l.prog w (K w.params) mg base CX0 41 fa fd ["_law_script"] (Ae (K w.params))) :
    Ek q loose XP YP l.row.toRowW d [] (fun f vs=>AB f vs):=
  L2.walk_ofB (n:=63) (k:=41) (x:="_law_script") (CX:=fun _=>CX0) (sp:=fun w=>Ae (K w.params)) hn (by decide) hdf ⟨rfl,by decide,by decide⟩ hY F (fun _ _ a ns hl hb hS=>⟨a,ns,rfl,hS,hl,hb,fun _=>rfl⟩) fun _ _ _ _ _ z=>z
end My
namespace PySem.W.Fast
def tw6975950486013502341:=0
def tw9709635725100896350:=0
def tw12132447123041957225:=0
def tw16149029075265161010:=0
def tw6525261025160093052:=0
def tw4033529607806623080:=0
def tw18246015503875752319:=0
def tw7935799984591739921:=0
def tw2143241146119388654:=0
def tw6276535087239821092:=0
def tw9110830213710046118:=0
def tw4382512199378952666:=0
def tw14216100480722216452:=0
def tw2426078964280179742:=0
def tw4081463762123378069:=0
def tw6489470197580183126:=0
def tw18087747326240287318:=0
def tw9872312892222206977:=0
def tw14292064455991198117:=0
def tw14187048175519102432:=0
def tw15565595859780513935:=0
def tw5032847476056411835:=0
def tw15513911430041263819:=0
def tw7430888371398874964:=0
def tw9365226214392184501:=0
def tw5787526865837662694:=0
def tw17404186216362950674:=0
def tw17638083812324082354:=0
def tw13804663829666589201:=0
def tw9334801676703143565:=0
def tw7777138589648080157:=0
def tw13826644675492701866:=0
def tw12981480008261450277:=0
def tw13853750015668189462:=0
def tw13455987291375986131:=0
def tw13911433129806966575:=0
def tw12530901314676883814:=0
def tw743536741045756876:=0
def tw4952106689392512017:=0
def tw9774407823228341685:=0
def tw10364399654148433580:=0
def tw2627703793127124863:=0
def tw1829209373399432674:=0
def tw16519539930683912319:=0
def tw4630272410834344581:=0
def tw639465295718937006:=0
def tw15636145567703812962:=0
def tw16424666292797213263:=0
def tw14154550046410221483:=0
def tw10867650668163277259:=0
def tw9416764888854531858:=0
def tw17487441069274044828:=0
def tw15457353961381477984:=0
def tw4266622235482587019:=0
def tw3454172976501199408:=0
def tw14916477311766854923:=0
def tw10442729502195357750:=0
def tw191875494848310313:=0
def tw6369203889505207843:=0
def tw11456511029040937913:=0
def tw8102833204014182453:=0
def tw12296727994305644210:=0
def tw17671481678619944510:=0
def tw10476807798828062411:=0
def tw9295532144387303951:=0
def tw16058852578602079956:=0
def tw14598998234720476718:=0
def tw14580429554382842702:=0
def tw14605310433964889191:=0
def tw17223968271741398588:=0
def tw17695839508511151010:=0
def tw12253299228970468234:=0
def tw10499946264029345602:=0
def tw7529589925803568662:=0
def tw9178863781945809258:=0
def tw1762791094557062872:=0
def tw849247958723827333:=0
def tw17693685213936642142:=0
def tw12463926001597498231:=0
def tw14761260321151018361:=0
def tw14679891973957198534:=0
def tw14332639758459324983:=0
def tw12794967913227007591:=0
def tw6171877600017578550:=0
def tw16186604463521893478:=0
def tw5059515925691607222:=0
def tw8138074902920301837:=0
def tw2569484305572220404:=0
def tw14216686666320505781:=0
def tw13178316607515006588:=0
def tw5517127026561966693:=0
def tw14486886895181459892:=0
def tw14816185782118197140:=0
def tw12341284001635550554:=0
def tw11970645089318250778:=0
def tw11134401521614000837:=0
def tw9493936551916384449:=0
def tw2329792537232561258:=0
def tw15011116087111411777:=0
def tw3263353527081168848:=0
def tw2131485355443435883:=0
def tw15341762481729212455:=0
def tw4015982296764041041:=0
def tw4423040521947879080:=0
def tw16922641298559733325:=0
def tw11145870959789026547:=0
def tw7434791213554726087:=0
def tw11564093969786932442:=0
def tw7969780591770393697:=0
def tw6740591587396447131:=0
def tw221690073286627820:=0
def tw14425374370378490983:=0
def tw18359458486120726562:=0
def tw13106474933772852956:=0
def tw747874268465481845:=0
def tw627790647707220322:=0
def tw17749528560247156469:=0
def tw17747815804839659301:=0
def tw5404632176215639505:=0
def tw5979849220496120143:=0
def tw4698295192755660297:=0
def tw17874525279434442417:=0
def tw11498212364007901052:=0
def tw20944123170994049:=0
def tw2764643493429831464:=0
def tw4718219620624402050:=0
def tw7823685500616537908:=0
def tw13166439109542552626:=0
def tw8041365263758964116:=0
def tw9675442430464737403:=0
def tw8058953165409039827:=0
def tw17836707299902278407:=0
def tw17796667984707617359:=0
def tw12064197750745583201:=0
def tw13771068212709484512:=0
def tw12778235407661862632:=0
def tw53628694963273633:=0
def tw8943070832293707164:=0
def tw13641405341478425088:=0
def tw5596917430569518653:=0
def tw16115706538909832206:=0
def tw7174466817261070036:=0
def tw3450266813720215442:=0
def tw7285805433249222654:=0
def tw17340496641556607797:=0
def tw10428501964978115620:=0
def tw8242114139605388833:=0
def tw17943741582093890228:=0
def tw14045488552725335536:=0
def tw14910539223982675266:=0
def tw13596009565265120801:=0
def tw6376598394221121835:=0
def tw856350738716173871:=0
def tw13013262613672660499:=0
def tw16478601858960262749:=0
def tw15368417107912063827:=0
def tw15615670603002323819:=0
def tw4315725000561133870:=0
def tw10763418573316574048:=0
def tw9456866149995416030:=0
def tw9156501213169891899:=0
def tw13511872454679915900:=0
def tw8603984177506561356:=0
def tw16705738612600061279:=0
def tw4516420489567117502:=0
def tw12499522483331152768:=0
def tw6165049112035572589:=0
def tw16945348913258944346:=0
def tw10755188472018800566:=0
def tw1812795605441090197:=0
def tw17203142044294598923:=0
def tw15889733313077263412:=0
def tw14356000146654827915:=0
def tw1114115952868441253:=0
def tw2990016225680278839:=0
def tw5076708411275491073:=0
def tw4016214692094243957:=0
def tw17687613569806598121:=0
def tw3532226102171815683:=0
def tw13197929456831674564:=0
def tw9805755968153414950:=0
def tw3877666923830889826:=0
def tw235462568023027343:=0
def tw9816444453252177632:=0
def tw11285632362563142841:=0
def tw11089452656072672576:=0
def tw2833751046244368863:=0
def tw16119034224169144434:=0
def tw18273421355959514732:=0
def tw511816144973122285:=0
def tw2489987017826411852:=0
def tw5662516863539452622:=0
def tw8617308041975605892:=0
def tw14115581016192708290:=0
def tw8532140188476237459:=0
def tw12717267317987400531:=0
def tw14904548184272614854:=0
def tw11854277547363630403:=0
def tw11697094793551749801:=0
def tw17804172268116039286:=0
def tw16597163254620060181:=0
def tw13773024668087993533:=0
def tw2997862694706926890:=0
def tw6487244958964336590:=0
def tw246939669826248912:=0
def tw7149653973597262116:=0
def tw1995711306615189474:=0
def tw9829382512450664505:=0
def tw6790102829440868273:=0
def tw13208285787756269782:=0
def tw2239343865382987719:=0
def tw3835775104842575256:=0
def tw11049245079433090803:=0
def tw13103994852766971595:=0
def tw16346440613359670359:=0
def tw6178244864872160935:=0
def tw6073656835837638573:=0
def tw783195418641589561:=0
def tw1840406135894319342:=0
def tw13345806310926553824:=0
def tw3287585001061698229:=0
def tw2206005075552389888:=0
def tw12546425844994396299:=0
def tw10646856136842505750:=0
def tw3086651704548454035:=0
def tw8343972000487177973:=0
def tw17213863805533128993:=0
def tw2542962388568773720:=0
def tw14878991773298573328:=0
def tw17175790199570416118:=0
def tw11985049626767269197:=0
def tw17218727045335624961:=0
def tw8879998480074964572:=0
def tw16513176865150597232:=0
def tw18074764734867706147:=0
def tw9925658652375451503:=0
def tw8669874037964059978:=0
def tw12952498049551369356:=0
def tw12067625505049015792:=0
def tw435772934006443614:=0
def tw14481243573268737985:=0
def tw13158249360067154554:=0
def tw7309943357421946784:=0
def tw776699899216356647:=0
def tw8278935582100160669:=0
def tw2066510486396204405:=0
def tw6959946839447495586:=0
def tw14995878146040031468:=0
def tw3209884612333127719:=0
def tw2072190127030390484:=0
def tw11444147098284445857:=0
def tw17858532610759491523:=0
def tw16942332964587196998:=0
def tw9401350372046039888:=0
def tw15073951806805902049:=0
def tw11249750492241846874:=0
def tw14321881096297882153:=0
def tw10499230831334053654:=0
def tw11611068355743266811:=0
def tw1792879028244150130:=0
def tw8179070961849438531:=0
def tw14793990863066288303:=0
def tw9284476300327012564:=0
def tw15836029183706255369:=0
def tw12591019183914660718:=0
def tw5234123991626958662:=0
def tw16064443479790325052:=0
def tw5106451004929855809:=0
def tw9710695538197568216:=0
def tw13923866174031343744:=0
def tw17568037348984962769:=0
def tw14725974127114232847:=0
def tw245138710287473516:=0
def tw8474581784506143002:=0
def tw17659319879979678865:=0
def tw14538492942279503770:=0
def tw16932063339259640213:=0
def tw13772541993200058635:=0
def tw15230980996348547759:=0
def tw14993477694595853047:=0
def tw3855875843354174900:=0
def tw6895916002891208587:=0
def tw2699541645713740626:=0
def tw10454946788693981648:=0
def tw1702845655478002824:=0
def tw9393461782672085088:=0
def tw6009553122739366542:=0
def tw9393715493508053778:=0
def tw11421384580481978636:=0
def tw5674896322393115548:=0
def tw3515465791948798359:=0
def tw9353365076790243493:=0
def tw1975737172875170877:=0
def tw5616436636625989162:=0
def tw18082666214901544755:=0
def tw10200741699232892777:=0
def tw16533758695997910826:=0
def tw5946569587672072688:=0
def tw3989531585832942844:=0
def tw4401530007048859268:=0
def tw6578364078056419212:=0
def tw1626918442600270518:=0
def tw3627344521850398807:=0
def tw12608590278454415534:=0
def tw4342307264309144294:=0
def tw7330862870028630903:=0
def tw13274487886099774091:=0
def tw6995755247838098163:=0
def tw7065895880104247144:=0
def tw14249406786030712727:=0
def tw14760659363438880095:=0
def tw6841417098513035230:=0
def tw1646312648055680110:=0
def tw13340761095475256448:=0
def tw16299012987165419638:=0
def tw6630259946839667710:=0
def tw4795372764723306058:=0
def tw9564164997024666050:=0
def tw4479605671160246575:=0
def tw17998501906498339757:=0
def tw17619949490323961489:=0
end PySem.W.Fast
open PySem PySem.W PyProof.Rows
set_option maxRecDepth 100000 in
set_option maxHeartbeats 0 in
theorem PySem.Challenge.cw_momentloom_k18_whole_runs_begin_alike_holds : PySem.Challenge.rw_momentloom_k18_whole_runs_begin_alike.Holds := by
  w_on; o_law; k_head; (case hw=>w_witness2)
  k_fill
  refine My.walk (l:=JD) rfl rfl (fun w h Y=>PySem.W.kIn_of Y) ?F
  case F =>
    intro w mg fa h KX G hmg
    refine' My.all_mk KX G hmg ?a1 ?l1 ?c1 ?k1 ?a2 ?l2 ?c2 ?k2 ?a3 ?l3 ?c3 ?k3 ?a4 ?l4 ?c4 ?k4 ?a5 ?l5 ?c5 ?k5 ?a6 ?l6 ?c6 ?k6 ?a7 ?l7 ?c7 ?k7 ?a8 ?l8 ?c8 ?k8 ?a9 ?l9 ?c9 ?k9 ?a10 ?l10 ?c10 ?k10 ?a11 ?l11 ?c11 ?k11 ?a12 ?l12 ?c12 ?k12 ?a13 ?l13 ?c13 ?k13 ?a14 ?l14 ?c14 ?k14 ?a15 ?l15 ?c15 ?k15 ?a16 ?l16 ?c16 ?k16 ?a17 ?l17 ?c17 ?k17 ?a18 ?l18 ?c18 ?k18 ?a19 ?l19 ?c19 ?k19 ?a20 ?l20 ?c20 ?k20 ?a21 ?l21 ?c21 ?k21 ?a22 ?l22 ?c22 ?k22 ?a23 ?l23 ?c23 ?k23 ?a24 ?l24 ?c24 ?k24 ?a25 ?l25 ?c25 ?k25 ?a26 ?l26 ?c26 ?k26 ?a27 ?l27 ?c27 ?k27 ?a28 ?l28 ?c28 ?k28 ?a29 ?l29 ?c29 ?k29 ?a30 ?l30 ?c30 ?k30 ?a31 ?l31 ?c31 ?k31 ?a32 ?l32 ?c32 ?k32 ?a33 ?l33 ?c33 ?k33 ?a34 ?l34 ?c34 ?k34 ?a35 ?l35 ?c35 ?k35 ?a36 ?l36 ?c36 ?k36 ?aCM ?a37 ?i37 ?l37 ?c37 ?k37 ?pgCM ?hdCM ?poCM ?saCM ?mkCM ?kcCM ?nCMmachines ?aCS ?a38 ?i38 ?l38 ?c38 ?k38 ?a39 ?i39 ?l39 ?c39 ?k39 ?pgCS ?hdCS ?poCS ?saCS ?mkCS ?kcCS ?nCSboxes ?nCSqueues ?nCSdrawn ?nCSsent ?aCD ?a40 ?i40 ?l40 ?c40 ?k40 ?a41 ?i41 ?l41 ?c41 ?k41 ?a42 ?i42 ?l42 ?c42 ?k42 ?a43 ?i43 ?l43 ?c43 ?k43 ?a44 ?i44 ?l44 ?c44 ?k44 ?pgCD ?hdCD ?poCD ?saCD ?mkCD ?kcCD ?nCDmachine ?nCDhappening ?nCDstate ?nCDwritten ?nCDoutgoing ?nCDends ?nCDreckoned ?nCDqueued ?aCB ?a45 ?i45 ?l45 ?c45 ?k45 ?pgCB ?hdCB ?poCB ?saCB ?mkCB ?kcCB ?nCBrecords ?nCBending ?nCBstates ?aCC ?a46 ?i46 ?l46 ?c46 ?k46 ?a47 ?i47 ?l47 ?c47 ?k47 ?a48 ?i48 ?l48 ?c48 ?k48 ?pgCC ?hdCC ?poCC ?saCC ?mkCC ?kcCC ?nCCmodel ?nCCstates ?nCCpending ?nCCreached ?nCCstopped ?aCN ?xCN ?aCG ?xCG ?aCU ?xCU ?aCY ?xCY ?aCP ?xCP ?aCL ?xCL ?aCF ?xCF ?enn ?egn ?egg ?hcn ?hck ?xfCN ?gaCN ?ghCN ?gcCN ?obCN ?beCN ?a100 ?i100 ?l100 ?c100 ?k100 ?xfCG ?gaCG ?ghCG ?gcCG ?obCG ?beCG ?a101 ?i101 ?l101 ?c101 ?k101 ?xfCU ?gaCU ?ghCU ?gcCU ?obCU ?beCU ?a102 ?i102 ?l102 ?c102 ?k102 ?xfCY ?gaCY ?ghCY ?gcCY ?obCY ?beCY ?a103 ?i103 ?l103 ?c103 ?k103 ?xfCP ?gaCP ?ghCP ?gcCP ?obCP ?beCP ?a104 ?i104 ?l104 ?c104 ?k104 ?xfCL ?gaCL ?ghCL ?gcCL ?obCL ?beCL ?a105 ?i105 ?l105 ?c105 ?k105 ?zlen ?zabs ?zisinstance ?zlist ?ztuple ?zstr ?zint ?zbool ?zrange ?zmax ?zdict ?zsorted ?zenumerate
    (case a1=>k_is)
    (case l1=>k_is)
    (case c1=>k_is)
    (case k1=>k_is)
    (case a2=>k_is)
    (case l2=>k_is)
    (case c2=>k_is)
    (case k2=>k_is)
    (case a3=>k_is)
    (case l3=>k_is)
    (case c3=>k_is)
    (case k3=>k_is)
    (case a4=>k_is)
    (case l4=>k_is)
    (case c4=>k_is)
    (case k4=>k_is)
    (case a5=>k_is)
    (case l5=>k_is)
    (case c5=>k_is)
    (case k5=>k_is)
    (case a6=>k_is)
    (case l6=>k_is)
    (case c6=>k_is)
    (case k6=>k_is)
    (case a7=>k_is)
    (case l7=>k_is)
    (case c7=>k_is)
    (case k7=>k_is)
    (case a8=>k_is)
    (case l8=>k_is)
    (case c8=>k_is)
    (case k8=>k_is)
    (case a9=>k_is)
    (case l9=>k_is)
    (case c9=>k_is)
    (case k9=>k_is)
    (case a10=>k_is)
    (case l10=>k_is)
    (case c10=>k_is)
    (case k10=>k_is)
    (case a11=>k_is)
    (case l11=>k_is)
    (case c11=>k_is)
    (case k11=>k_is)
    (case a12=>k_is)
    (case l12=>k_is)
    (case c12=>k_is)
    (case k12=>k_is)
    (case a13=>k_is)
    (case l13=>k_is)
    (case c13=>k_is)
    (case k13=>k_is)
    (case a14=>k_is)
    (case l14=>k_is)
    (case c14=>k_is)
    (case k14=>k_is)
    (case a15=>k_is)
    (case l15=>k_is)
    (case c15=>k_is)
    (case k15=>k_is)
    (case a16=>k_is)
    (case l16=>k_is)
    (case c16=>k_is)
    (case k16=>k_is)
    (case a17=>k_is)
    (case l17=>k_is)
    (case c17=>k_is)
    (case k17=>k_is)
    (case a18=>k_is)
    (case l18=>k_is)
    (case c18=>k_is)
    (case k18=>k_is)
    (case a19=>k_is)
    (case l19=>k_is)
    (case c19=>k_is)
    (case k19=>k_is)
    (case a20=>k_is)
    (case l20=>k_is)
    (case c20=>k_is)
    (case k20=>k_is)
    (case a21=>k_is)
    (case l21=>k_is)
    (case c21=>k_is)
    (case k21=>k_is)
    (case a22=>k_is)
    (case l22=>k_is)
    (case c22=>k_is)
    (case k22=>k_is)
    (case a23=>k_is)
    (case l23=>k_is)
    (case c23=>k_is)
    (case k23=>k_is)
    (case a24=>k_is)
    (case l24=>k_is)
    (case c24=>k_is)
    (case k24=>k_is)
    (case a25=>k_is)
    (case l25=>k_is)
    (case c25=>k_is)
    (case k25=>k_is)
    (case a26=>k_is)
    (case l26=>k_is)
    (case c26=>k_is)
    (case k26=>k_is)
    (case a27=>k_is)
    (case l27=>k_is)
    (case c27=>k_is)
    (case k27=>k_is)
    (case a28=>k_is)
    (case l28=>k_is)
    (case c28=>k_is)
    (case k28=>k_is)
    (case a29=>k_is)
    (case l29=>k_is)
    (case c29=>k_is)
    (case k29=>k_is)
    (case a30=>k_is)
    (case l30=>k_is)
    (case c30=>k_is)
    (case k30=>k_is)
    (case a31=>k_is)
    (case l31=>k_is)
    (case c31=>k_is)
    (case k31=>k_is)
    (case a32=>k_is)
    (case l32=>k_is)
    (case c32=>k_is)
    (case k32=>k_is)
    (case a33=>k_is)
    (case l33=>k_is)
    (case c33=>k_is)
    (case k33=>k_is)
    (case a34=>k_is)
    (case l34=>k_is)
    (case c34=>k_is)
    (case k34=>k_is)
    (case a35=>k_is)
    (case l35=>k_is)
    (case c35=>k_is)
    (case k35=>k_is)
    (case a36=>k_is)
    (case l36=>k_is)
    (case c36=>k_is)
    (case k36=>k_is)
    (case aCM=>k_is)
    (case a37=>k_is)
    (case i37=>k_is)
    (case l37=>k_is)
    (case c37=>k_is)
    (case k37=>k_is)
    (case pgCM=>k_is)
    (case hdCM=>k_is)
    (case poCM=>k_is)
    (case saCM=>k_is)
    (case mkCM=>k_is)
    (case kcCM=>k_is)
    (case nCMmachines=>k_is)
    (case aCS=>k_is)
    (case a38=>k_is)
    (case i38=>k_is)
    (case l38=>k_is)
    (case c38=>k_is)
    (case k38=>k_is)
    (case a39=>k_is)
    (case i39=>k_is)
    (case l39=>k_is)
    (case c39=>k_is)
    (case k39=>k_is)
    (case pgCS=>k_is)
    (case hdCS=>k_is)
    (case poCS=>k_is)
    (case saCS=>k_is)
    (case mkCS=>k_is)
    (case kcCS=>k_is)
    (case nCSboxes=>k_is)
    (case nCSqueues=>k_is)
    (case nCSdrawn=>k_is)
    (case nCSsent=>k_is)
    (case aCD=>k_is)
    (case a40=>k_is)
    (case i40=>k_is)
    (case l40=>k_is)
    (case c40=>k_is)
    (case k40=>k_is)
    (case a41=>k_is)
    (case i41=>k_is)
    (case l41=>k_is)
    (case c41=>k_is)
    (case k41=>k_is)
    (case a42=>k_is)
    (case i42=>k_is)
    (case l42=>k_is)
    (case c42=>k_is)
    (case k42=>k_is)
    (case a43=>k_is)
    (case i43=>k_is)
    (case l43=>k_is)
    (case c43=>k_is)
    (case k43=>k_is)
    (case a44=>k_is)
    (case i44=>k_is)
    (case l44=>k_is)
    (case c44=>k_is)
    (case k44=>k_is)
    (case pgCD=>k_is)
    (case hdCD=>k_is)
    (case poCD=>k_is)
    (case saCD=>k_is)
    (case mkCD=>k_is)
    (case kcCD=>k_is)
    (case nCDmachine=>k_is)
    (case nCDhappening=>k_is)
    (case nCDstate=>k_is)
    (case nCDwritten=>k_is)
    (case nCDoutgoing=>k_is)
    (case nCDends=>k_is)
    (case nCDreckoned=>k_is)
    (case nCDqueued=>k_is)
    (case aCB=>k_is)
    (case a45=>k_is)
    (case i45=>k_is)
    (case l45=>k_is)
    (case c45=>k_is)
    (case k45=>k_is)
    (case pgCB=>k_is)
    (case hdCB=>k_is)
    (case poCB=>k_is)
    (case saCB=>k_is)
    (case mkCB=>k_is)
    (case kcCB=>k_is)
    (case nCBrecords=>k_is)
    (case nCBending=>k_is)
    (case nCBstates=>k_is)
    (case aCC=>k_is)
    (case a46=>k_is)
    (case i46=>k_is)
    (case l46=>k_is)
    (case c46=>k_is)
    (case k46=>k_is)
    (case a47=>k_is)
    (case i47=>k_is)
    (case l47=>k_is)
    (case c47=>k_is)
    (case k47=>k_is)
    (case a48=>k_is)
    (case i48=>k_is)
    (case l48=>k_is)
    (case c48=>k_is)
    (case k48=>k_is)
    (case pgCC=>k_is)
    (case hdCC=>k_is)
    (case poCC=>k_is)
    (case saCC=>k_is)
    (case mkCC=>k_is)
    (case kcCC=>k_is)
    (case nCCmodel=>k_is)
    (case nCCstates=>k_is)
    (case nCCpending=>k_is)
    (case nCCreached=>k_is)
    (case nCCstopped=>k_is)
    (case aCN=>k_is)
    (case xCN=>k_exc)
    (case aCG=>k_is)
    (case xCG=>k_exc)
    (case aCU=>k_is)
    (case xCU=>k_exc)
    (case aCY=>k_is)
    (case xCY=>k_exc)
    (case aCP=>k_is)
    (case xCP=>k_exc)
    (case aCL=>k_is)
    (case xCL=>k_exc)
    (case aCF=>k_is)
    (case xCF=>k_exc)
    (case enn=>kts_exm)
    (case egn=>kts_exm)
    (case egg=>kts_exm)
    (case hcn=>k_is)
    (case hck=>k_is)
    (case xfCN=>kts_exm)
    (case gaCN=>k_is)
    (case ghCN=>k_is)
    (case gcCN=>k_is)
    (case obCN=>k_is)
    (case beCN=>k_is)
    (case a100=>k_is)
    (case i100=>k_is)
    (case l100=>k_is)
    (case c100=>k_is)
    (case k100=>k_is)
    (case xfCG=>kts_exm)
    (case gaCG=>k_is)
    (case ghCG=>k_is)
    (case gcCG=>k_is)
    (case obCG=>k_is)
    (case beCG=>k_is)
    (case a101=>k_is)
    (case i101=>k_is)
    (case l101=>k_is)
    (case c101=>k_is)
    (case k101=>k_is)
    (case xfCU=>kts_exm)
    (case gaCU=>k_is)
    (case ghCU=>k_is)
    (case gcCU=>k_is)
    (case obCU=>k_is)
    (case beCU=>k_is)
    (case a102=>k_is)
    (case i102=>k_is)
    (case l102=>k_is)
    (case c102=>k_is)
    (case k102=>k_is)
    (case xfCY=>kts_exm)
    (case gaCY=>k_is)
    (case ghCY=>k_is)
    (case gcCY=>k_is)
    (case obCY=>k_is)
    (case beCY=>k_is)
    (case a103=>k_is)
    (case i103=>k_is)
    (case l103=>k_is)
    (case c103=>k_is)
    (case k103=>k_is)
    (case xfCP=>kts_exm)
    (case gaCP=>k_is)
    (case ghCP=>k_is)
    (case gcCP=>k_is)
    (case obCP=>k_is)
    (case beCP=>k_is)
    (case a104=>k_is)
    (case i104=>k_is)
    (case l104=>k_is)
    (case c104=>k_is)
    (case k104=>k_is)
    (case xfCL=>kts_exm)
    (case gaCL=>k_is)
    (case ghCL=>k_is)
    (case gcCL=>k_is)
    (case obCL=>k_is)
    (case beCL=>k_is)
    (case a105=>k_is)
    (case i105=>k_is)
    (case l105=>k_is)
    (case c105=>k_is)
    (case k105=>k_is)
    (case zlen=>k_is)
    (case zabs=>k_is)
    (case zisinstance=>k_is)
    (case zlist=>k_is)
    (case ztuple=>k_is)
    (case zstr=>k_is)
    (case zint=>k_is)
    (case zbool=>k_is)
    (case zrange=>k_is)
    (case zmax=>k_is)
    (case zdict=>k_is)
    (case zsorted=>k_is)
    (case zenumerate=>k_is)

