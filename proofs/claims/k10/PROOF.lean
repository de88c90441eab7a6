import PyProof.Rows.All
import Wide.All
import OpenK.AllK
import Wide.FinOn
import Lean
import PyProof.EqAt
import PyProof.EqKinds
import PyProof.TupleCall
import KE.KDictOf
import PyProof.AttrMissSeq
import PyProof.DictCopy
import PyProof.NeKinds
import KE.KDictSum
import PyProof.Rows.SortStr
import PyProof.Rows.SortWalk
import PyProof.ExcArgsOwn
import PyProof.NsDelKeeps
import PyProof.DictWalks
import PyProof.MinMaxWalk
import PyProof.MeetsDictList
import PyProof.DictFindH
import PyProof.DictTruth
import KE.KRevSl
import PyProof.DictItems
import PyProof.EnumMake
import PyProof.EnumFor
import PyProof.EnumStmt
import PyProof.Rows.EnumRows
import PyProof.Rows.SortRev
import PyProof.StrBlockI
import PyProof.SliceStr2
import PyProof.DictIter
import PySem.Challenge.RW_momentloom_k10_happenings_done
open List renaming mem_cons_of_mem->aa,length_map->ai,length_append->ay,mem_cons->az,mem_cons_self->aA,getElem?_eq_some_iff->aL,mem_singleton->aQ,map_append->aV,size_toArray->bg,mem_append_right->bK,lookup_cons_self->bQ,length_cons->bX,not_mem_nil->bY,mem_of_getElem?->cy,getElem?_eq_getElem->cC,mem_append->cE,mem_map->cG,nodup_cons->cI,lookup_cons->cL,take_length->cM,length_take->cT,replicate->cV,getElem?_of_mem->dh,append_nil->dj,getElem?_map->dk,mem_append_left->dC,map_cons->dN,length_filter_le->ei,nodup_append->ez,take_zero->eK,getElem?_append_right->e9,take_add_one->ff,getElem?_set_self->fV,getElem?_append_left->gA,length->gF,take_sublist->gG,reverse_nil->iK,length_reverse->iM,find?_cons->jg,length_nil->jh,reverse_cons->jr,length_replicate->jL,any_cons->jT,getElem?_set_ne->jW,lookup->jX,map_congr_left->km,getElem?_replicate->lU,getElem_mem->lV,nodup_nil->nU,filterMap_cons->oj,map_take->oG,mem_filterMap->oO,map_map->pO,append_assoc->pP,eraseIdxIfInBounds_toArray->pT,cons_append->qi,mem_filter->rB,of_mem_zip->rC,drop_eq_getElem_cons->tZ,all_cons->uv,sum_cons->ux,map_nil->vF,length_singleton->vY,getElem?_eq_none->wF,contains_iff_mem->wL,length_pos_iff->yJ,pairwise_map->z9,length_drop->AZ,drop_length->A4,length_set->Bm
open PySem renaming Addr->ae,Value->af,Shared->ax,sizeLine->aE,wpAny_bind->aF,mainGlobals->aH,Program->aX,Paired->bJ,wpAny->b8,wpAny_pure->cg,model->cm,boot_len->cw,World->cz,FuncData->cH,Around->cO,Heap->cR,starEach->cW,Expr->cZ,Stmt->dU,sysModules->eB,bootBuiltins->eI,wpAny_mono->fh,mem_of_lookup->fJ,compareOp->fX,eval->gj,cLine->gp,wpAny_loadPart'->gQ,wpAny_truthy_bool->gR,wpAny_holding->gT,wpAny_passesOwn->iz,binaryOp->iA,behindInMarks->jq,wpAny_Call_Name_kw->js,backTo->jP,NameKind->jS,assignEach->j9,valueAt->kz,sliceBounds->kB,wpAny_execs_nil->kT,Scope->lA,call_meetsIn->lD,wpAny_richCompare_same_room->lF,foldedSetIterable->mr,wpAny_dictEntries->mw,attributeBase->mK,getMethod->nC,codeAny->nX,codeAny_mono->nY,letOwnedTupleGo->om,rawInt->oV,unbindBehindTheSuite->pf,holding->pI,Builtin->pN,ExceptHandler->p9,wpAny_call->qD,tupleKind_room_in1->qH,getItem->rJ,slot_list_getitem->rK,callerA->rN,tupleKind->tj,swapsWith->tH,assign->tI,sizeLine_eq->uk,keywordEach->uo,subscripted->uu,wpAny_field->uw,Within->uA,standAt->vy,BindsTo->vB,leaving->vD,wpAny_loadPart->vP,call_meets->vX,atKey->wc,wpAny_setField->wx,evalArgs_none->xi,wpAny_standAt->yg,evalPart_none->yp,wpAny_getItem_list_slice->yq,call->yy,bindL->y9,bindC->za,wpAny_Call_method0_late->zc,noteFrame->zd,isTrue->zi,seqIndex_neg->zB,wpAny_isTrue_Compare1->AY,Model->A7,call->A9,Operator->Ba,backToKw->Bg,seqIndex_of->Bj,isSubtype_dict_dict->CI,builtinsNs->De,wpAny_Name->Di,Result->Dw,typeLookup->Dy,typeIs_str->DG,CmpOp->EY,wpAny_assign_Name->EZ,Keyword->E1,wpAny_newObj_type->E3,MeetsIn->E5
open PySem.W renaming Frag->aj,kitOne->aq,keepIn->aC,findIn->aD,codeIn->aG,nsIn->aI,fnOf->aK,mg_of->df,exmOne->dy,mroIn->dE,excIn->dI,mg_none_of->dM,isFn->dW,kia_one->eG,emptyDict->eY,instObj->gm,looks_findIn->gr,plainGet->gL,hasDictIn->hZ,InstAt->ji,plainOver->jj,makesIn->jR,callWith_K->ka,specialIn->kM,hideAll->lS,takesIn->lT,methodCall_KW->md,lookIn->mI,plainGet_of->nA,methodObj->oo,takerIn->pR,OpenLaw->pU,clsIn->rP,cellsFrom_some->tK,hideAll_get->vx,callWith_K0->vC,of_hideAll->vH,kitx_list->xf,kitx_dict->xg,handedIn->ym,findObj->ze,exm_one->zg,typeIn->zw,notCls->zN,WalkO->A2
open Nat renaming le_refl->aS,lt_of_lt_of_le->bP,zero_le->bV,ne_of_lt->cA,le_trans->cU,lt_irrefl->ij,add_le_add_left->iO,lt_of_le_of_lt->jm,le_of_lt->kA,le_succ->lI,lt_succ_self->lZ,succ_pos->mX,ne_of_gt->vJ,lt_of_succ_lt_succ->wA,mul_le_mul_right->yU,add_sub_cancel->zK,lt_succ_of_lt->A1,le_add_right->BM,not_lt_zero->CJ
open PySem.Heap renaming get?_push_of_some->aU,lt_size->bO,get?_push_size->cQ,get?_update_other->fb,get?_update_self->m6,SameBut->pH,size_push->rY,MadeExcOf->Cz
open PySem.F renaming plainAttrs_list->aW,slot_list_append->bA,type_list_append->bB,plainAttrs_dict->iX,slot_dict_copy->lN,slot_list_pop->mh,type_list_pop->mi,args_tuple_add_2->rH,entry_tuple_add->sD,slot_dict_clear->sL,slot_dict_items->sO,slot_tuple_add->tL,type_dict_copy->uc
open PySem.Paired renaming length->bL,snoc->dB
open Bool renaming false_ne_true->bU,and_eq_true->gf,eq_iff_iff->mH,and_eq_true_iff->nP,or_eq_false_iff->xV,noConfusion->A0
open PySem.PassesOwn renaming never->cj
open False renaming elim->dX
open Ne renaming symm->eS
open PySem.Builtin.Int renaming intBits->eU
open Option.some renaming inj->eW
open Int renaming emod_lt_of_pos->gk,emod_nonneg->ie,toNat_natCast->A5,natCast_emod->BJ
open PySem.Builtin.Dict renaming dictSlotArgs->ic,notOrdered->pV,samePairs->qc
open Array renaming length_toList->j6,getElem?_eq_some_iff->kC,getElem?_toList->vE,toList->Dk
open PySem.W.WData renaming weight->kg,weightAll->qO
open PySem.Txt renaming slice->kN
open PySem.Calls renaming callWith_builtin->me,Name_function_global->rG,evalArgs_plain->vV
open PyProof.Rows renaming AllBare->mn,callWith_type1->oy,envOfC->o5,subscriptTail->p4,Subscript_->vT,subscriptTail_builtinR->zC,IntsAre->zF
open Sum.inr renaming inj->mB
open Function renaming comp->nI
open Option renaming isSome_map->oP,getD_none->zb,bind_some->zf
open PySem.Obj renaming mapFields->oQ,mapSeq->o6,data_mapFields->o8,isFreed_of_fields->xl
open PySem.Builtin.List renaming listTooLong->pL
open PySem.Heap.IsSliceOf renaming new->rD
open PyProof renaming noPylong_of_log2->rO
open List.Pairwise renaming imp->sS
open PySem.EntryCells renaming newEntry->tP
open PySem.SeqAt.EqAt renaming int_str->uh,str_int->uj
open PySem.Around renaming under->um,under_plainId->vG
open PySem.Str renaming empty->vz
open PySem.Code renaming isFrame->vA
open PySem.Builtin.ObjectAttr renaming bindTo->A3
open PySem.Value renaming isStrOf->Cs,isInt->EX
open Std.Legacy.Range renaming forIn_eq_forIn_range'->CC,size->CH
open PySem.Challenge renaming rw_momentloom_k10_happenings_done->EW
open PySem.W.WShape renaming has->E2
open PySem.Heap.UpToSlots renaming of_keeps->E4
-- CHANGE: your row's module here, as the last of these rows
set_option Elab.async false
set_option linter.all false
set_option maxRecDepth 100000
namespace L2
open PySem PySem.Spec PyProof.Rows
abbrev Key:=Sum Int Str
def rT:Key->af->Bool
  | .inl k,v=>EX k v
  | .inr x,v=>Cs x v
def keyH (w:cz):Key->Int
  | .inl k=>hashInt k
  | .inr x=>hashStr w x
theorem fK:∀ {k:Key} {v:af},rT k v=true->(∃ i t,k=Sum.inl i/\v=Value.int i t)\/(∃ x t,k=Sum.inr x/\v=Value.str x t)
  | .inl i,v,h=>by
    obtain ⟨t,e⟩:=Value.isInt_shape (k:=i) (v:=v) h
    exact .inl ⟨i,t,rfl,e⟩
  | .inr x,v,h=>by
    obtain ⟨t,e⟩:=Value.isStrOf_shape (x:=x) (v:=v) h
    exact .inr ⟨x,t,rfl,e⟩
theorem yd (i:Int) (t:Tok):rT (.inl i) (.int i t)=true:=by simp [rT,EX]
theorem ye (x:Str) (t:Tok):rT (.inr x) (.str x t)=true:=by simp [rT,Cs]
theorem C8 (a b:Int):decide ((Sum.inl a:Key)=Sum.inl b)=(a == b):=by
  by_cases e:a=b
  · subst e; simp
  · have h:¬ (Sum.inl a:Key)=Sum.inl b:=fun q=>e (Sum.inl.inj q)
    rw [decide_eq_false h]
    exact (beq_eq_false_iff_ne.mpr e).symm
theorem C9 (a b:Str):decide ((Sum.inr a:Key)=Sum.inr b)=decide (a=b):=by
  by_cases e:a=b
  · subst e; simp
  · have h:¬ (Sum.inr a:Key)=Sum.inr b:=fun q=>e (mB q)
    rw [decide_eq_false h,decide_eq_false e]
theorem Da (a:Int) (b:Str):decide ((Sum.inl a:Key)=Sum.inr b)=false:=decide_eq_false (fun q=>nomatch q)
theorem Dc (a:Str) (b:Int):decide ((Sum.inr a:Key)=Sum.inl b)=false:=decide_eq_false (fun q=>nomatch q)
def fg (prog:aX) (w:cz):PySem.KeyKind prog w Key where
  is:=rT
  hash:=keyH w
  inj:=fun v a b ha hb=>by
    rcases fK ha with ⟨i,t,rfl,rfl⟩ | ⟨x,t,rfl,rfl⟩
    · rcases fK hb with ⟨j,u,rfl,e⟩ | ⟨y,u,rfl,e⟩
      · injection e with e1 _; rw [e1]
      · exact nomatch e
    · rcases fK hb with ⟨j,u,rfl,e⟩ | ⟨y,u,rfl,e⟩
      · exact nomatch e
      · injection e with e1 _; rw [e1]
  byValue:=fun k v h=>by
    rcases fK h with ⟨i,t,rfl,rfl⟩ | ⟨x,t,rfl,rfl⟩ <;> rfl
  pyHash:=fun hv h=>by
    rcases fK hv with ⟨i,t,rfl,rfl⟩ | ⟨x,t,rfl,rfl⟩
    · exact wpAny_pyHash_int h
    · exact wpAny_pyHash_str h
  eqBool:=fun hu hv h=>by
    rcases fK hu with ⟨i,t,rfl,rfl⟩ | ⟨x,t,rfl,rfl⟩
    · rcases fK hv with ⟨j,u,rfl,rfl⟩ | ⟨y,u,rfl,rfl⟩
      · rw [C8] at h; exact wpAny_eqBool_int h
      · rw [Da] at h; exact uh i t y u _ _ _ _ h
    · rcases fK hv with ⟨j,u,rfl,rfl⟩ | ⟨y,u,rfl,rfl⟩
      · rw [Dc] at h; exact uj x t j u _ _ _ _ h
      · rw [C9] at h; exact wpAny_eqBool_str h
  «strs»:=fun k x t v h=>by
    rcases fK h with ⟨i,u,rfl,e⟩ | ⟨y,u,rfl,e⟩
    · exact nomatch e
    · injection e with e1 _
      subst e1
      cases v <;> rfl
theorem uy (prog:aX) (w:cz) (i:Int) (t:Tok):(fg prog w).is (.inl i) (.int i t)=true:=yd i t
theorem uz (prog:aX) (w:cz) (x:Str) (t:Tok):(fg prog w).is (.inr x) (.str x t)=true:=ye x t
end L2
namespace L2
open PySem PySem.Spec PyProof.Rows
inductive V where
  | non | bl (b:Bool) | int (i:Int) | str (x:Str) | byt (b:Array UInt8) | flt (b:UInt64) | ref (a:ae) | ty (n:String)
  deriving DecidableEq
def RelV:V->af->Prop
  | .non,u=>u=Value.none
  | .bl b,u=>u=Value.bool b
  | .int i,u=>∃ t,u=Value.int i t
  | .str x,u=>∃ t,u=Value.str x t
  | .byt b,u=>∃ t,u=Value.bytes b t
  | .flt b,u=>∃ t,u=Value.float b t
  | .ref a,u=>u=Value.ref a
  | .ty n,u=>u=Value.type n
abbrev dQ:List V->List af->Prop:=bJ RelV
theorem dQ.length {xs:List V} {us:List af} (r:dQ xs us):xs.length=us.length:=bL r
theorem dQ.get:∀ {xs:List V} {us:List af} {i:Nat} {x:V},dQ xs us->xs[i]?=some x->∃ u,us[i]?=some u/\RelV x u
  | _,_,_,_,.nil,e=>by simp at e
  | _,_,0,_,.cons r _,e=>by simp at e; subst e; exact ⟨_,rfl,r⟩
  | _,_,i + 1,x,.cons _ t,e=>by
    obtain ⟨u,h1,h2⟩:=dQ.get (i:=i) (x:=x) t (by simpa using e)
    exact ⟨u,by simpa using h1,h2⟩
theorem dQ.set {x:V} {u:af} (r:RelV x u):∀ {xs:List V} {us:List af} (i:Nat),dQ xs us->dQ (xs.set i x) (us.set i u)
  | _,_,_,.nil=>.nil
  | _,_,0,.cons _ t=>.cons r t
  | _,_,i + 1,.cons q t=>.cons q (dQ.set r i t)
theorem dQ.append:∀ {xs ys:List V} {us ws:List af},dQ xs us->dQ ys ws->dQ (xs++ys) (us++ws):=by
  intro xs ys us ws p q
  induction p with
  | nil=>exact q
  | cons r t ih=>exact .cons r ih
theorem dQ.take:∀ {xs:List V} {us:List af} (n:Nat),dQ xs us->dQ (xs.take n) (us.take n)
  | _,_,0,_=>.nil
  | _,_,_ + 1,.nil=>.nil
  | _,_,n + 1,.cons r t=>.cons r (dQ.take n t)
theorem dQ.drop:∀ {xs:List V} {us:List af} (n:Nat),dQ xs us->dQ (xs.drop n) (us.drop n)
  | _,_,0,r=>r
  | _,_,_ + 1,.nil=>.nil
  | _,_,n + 1,.cons _ t=>dQ.drop n t
def ny:Option V->Option af->Prop
  | some v,some u=>RelV v u
  | none,none=>True
  | _,_=>False
def KV {κ:Type}:List (κ×V)->List (κ×af)->Prop:=bJ fun (p:κ×V) (q:κ×af)=>p.1=q.1/\RelV p.2 q.2
def kV:Key->V
  | .inl i=>.int i
  | .inr x=>.str x
set_option genSizeOf false
set_option genInjectivity false
inductive HO where
  /-- a list -/
  | lst (xs:List V)
  /-- a tuple (never changes) -/
  | tup (xs:List V)
  /-- a dict whose keys are ints and texts; one whose keys are tuples of ints and texts (the empty one is both) -/
  | dK (kvs:List (Key×V)) | dT (kvs:List (List Key×V))
  /-- a set of ints: its members, its size -/
  | set (S:Int->Bool) (n:Nat)
  /-- an instance of the class at C, its dict at dx, its attributes -/
  | ins (C dx:ae) (fs:List (Str×V))
  /-- the dict of the instance at x -/
  | own (x:ae)
  /-- the dict of an exception -/
  | xd (fs:List (Str×V))
  /-- a bound method, f of x -/
  | met (f x:ae)
  /-- a range object lo, lo + 1, .. below hi -/
  | rng (lo hi:Int)
  /-- a thing that is known to the object (the script; a dict while a loop walks it): read, never written while it is so -/
  | frz (o:Obj) (u:HO)
  /-- a code object's table -/
  | tbl (ps:Array af)
  /-- any other thing, by what is true of its one object (a def of one's own: SetO a S n := HO.ext fun h => ..) -/
  | ext (φ:cR->Prop)
abbrev Hp:=ae->Option HO
def upd (H:Hp) (a:ae) (o:HO):Hp:=fun b=>if b=a then some o else H b
theorem ao {H:Hp} {a:ae} {o:HO}:upd H a o a=some o:=by unfold upd; rw [if_pos rfl]
theorem aY {H:Hp} {a b:ae} {o:HO} (h:b≠a):upd H a o b=H b:=by unfold upd; rw [if_neg h]
theorem w5 {H:Hp} {a:ae} {o u:HO}:upd (upd H a o) a u=upd H a u:=by
  funext b; unfold upd; split <;> rfl
theorem gJ {H:Hp} {a b:ae} {o u:HO} (h:H a=some o) (h':H b=some u) (d:o≠u):a≠b:=by
  intro e; subst e; rw [h] at h'; exact d (eW h')
theorem aJ {H:Hp} {a b:ae} {o:HO} (h:H a=some o) (h':H b=none):a≠b:=by
  intro e; subst e; rw [h] at h'; cases h'
section
variable (P:aX) (w:cz)
def eP (H:Hp) (h:cR) (a:ae):HO->Prop
  | .lst xs=>xs.length<=aE/\∃ (its:List af) (n:Nat),dQ xs its/\h.get? a=some {cls:=.type "list",data:=.seq its.toArray n}
  | .tup xs=>xs.length<=aE/\∃ its:List af,dQ xs its/\IsTup h a its.toArray
  | .dK kvs=>kvs.length<=aE/\(a == eB)=false/\∃ vs,KV kvs vs/\h.DictOf (fg P w) a vs
  | .dT kvs=>kvs.length<=aE/\(a == eB)=false/\∃ xs:List (List Key×ae×af),
      bJ (fun (p:List Key×V) (q:List Key×ae×af)=>p.1=q.1/\H q.2.1=some (.tup (p.1.map kV))/\RelV p.2 q.2.2) kvs xs /\
      ∃ o es ep,h.get? a=some o/\o.ExactDict/\o.data=.dict es ep/\es.toList=xs.map (entryOfKey (tj (fg P w)))/\(xs.map (·.1)).Nodup
  | .set S n=>h.SetOf (intKind P w) a S n
  | .ins C dx fs=>H dx=some (.own a)/\fs.length<=1000/\dx≠a/\h.get? a=some (gm C dx) /\
      ∃ mA,h.Ns1 dx mA/\(∀ f,ny (fs.lookup f) (mA f))/\uA mA (fs.map (·.1))
  | .own _=>∃ o,h.get? a=some o
  | .xd fs=>∃ mA,h.Ns1 a mA/\∀ f,ny (fs.lookup f) (mA f)
  | .rng lo hi=>∃ t u v,h.get? a=some {cls:=.type "range",data:=.fields #[.int lo t,.int hi u,.int 1 v]}
  | .frz o u=>h.get? a=some o/\eP H h a u
  | .tbl ps=>h.get? a=some {cls:=.none,data:=.fields ps}
  | .met f x=>h.get? a=some (oo (.ref f) (.ref x))
  | .ext φ=>φ h/\(∃ o,h.get? a=some o)/\∀ h1 h2:cR,φ h1->(∀ o,h1.get? a=some o->h2.get? a=some o)->φ h2
def HOk (H:Hp) (h:cR):Prop:=∀ a o,H a=some o->eP P w H h a o
end
section
variable {P:aX} {w:cz} {H H':Hp} {h h':cR} {a:ae} {o:HO}
theorem eP.lt (x:eP P w H h a o):a < h.objs.size:=by
  cases o with
  | lst xs=>obtain ⟨_,_,_,_,e⟩:=x; exact bO e
  | tup xs=>obtain ⟨_,_,_,p⟩:=x; exact p.lt
  | dK kvs=>obtain ⟨_,_,_,_,o,_,_,e,_⟩:=x; exact bO e
  | dT kvs=>obtain ⟨_,_,_,_,o,_,_,e,_⟩:=x; exact bO e
  | set S n=>obtain ⟨o,_,_,_,e,_⟩:=x; exact bO e
  | ins C dx fs=>obtain ⟨_,_,_,e,_⟩:=x; exact bO e
  | own y=>obtain ⟨_,e⟩:=x; exact bO e
  | xd fs=>obtain ⟨_,⟨_,_,_,e,_⟩,_⟩:=x; exact bO e
  | rng lo hi=>obtain ⟨_,_,_,e⟩:=x; exact bO e
  | frz ob u=>obtain ⟨e,_⟩:=x; exact bO e
  | tbl ps=>exact bO (show h.get? a=some _ from x)
  | met f y=>exact bO (show h.get? a=some _ from x)
  | ext φ=>obtain ⟨_,⟨_,e⟩,_⟩:=x; exact bO e
theorem Paired.mapP {α β:Type} {F G:α->β->Prop}:∀ {l₁:List α} {l₂:List β},bJ F l₁ l₂->(∀ a b,F a b->G a b)->bJ G l₁ l₂:=by
  intro l₁ l₂ p f
  induction p with
  | nil=>exact .nil
  | cons r t ih=>exact .cons (f _ _ r) ih
theorem Paired.imp' {α β:Type} {F G:α->β->Prop} (f:∀ a b,F a b->G a b) {l₁:List α} {l₂:List β} (r:bJ F l₁ l₂):bJ G l₁ l₂:=Paired.mapP r f
theorem eP.stay (x:eP P w H h a o) (k:∀ b u,(b=a\/H b=some (.own a))->h.get? b=some u->h'.get? b=some u)
    (ho:∀ b,H b=some (.own a)->H' b=some (.own a)) (ht:∀ b xs,H b=some (.tup xs)->H' b=some (.tup xs)):eP P w H' h' a o:=by
  induction o with
  | lst xs=>obtain ⟨z,its,n,r,e⟩:=x; exact ⟨z,its,n,r,k _ _ (.inl rfl) e⟩
  | tup xs=>obtain ⟨z,its,r,ob,e,c⟩:=x; exact ⟨z,its,r,ob,k _ _ (.inl rfl) e,c⟩
  | dK kvs=>obtain ⟨z,y,vs,r,ob,es,ep,e,c⟩:=x; exact ⟨z,y,vs,r,ob,es,ep,k _ _ (.inl rfl) e,c⟩
  | dT kvs =>
    obtain ⟨z,y,xs,r,ob,es,ep,e,c⟩:=x
    exact ⟨z,y,xs,Paired.mapP r fun p q z=>⟨z.1,ht _ _ z.2.1,z.2.2⟩,ob,es,ep,k _ _ (.inl rfl) e,c⟩
  | set S n=>obtain ⟨ob,es,ep,t,e,c⟩:=x; exact ⟨ob,es,ep,t,k _ _ (.inl rfl) e,c⟩
  | ins C dx fs =>
    obtain ⟨d,z,ne,e,mA,⟨od,es,ep,e2,c⟩,r⟩:=x
    exact ⟨ho _ d,z,ne,k _ _ (.inl rfl) e,mA,⟨od,es,ep,k _ _ (.inr d) e2,c⟩,r⟩
  | own y=>obtain ⟨ob,e⟩:=x; exact ⟨ob,k _ _ (.inl rfl) e⟩
  | xd fs=>obtain ⟨mA,⟨od,es,ep,e,c⟩,r⟩:=x; exact ⟨mA,⟨od,es,ep,k _ _ (.inl rfl) e,c⟩,r⟩
  | rng lo hi=>obtain ⟨t,u,v,e⟩:=x; exact ⟨t,u,v,k _ _ (.inl rfl) e⟩
  | frz ob u ih=>obtain ⟨e,q⟩:=x; exact ⟨k _ _ (.inl rfl) e,ih q⟩
  | tbl ps =>
    have e:h.get? a=some {cls:=.none,data:=.fields ps}:=x
    show h'.get? a=some {cls:=.none,data:=.fields ps}
    exact k a _ (.inl rfl) e
  | met f y =>
    have e:h.get? a=some (oo (.ref f) (.ref y)):=x
    show h'.get? a=some (oo (.ref f) (.ref y))
    exact k a _ (.inl rfl) e
  | ext φ=>obtain ⟨p,⟨o,e⟩,st⟩:=x; exact ⟨st _ _ p fun o q=>k _ _ (.inl rfl) q,⟨o,k _ _ (.inl rfl) e⟩,st⟩
theorem HOk.lt (x:HOk P w H h) (e:H a=some o):a < h.objs.size:=(x a o e).lt
theorem HOk.fresh (x:HOk P w H h) (e:h.objs.size<=a):H a=none:=by
  cases q:H a with
  | none=>rfl
  | some u=>exact absurd (bP (x.lt q) e) (ij _)
theorem HOk.kept (x:HOk P w H h) (k:∀ b u,h.get? b=some u->h'.get? b=some u):HOk P w H h':=fun a o e =>
  (x a o e).stay (fun b u _ q=>k b u q) (fun _ q=>q) fun _ _ q=>q
theorem HOk.laid (x:HOk P w H h) (k:∀ b u,h.get? b=some u->h'.get? b=some u) (hp:h.objs.size<=a) (new:eP P w (upd H a o) h' a o):HOk P w (upd H a o) h':=fun b u e=>by
  have hn:=x.fresh hp
  by_cases hb:b=a
  · subst hb; rw [ao] at e; cases e; exact new
  · rw [aY hb] at e
    exact (x b u e).stay (fun c v _ q=>k c v q) (fun c q=>by rw [aY (aJ q hn)]; exact q) fun c xs q=>by rw [aY (aJ q hn)]; exact q
end
def Rd (H:Hp) (a:ae) (u:HO):Prop:=H a=some u\/∃ o,H a=some (.frz o u)
theorem Rd.ok {P:aX} {w:cz} {H:Hp} {h:cR} {a:ae} {u:HO} (r:Rd H a u) (x:HOk P w H h):eP P w H h a u:=by
  rcases r with r | ⟨o,r⟩
  · exact x a u r
  · obtain ⟨_,q⟩:=x a _ r
    exact q
def Mut:Option HO->Prop
  | some (.lst _)=>True
  | some (.dK _)=>True
  | some (.dT _)=>True
  | some (.set _ _)=>True
  | some (.ins _ _ _)=>True
  | some (.ext _)=>True
  | _=>False
section
variable {P:aX} {w:cz} {H:Hp} {h h':cR} {x e:ae} {o':HO}
theorem HOk.write (ok:HOk P w H h) (mu:Mut (H x)) (he:e=x\/H e=some (.own x)) (k:∀ b u,b≠e->h.get? b=some u->h'.get? b=some u) (heo:∃ u,h'.get? e=some u)
    (new:eP P w (upd H x o') h' x o'):HOk P w (upd H x o') h':=fun b u q=>by
  have nown:∀ c y,H c=some (.own y)->c≠x:=fun c y r z=>by subst z; rw [r] at mu; exact mu
  have ntup:∀ c xs,H c=some (.tup xs)->c≠x:=fun c xs r z=>by subst z; rw [r] at mu; exact mu
  by_cases hb:b=x
  · subst hb; rw [ao] at q; cases q; exact new
  · rw [aY hb] at q
    by_cases hbe:b=e
    · have q':H b=some (.own x):=by
        rcases he with z | z
        · exact absurd (hbe.trans z) hb
        · rw [hbe]; exact z
      rw [q] at q'; cases q'
      obtain ⟨v,hv⟩:=heo
      exact ⟨v,by rw [hbe]; exact hv⟩
    · refine (ok b u q).stay (fun c v hc r=>k c v ?_ r) (fun c r=>by rw [aY (nown c b r)]; exact r) fun c xs r=>by rw [aY (ntup c xs r)]; exact r
      rcases hc with rfl | hc
      · exact hbe
      · rintro rfl
        rcases he with z | z
        · exact nown c b hc z
        · rw [hc] at z; cases z; exact hb rfl
end
structure Un (fs ex:List ae) (H H':Hp) (h h':cR):Prop where
  keep:∀ b o,h.get? b=some o->H b=none->b∉fs->b∉ex->h'.get? b=some o
  slot:∀ b o,h.get? b=some o->H b=none->b∈fs->b∉ex->∃ sl,h'.get? b=some {o with slots:=sl}
  free:∀ b o,h.get? b=some o->H b=none->b∉ex->H' b=none
  there:∀ b o,h.get? b=some o->b∉ex->∃ o',h'.get? b=some o'
  tups:∀ b xs,H b=some (.tup xs)->H' b=some (.tup xs)
  frzs:∀ b o u,H b=some (.frz o u)->H' b=some (.frz o u)
  tbls:∀ b ps,H b=some (.tbl ps)->∃ more,H' b=some (.tbl (ps++more))
section
variable {fs fs' ex ex':List ae} {H H1 H2:Hp} {h h1 h2 h':cR} {a x e:ae} {o:HO}
theorem Un.any (u:Un fs ex H H1 h h1) {b:ae} {ob:Obj} (q:h.get? b=some ob) (n:H b=none) (hx:b∉ex):∃ sl,h1.get? b=some {ob with slots:=sl}:=by
  by_cases hb:b∈fs
  · exact u.slot b ob q n hb hx
  · exact ⟨ob.slots,u.keep b ob q n hb hx⟩
theorem Un.kept (k:∀ b u,h.get? b=some u->h'.get? b=some u):Un fs ex H H h h':=
  ⟨fun b ob q _ _ _=>k b ob q,fun b ob q _ _ _=>⟨ob.slots,k b ob q⟩,fun _ _ _ n _=>n,fun b ob q _=>⟨ob,k b ob q⟩,fun _ _ q=>q,fun _ _ _ q=>q,fun _ ps q=>⟨#[],by rw [q]; simp⟩⟩
theorem Un.refl:Un fs ex H H h h:=Un.kept fun _ _ q=>q
theorem Un.laid (k:∀ b u,h.get? b=some u->h'.get? b=some u) (hp:h.objs.size<=a) (hn:H a=none):Un fs ex H (upd H a o) h h' where
  keep:=fun b u q _ _ _=>k b u q
  slot:=fun b u q _ _ _=>⟨u.slots,k b u q⟩
  free:=fun b u q n _=>by rw [aY (cA (bP (bO q) hp))]; exact n
  there:=fun b u q _=>⟨u,k b u q⟩
  tups:=fun b xs q=>by rw [aY (aJ q hn)]; exact q
  frzs:=fun b u xs q=>by rw [aY (aJ q hn)]; exact q
  tbls:=fun b ps q=>⟨#[],by rw [aY (aJ q hn),q]; simp⟩
theorem Un.write (mu:Mut (H x)) (he:e=x\/H e=some (.own x)) (k:∀ b u,b≠e->h.get? b=some u->h'.get? b=some u) (heo:∃ u,h'.get? e=some u):Un fs ex H (upd H x o) h h':=by
  have hx:∀ b,H b=none->b≠x:=fun b n z=>by subst z; rw [n] at mu; exact mu
  have hb:∀ b,H b=none->b≠e:=fun b n z=>by
    subst z
    rcases he with r | r
    · exact hx b n r
    · rw [n] at r; cases r
  have hm:∀ b u,H b=some u->¬ Mut (some u)->b≠x:=fun b u q nm z=>by subst z; rw [q] at mu; exact nm mu
  refine ⟨fun b u q n _ _=>k b u (hb b n) q,fun b u q n _ _=>⟨u.slots,k b u (hb b n) q⟩,fun b u q n _=>by rw [aY (hx b n)]; exact n,fun b u q _=>?_,
    fun b xs q=>by rw [aY (hm b _ q fun z=>z)]; exact q,fun b u xs q=>by rw [aY (hm b _ q fun z=>z)]; exact q,fun b ps q=>⟨#[],by rw [aY (hm b _ q fun z=>z),q]; simp⟩⟩
  by_cases hbe:b=e
  · subst hbe; exact heo
  · exact ⟨u,k b u hbe q⟩
end
def trk (h:cR) (H:Hp):List ae:=(List.range h.objs.size).filter fun a=>(H a).isSome
def tu (h:cR) (H:Hp):cR:=lS h (trk h H)
theorem yf (h:cR) (H:Hp):(tu h H).objs.size=h.objs.size:=PySem.W.hideAll_size _ _
theorem zh {h:cR} {H:Hp} {b:ae} {o:Obj} (e:h.get? b=some o) (n:H b=none):(tu h H).get? b=some o:=
  vx _ e fun hm=>by
    have q:(H b).isSome=true:=(rB.mp hm).2
    rw [n] at q; simp at q
theorem A6 {h:cR} {H:Hp} {b:ae} {o:Obj} (e:(tu h H).get? b=some o):h.get? b=some o/\H b=none:=by
  have e':h.get? b=some o:=vH (trk h H) e
  refine ⟨e',?_⟩
  cases q:H b with
  | none=>rfl
  | some x =>
    have hm:b∈trk h H:=rB.mpr ⟨List.mem_range.mpr (bO e'),by simp [q]⟩
    have z:(tu h H).get? b=none:=PySem.W.hideAll_none (trk h H) hm
    rw [z] at e; cases e
end L2
namespace L2
open PySem PySem.Spec PyProof.Rows
structure Mod (K:aj) (mg:Str->Option af) (base:cR):Prop where
  kin:K.In base
  glob:base.Ns aH mg
  blt:∃ mb,base.Ns De mb/\∀ x:Str,x≠"__name__"->mb x=eI x
  nolimit:base.NoLimit
structure Cx where
  prog:aX
  w:cz
  K:aj
  mg:Str->Option af
  base:cR
  A:cO
  N:List Str
  s₀:ax
  H₀:Hp
  env:Env
  outer:List Env
  stack:List Env
  ex:List ae
  fn:Str->Bool
  calm:Bool
  pn:List (ae×Obj)
  xe:af->ax->Prop
def frs (l:List Env):List ae:=l.filterMap (·.frame)
abbrev Cx.fs (X:Cx):List ae:=frs X.outer
def Vis (sc:lA) (x:Str):Prop:=sc.names.lookup x=some .local\/sc.names.lookup x=some .cell\/sc.names.lookup x=some .free
def Loc (sc:lA) (x:Str):Prop:=sc.names.lookup x=some .local\/sc.names.lookup x=some .cell
def Look (env:Env) (h:cR) (m:Str->Option af) (x:Str) (u:af):Prop:=
  (env.kindOf x=some .local/\m x=some u)\/((env.kindOf x=some .cell\/env.kindOf x=some .free)/\∃ c,env.cells.lookup x=some c/\h.IsCell c (some u))
structure Cx.Ok (X:Cx):Prop where
  mod:Mod X.K X.mg X.base
  kind:X.env.scope.kind=.function
  glob:X.env.globals=aH
  blt:X.env.builtins=De
  above:X.s₀.heap.objs.size<=X.env.locals
  inj:∀ x y c,X.env.cells.lookup x=some c->X.env.cells.lookup y=some c->x=y
  has:∀ x,(X.env.kindOf x=some .cell\/X.env.kindOf x=some .free)->∃ c,X.env.cells.lookup x=some c
  cab:∀ x c,X.fn x=true->X.env.cells.lookup x=some c->X.s₀.heap.objs.size<=c
  hd:X.calm=true->X.A.handled=none
  frames:X.A.frames=some X.stack
  stk:X.stack=X.outer\/(X.stack=X.env :: X.outer/\X.env.frame=some X.env.locals)
  exf:∀ b∈X.ex,b≠X.env.locals/\∀ x c,X.env.cells.lookup x=some c->c≠b
  bs:∀ b o,X.base.get? b=some o->X.s₀.heap.get? b=some o/\X.H₀ b=none
  bsz:X.base.objs.size<=X.s₀.heap.objs.size
  noex:∀ b o,X.base.get? b=some o->b∉X.ex
  exfs:∀ b∈X.ex,b∉X.fs
  funs:X.s₀.heap.FunFrames X.base X.outer
  frf:∀ b∈X.fs,X.H₀ b=none
structure Inv (X:Cx) (pins:List (ae×Obj)) (σ:List (Option V)) (H:Hp) (s:ax):Prop where
  ok:X.Ok
  os:s.os=X.s₀.os
  bare:mn s.gens
  base:Un X.fs X.ex X.H₀ H X.s₀.heap s.heap
  loc:∃ m,s.heap.Ns X.env.locals m/\∀ (i:Nat) (x:Str) (v:V),X.N[i]?=some x->σ[i]?=some (some v)->Vis X.env.scope x->∃ u,RelV v u/\Look X.env s.heap m x u
  cell:∀ x c,X.env.cells.lookup x=some c->∃ v,s.heap.IsCell c v
  free:H X.env.locals=none
  freeC:∀ x c,X.env.cells.lookup x=some c->H c=none
  pin:∀ p∈X.pn++pins,s.heap.get? p.1=some p.2/\H p.1=none/\p.1≠X.env.locals/\p.1∉X.fs/\∀ v,p.2.data≠.cell v
  hok:HOk X.prog X.w H s.heap
  len:σ.length=X.N.length
section
variable {X:Cx} {pins:List (ae×Obj)} {σ:List (Option V)} {H H':Hp} {s:ax} {h':cR}
theorem Cx.Ok.nofr (ok:X.Ok) {b:ae} {o:Obj} (e:X.base.get? b=some o):b∉X.fs:=fun hb=>by
  have:=(ok.funs.mem hb).1
  rw [e] at this; cases this
theorem Inv.bs (I:Inv X pins σ H s):∀ b o,X.base.get? b=some o->s.heap.get? b=some o/\H b=none:=fun b o e =>
  ⟨I.base.keep b o (I.ok.bs b o e).1 (I.ok.bs b o e).2 (I.ok.nofr e) (I.ok.noex b o e),I.base.free b o (I.ok.bs b o e).1 (I.ok.bs b o e).2 (I.ok.noex b o e)⟩
theorem Inv.bk (I:Inv X pins σ H s):∀ b o,X.base.get? b=some o->s.heap.get? b=some o:=fun b o e=>(I.bs b o e).1
theorem Inv.mod (I:Inv X pins σ H s):Mod X.K X.mg X.base:=I.ok.mod
theorem Inv.kIn (I:Inv X pins σ H s):X.K.In s.heap:=I.ok.mod.kin.keeps I.bk
theorem Inv.fr (I:Inv X pins σ H s):∃ m,Fr X.base X.env.locals s.heap m:=
  let ⟨m,hn,_⟩:=I.loc
  ⟨m,hn,I.bk,cU I.ok.bsz I.ok.above⟩
theorem Inv.lt (I:Inv X pins σ H s):X.env.locals < s.heap.objs.size:=let ⟨_,hn,_⟩:=I.loc; hn.lt
theorem Inv.sz (I:Inv X pins σ H s):X.s₀.heap.objs.size<=s.heap.objs.size:=cU I.ok.above (kA I.lt)
theorem Inv.nofs (I:Inv X pins σ H s) {a:ae} (h:s.heap.objs.size<=a):a∉X.fs:=fun hb=>by
  obtain ⟨_,o,ho,_⟩:=I.ok.funs.mem hb
  exact absurd (bP (bO ho) (cU I.sz h)) (ij _)
theorem Inv.cne (I:Inv X pins σ H s):∀ x c,X.env.cells.lookup x=some c->c≠X.env.locals:=fun x c e z=>by
  obtain ⟨v,o,ho,hd⟩:=I.cell x c e
  obtain ⟨m,⟨o',es,ep,ho',hd',_⟩,_⟩:=I.loc
  rw [z,ho'] at ho; cases ho; rw [hd'] at hd; cases hd
theorem Inv.funs (I:Inv X pins σ H s):s.heap.FunFrames X.base X.outer:=by
  have all:∀ (l:List Env),(∀ b∈frs l,b∈X.fs)->X.s₀.heap.FunFrames X.base l->s.heap.FunFrames X.base l:=by
    intro l
    induction l with
    | nil=>intro _ _; trivial
    | cons env r ih =>
      intro hs hl
      obtain ⟨hk,⟨L,o,hf,hn,ho,hd⟩,hr⟩:=hl
      have hL:L∈X.fs:=hs L (by unfold frs; rw [oj,hf]; exact aA)
      obtain ⟨sl,e⟩:=I.base.slot L o ho (I.ok.frf L hL) hL fun z=>I.ok.exfs L z hL
      exact ⟨hk,⟨L,_,hf,hn,e,hd⟩,ih (fun b hb=>hs b (by unfold frs; rw [oj,hf]; exact aa _ hb)) hr⟩
  exact all X.outer (fun _ hb=>hb) I.ok.funs
theorem Inv.stack (I:Inv X pins σ H s):s.heap.FunFrames X.base X.stack:=by
  rcases I.ok.stk with e | ⟨e,hf⟩
  · rw [e]; exact I.funs
  · rw [e]
    obtain ⟨m,hn,_⟩:=I.loc
    refine .cons (by rw [I.ok.kind]; decide) hf hn ?_ I.funs
    exact Heap.get?_none_of_le (cU I.ok.bsz I.ok.above)
theorem Inv.stkSub (I:Inv X pins σ H s):∀ b∈frs X.stack,b∈X.env.locals :: X.fs:=fun b hb=>by
  rcases I.ok.stk with e | ⟨e,hf⟩
  · rw [e] at hb; exact aa _ hb
  · rw [e] at hb
    unfold frs at hb
    rw [oj,hf] at hb
    exact hb
theorem Inv.stkFree (I:Inv X pins σ H s):∀ b∈frs X.stack,H b=none:=fun b hb=>by
  rcases az.mp (I.stkSub b hb) with e | hb
  · rw [e]; exact I.free
  · obtain ⟨_,o,ho,_⟩:=I.ok.funs.mem hb
    exact I.base.free b o ho (I.ok.frf b hb) fun z=>I.ok.exfs b z hb
theorem Inv.step {g':Array GenState} {t':Nat} {d':Drawn} {ch:List ae} (I:Inv X pins σ H s)
    (hch:∀ b∈ch,(b∈X.ex\/X.s₀.heap.objs.size<=b)/\b≠X.env.locals/\(∀ x c,X.env.cells.lookup x=some c->c≠b)/\∀ p∈X.pn++pins,p.1≠b)
    (keep:∀ b o,b≠X.env.locals->b∉X.fs->b∉ch->s.heap.get? b=some o->H b=none->h'.get? b=some o)
    (slot:∀ b o,b≠X.env.locals->b∈X.fs->b∉ch->s.heap.get? b=some o->H b=none->∃ sl,h'.get? b=some {o with slots:=sl}) (free:∀ b o,b∉ch->s.heap.get? b=some o->H b=none->H' b=none)
    (there:∀ b o,b∉ch->s.heap.get? b=some o->∃ o',h'.get? b=some o')
    (tups:∀ b xs,H b=some (.tup xs)->H' b=some (.tup xs)) (frzs:∀ b o u,H b=some (.frz o u)->H' b=some (.frz o u)) (tbls:∀ b ps,H b=some (.tbl ps)->∃ more,H' b=some (.tbl (ps++more)))
    (ns:∀ m,s.heap.Ns X.env.locals m->h'.Ns X.env.locals m) (hok:HOk X.prog X.w H' h') (hg:mn g') :
    Inv X pins σ H' {s with heap:=h',gens:=g',drawn:=d',toks:=t'}:=by
  have neL:∀ b o,X.s₀.heap.get? b=some o->b≠X.env.locals:=fun b o e=>cA (bP (bO e) I.ok.above)
  have neC:∀ b o,X.s₀.heap.get? b=some o->b∉X.ex->b∉ch:=fun b o e hx hb=>by
    rcases (hch b hb).1 with z | z
    · exact hx z
    · exact absurd (bP (bO e) z) (ij _)
  have cellK:∀ x c,X.env.cells.lookup x=some c->∀ v,s.heap.IsCell c v->h'.IsCell c v:=fun x c e v ⟨o,ho,hd⟩=>by
    have nch:c∉ch:=fun z=>(hch c z).2.2.1 x c e rfl
    by_cases hc:c∈X.fs
    · obtain ⟨sl,q⟩:=slot c o (I.cne x c e) hc nch ho (I.freeC x c e)
      exact ⟨_,q,hd⟩
    · exact ⟨o,keep c o (I.cne x c e) hc nch ho (I.freeC x c e),hd⟩
  refine ⟨I.ok,I.os,hg,⟨fun b o e n hb hx=>?_,fun b o e n hb hx=>?_,fun b o e n hx=>?_,fun b o e hx=>?_,fun b xs e=>tups b xs (I.base.tups b xs e),fun b o xs e=>frzs b o xs (I.base.frzs b o xs e),fun b ps e=>?_⟩,?_,fun x c e=>?_,?_,fun x c e=>?_,fun p hp=>?_,hok,I.len⟩
  · exact keep b o (neL b o e) hb (neC b o e hx) (I.base.keep b o e n hb hx) (I.base.free b o e n hx)
  · obtain ⟨sl,e1⟩:=I.base.slot b o e n hb hx
    obtain ⟨sl',e2⟩:=slot b _ (neL b o e) hb (neC b o e hx) e1 (I.base.free b o e n hx)
    exact ⟨sl',e2⟩
  · obtain ⟨o',e1⟩:=I.base.there b o e hx
    exact free b o' (neC b o e hx) e1 (I.base.free b o e n hx)
  · obtain ⟨o',e1⟩:=I.base.there b o e hx
    exact there b o' (neC b o e hx) e1
  · obtain ⟨m1,e1⟩:=I.base.tbls b ps e
    obtain ⟨m2,e2⟩:=tbls b _ e1
    exact ⟨m1++m2,by rw [e2,Array.append_assoc]⟩
  · obtain ⟨m,hn,hl⟩:=I.loc
    refine ⟨m,ns m hn,fun i x v e1 e2 e3=>?_⟩
    obtain ⟨u,r,l⟩:=hl i x v e1 e2 e3
    refine ⟨u,r,?_⟩
    rcases l with l | ⟨k,c,e,z⟩
    · exact .inl l
    · exact .inr ⟨k,c,e,cellK x c e _ z⟩
  · obtain ⟨v,z⟩:=I.cell x c e
    exact ⟨v,cellK x c e v z⟩
  · obtain ⟨m,⟨o,_,_,ho,_⟩,_⟩:=I.loc
    exact free _ o (fun z=>(hch _ z).2.1 rfl) ho I.free
  · obtain ⟨v,o,ho,hd⟩:=I.cell x c e
    exact free c o (fun z=>(hch c z).2.2.1 x c e rfl) ho (I.freeC x c e)
  · obtain ⟨e,n,ne,nf,d⟩:=I.pin p hp
    have nch:p.1∉ch:=fun z=>(hch p.1 z).2.2.2 p hp rfl
    exact ⟨keep p.1 p.2 ne nf nch e n,free p.1 p.2 nch e n,ne,nf,d⟩
theorem Inv.un {t':Nat} (I:Inv X pins σ H s) (u:Un X.fs [] H H' s.heap h') (hok:HOk X.prog X.w H' h'):Inv X pins σ H' {s with heap:=h',toks:=t'}:=by
  obtain ⟨m,⟨o,es,ep,ho,r⟩,_⟩:=id I.loc
  obtain ⟨sl,hL⟩:=u.any ho I.free (by simp)
  exact I.step (g':=s.gens) (d':=s.drawn) (ch:=[]) (fun _ z=>nomatch z) (fun b o _ hb _ e n=>u.keep b o e n hb (by simp)) (fun b o _ hb _ e n=>u.slot b o e n hb (by simp)) (fun b o _ e n=>u.free b o e n (by simp)) (fun b o _ e=>u.there b o e (by simp)) u.tups u.frzs u.tbls (fun m' hm=>by
    obtain ⟨o',es',ep',ho',r'⟩:=hm
    rw [ho] at ho'; cases ho'
    exact ⟨_,es',ep',hL,r'⟩) hok I.bare
theorem Inv.call {g':Array GenState} {t':Nat} {d':Drawn} {ch:List ae} (I:Inv X pins σ H s) (u:Un (frs X.stack) ch H H' s.heap h') (hok:HOk X.prog X.w H' h') (hg:mn g')
    (hch:∀ b∈ch,(b∈X.ex\/X.s₀.heap.objs.size<=b)/\b≠X.env.locals/\(∀ x c,X.env.cells.lookup x=some c->c≠b)/\∀ p∈X.pn++pins,p.1≠b) :
    Inv X pins σ H' {s with heap:=h',gens:=g',drawn:=d',toks:=t'}:=by
  obtain ⟨m,⟨o,es,ep,ho,r⟩,_⟩:=id I.loc
  obtain ⟨sl,hL⟩:=u.any ho I.free fun z=>(hch _ z).2.1 rfl
  exact I.step (ch:=ch) hch (fun b o hL hb hc e n=>u.keep b o e n (fun z=>(az.mp (I.stkSub b z)).elim hL hb) hc) (fun b o _ _ hc e n=>u.any e n hc) (fun b o hc e n=>u.free b o e n hc) (fun b o hc e=>u.there b o e hc) u.tups u.frzs u.tbls (fun m' hm=>by
    obtain ⟨o',es',ep',ho',r'⟩:=hm
    rw [ho] at ho'; cases ho'
    exact ⟨_,es',ep',hL,r'⟩) hok hg
theorem Inv.turned {t':Nat} {it:ae} (I:Inv X pins σ H s) (k:∀ b o,b≠it->s.heap.get? b=some o->h'.get? b=some o) (hn:H it=none) (hL:it≠X.env.locals)
    (h1:it∈X.ex\/X.s₀.heap.objs.size<=it) (h2:∀ x c,X.env.cells.lookup x=some c->c≠it) (h3:∀ p∈X.pn++pins,p.1≠it):Inv X pins σ H {s with heap:=h',toks:=t'}:=by
  have nit:∀ b u,H b=some u->b≠it:=fun b u e z=>by rw [z,hn] at e; cases e
  refine I.step (g':=s.gens) (d':=s.drawn) (ch:=[it]) (fun b hb=>?_) (fun b o _ _ hc e _=>k b o (fun z=>hc (by simp [z])) e) (fun b o _ _ hc e _=>⟨o.slots,k b o (fun z=>hc (by simp [z])) e⟩) (fun _ _ _ _ n=>n)
    (fun b o hc e=>⟨o,k b o (fun z=>hc (by simp [z])) e⟩) (fun _ _ e=>e) (fun _ _ _ e=>e) (fun b ps e=>⟨#[],by rw [e]; simp⟩) (fun m hm=>?_) (fun b u e=>?_) I.bare
  · have e:b=it:=by simpa using hb
    subst e
    exact ⟨h1,hL,h2,h3⟩
  · obtain ⟨o,es,ep,ho,r⟩:=hm
    exact ⟨o,es,ep,k _ o (eS hL) ho,r⟩
  · refine (I.hok b u e).stay (fun c v hc q=>k c v ?_ q) (fun _ q=>q) fun _ _ q=>q
    rcases hc with z | z
    · rw [z]; exact nit b u e
    · exact nit c _ z
theorem Inv.tok (I:Inv X pins σ H s) (t:Nat):Inv X pins σ H {s with toks:=t}:=I.un (h':=s.heap) (t':=t) Un.refl I.hok
theorem Inv.kept {t':Nat} (I:Inv X pins σ H s) (k:∀ b u,s.heap.get? b=some u->h'.get? b=some u):Inv X pins σ H {s with heap:=h',toks:=t'}:=I.un (Un.kept k) (I.hok.kept k)
theorem Inv.laid {a:ae} {o:HO} {t':Nat} (I:Inv X pins σ H s) (k:∀ b u,s.heap.get? b=some u->h'.get? b=some u) (hp:s.heap.objs.size<=a) (new:eP X.prog X.w (upd H a o) h' a o) :
    Inv X pins σ (upd H a o) {s with heap:=h',toks:=t'}:=I.un (Un.laid k hp (I.hok.fresh hp)) (I.hok.laid k hp new)
theorem Inv.write {x e:ae} {o:HO} {t':Nat} (I:Inv X pins σ H s) (mu:Mut (H x)) (he:e=x\/H e=some (.own x)) (k:∀ b u,b≠e->s.heap.get? b=some u->h'.get? b=some u) (heo:∃ u,h'.get? e=some u)
    (new:eP X.prog X.w (upd H x o) h' x o):Inv X pins σ (upd H x o) {s with heap:=h',toks:=t'}:=I.un (Un.write mu he k heo) (I.hok.write mu he k heo new)
theorem Inv.weak {σ':List (Option V)} (I:Inv X pins σ H s) (hl:σ'.length=σ.length) (w:∀ (i:Nat) v,σ'[i]?=some (some v)->σ[i]?=some (some v)):Inv X pins σ' H s:=
  ⟨I.ok,I.os,I.bare,I.base,let ⟨m,hn,hl'⟩:=I.loc; ⟨m,hn,fun i x v e1 e2 e3=>hl' i x v e1 (w i v e2) e3⟩,I.cell,I.free,I.freeC,I.pin,I.hok,hl.trans I.len⟩
theorem Inv.pins_of {pins':List (ae×Obj)} (I:Inv X pins σ H s) (h:∀ p∈pins',s.heap.get? p.1=some p.2/\H p.1=none/\p.1≠X.env.locals/\p.1∉X.fs/\∀ v,p.2.data≠.cell v):Inv X pins' σ H s:=
  ⟨I.ok,I.os,I.bare,I.base,I.loc,I.cell,I.free,I.freeC,fun p hp=>(cE.mp hp).elim (fun z=>I.pin p (dC _ z)) (h p),I.hok,I.len⟩
theorem qj {N:List Str} (hN:N.Nodup) {i j:Nat} {x:Str} (a:N[i]?=some x) (b:N[j]?=some x):i=j:=by
  obtain ⟨h1,e1⟩:=aL.mp a
  obtain ⟨h2,e2⟩:=aL.mp b
  exact (List.getElem_inj hN).mp (e1.trans e2.symm)
theorem rV {M:A7} {A:cO} {E:af->ax->Prop} {i:Nat} {x:Str} {v:V} {u:af} {Q:Unit->ax->Prop} (I:Inv X pins σ H s) (hN:X.N.Nodup) (hi:X.N[i]?=some x) (hx:Loc X.env.scope x) (r:RelV v u)
    (h:∀ s',Inv X pins (σ.set i (some v)) H s'->(∃ a,pH a s.heap s'.heap/\(a=X.env.locals\/X.env.cells.lookup x=some a))->Q () s') (hf:X.fn x=true\/X.env.scope.names.lookup x=some .local:=by first | exact .inl rfl | exact .inr rfl | assumption):b8 M A (storeName X.env x u) Q E s:=by
  obtain ⟨m,hn,hl⟩:=id I.loc
  have hcls:(X.env.scope.kind == .class || (X.env.scope.kind == .module && X.env.locals != X.env.globals))=false:=by rw [I.ok.kind]; rfl
  have hiσ:i < σ.length:=by rw [I.len]; exact (aL.mp hi).1
  have cne:=I.cne
  have tracked:∀ {a:ae} {h':cR},(∃ o,s.heap.get? a=some o/\H a=none)->pH a s.heap h'->HOk X.prog X.w H h':=fun {a h'} ha hs b ob e=>by
    obtain ⟨_,_,hfree⟩:=ha
    refine (I.hok b ob e).stay (fun c w' hc q=>(hs.2 c ?_).trans q) (fun _ q=>q) fun _ _ q=>q
    rintro rfl
    rcases hc with rfl | hc
    · rw [hfree] at e; cases e
    · rw [hfree] at hc; cases hc
  rcases hx with hk | hk
  · refine wpAny_storeName_local hk hn (fun h' hn' hs=>?_) hcls
    obtain ⟨oL,_,_,hoL,_⟩:=id hn
    refine h _ ⟨I.ok,I.os,I.bare,⟨fun b o e n hb hx=>?_,fun b o e n hb hx=>?_,I.base.free,fun b o e hx=>?_,I.base.tups,I.base.frzs,I.base.tbls⟩,⟨_,hn',fun j y v' e1 e2 e3=>?_⟩,fun y c e=>?_,I.free,I.freeC,fun p hp=>?_,tracked ⟨oL,hoL,I.free⟩ hs,by simpa using I.len⟩ ⟨_,hs,.inl rfl⟩
    · exact (hs.2 b (cA (bP (bO e) I.ok.above))).trans (I.base.keep b o e n hb hx)
    · obtain ⟨sl,e1⟩:=I.base.slot b o e n hb hx
      exact ⟨sl,(hs.2 b (cA (bP (bO e) I.ok.above))).trans e1⟩
    · obtain ⟨o',e1⟩:=I.base.there b o e hx
      exact ⟨o',(hs.2 b (cA (bP (bO e) I.ok.above))).trans e1⟩
    · by_cases hj:j=i
      · subst hj
        rw [hi] at e1; cases e1
        rw [fV hiσ] at e2
        cases e2
        exact ⟨u,r,.inl ⟨hk,by simp⟩⟩
      · rw [jW (eS hj)] at e2
        obtain ⟨u',r',q⟩:=hl j y v' e1 e2 e3
        refine ⟨u',r',?_⟩
        rcases q with ⟨k,e⟩ | ⟨k,c,e,z⟩
        · refine .inl ⟨k,?_⟩
          have:y≠x:=fun e=>hj (qj hN e1 (e ▸ hi))
          simp [this,e]
        · exact .inr ⟨k,c,e,z.sameBut hs (cne y c e)⟩
    · obtain ⟨w',z⟩:=I.cell y c e
      exact ⟨w',z.sameBut hs (cne y c e)⟩
    · obtain ⟨e,n,ne,nf,d⟩:=I.pin p hp
      exact ⟨(hs.2 p.1 ne).trans e,n,ne,nf,d⟩
  · have hfn:X.fn x=true:=by
      rcases hf with z | z
      · exact z
      · rw [z] at hk; cases hk
    obtain ⟨c,hc⟩:=I.ok.has x (.inl hk)
    obtain ⟨w',z⟩:=I.cell x c hc
    refine wpAny_storeName_cell I.ok.kind hk hc z (fun h' hc' hs=>?_)
    obtain ⟨oc,hoc,hocd⟩:=id z
    refine h {s with heap:=h'} ⟨I.ok,I.os,I.bare,⟨fun b o e n hb hx=>?_,fun b o e n hb hx=>?_,I.base.free,fun b o e hx=>?_,I.base.tups,I.base.frzs,I.base.tbls⟩,⟨m,hn.sameBut hs (eS (cne x c hc)),fun j y v' e1 e2 e3=>?_⟩,fun y c' e=>?_,I.free,I.freeC,fun p hp=>?_,tracked ⟨oc,hoc,I.freeC x c hc⟩ hs,by simpa using I.len⟩ ⟨c,hs,.inr hc⟩
    · exact (hs.2 b (cA (bP (bO e) (I.ok.cab x c hfn hc)))).trans (I.base.keep b o e n hb hx)
    · obtain ⟨sl,e1⟩:=I.base.slot b o e n hb hx
      exact ⟨sl,(hs.2 b (cA (bP (bO e) (I.ok.cab x c hfn hc)))).trans e1⟩
    · obtain ⟨o',e1⟩:=I.base.there b o e hx
      exact ⟨o',(hs.2 b (cA (bP (bO e) (I.ok.cab x c hfn hc)))).trans e1⟩
    · by_cases hj:j=i
      · subst hj
        rw [hi] at e1; cases e1
        rw [fV hiσ] at e2
        cases e2
        exact ⟨u,r,.inr ⟨.inl hk,c,hc,hc'⟩⟩
      · rw [jW (eS hj)] at e2
        obtain ⟨u',r',q⟩:=hl j y v' e1 e2 e3
        refine ⟨u',r',?_⟩
        rcases q with q | ⟨k,c',e,z'⟩
        · exact .inl q
        · refine .inr ⟨k,c',e,z'.sameBut hs ?_⟩
          rintro rfl
          exact hj (qj hN e1 (I.ok.inj _ _ _ e hc ▸ hi))
    · by_cases hcc:c'=c
      · subst hcc; exact ⟨_,hc'⟩
      · obtain ⟨w2,z2⟩:=I.cell y c' e
        exact ⟨w2,z2.sameBut hs hcc⟩
    · obtain ⟨e,n,ne,nf,d⟩:=I.pin p hp
      refine ⟨(hs.2 p.1 ?_).trans e,n,ne,nf,d⟩
      intro q
      rw [q,hoc] at e
      have q':oc=p.2:=eW e
      exact d w' (by rw [<- q']; exact hocd)
theorem oq {M:A7} {A:cO} {E:af->ax->Prop} {i:Nat} {x:Str} {v:V} {u:af} {Q:Unit->ax->Prop} (I:Inv X pins σ H s) (hN:X.N.Nodup) (hi:X.N[i]?=some x) (hx:Loc X.env.scope x) (r:RelV v u)
    (h:∀ s',Inv X pins (σ.set i (some v)) H s'->Q () s') (hf:X.fn x=true\/X.env.scope.names.lookup x=some .local:=by first | exact .inl rfl | exact .inr rfl | assumption):b8 M A (storeName X.env x u) Q E s:=
  rV I hN hi hx r (fun s' I' _=>h s' I') hf
theorem Inv.call' {s':ax} {ch:List ae} (I:Inv X pins σ H s) (ho:s'.os=s.os) (u:Un (frs X.stack) ch H H' s.heap s'.heap) (hok:HOk X.prog X.w H' s'.heap) (hg:mn s'.gens)
    (hch:∀ b∈ch,(b∈X.ex\/X.s₀.heap.objs.size<=b)/\b≠X.env.locals/\(∀ x c,X.env.cells.lookup x=some c->c≠b)/\∀ p∈X.pn++pins,p.1≠b):Inv X pins σ H' s':=by
  obtain ⟨h',g',d',t',o'⟩:=s'
  have e:o'=s.os:=ho
  subst e
  exact I.call (g':=g') (t':=t') (d':=d') u hok hg hch
end
abbrev XK:=af->Option ae->Hp->Prop
abbrev St:=List (Option V)
abbrev VK:=V->Hp->Prop
abbrev TE:=St->Hp->VK->Prop
abbrev TT:=St->Hp->(Bool->Hp->Prop)->Prop
abbrev TA:=St->Hp->(List V->Hp->Prop)->Prop
structure lB where
  nx:St->Hp->Prop
  rt:VK
  bk:St->Hp->Prop:=fun _ _=>False
  ct:St->Hp->Prop:=fun _ _=>False
abbrev TS:=lB->St->Hp->Prop
def EP (X:Cx) (pins:List (ae×Obj)) (σ:St) (Q:VK) (u:af) (s':ax):Prop:=∃ v H',Inv X pins σ H' s'/\RelV v u/\Q v H'
def TP (X:Cx) (pins:List (ae×Obj)) (σ:St) (Q:Bool->Hp->Prop) (b:Bool) (s':ax):Prop:=∃ H',Inv X pins σ H' s'/\Q b H'
def AP (X:Cx) (pins:List (ae×Obj)) (σ:St) (Q:List V->Hp->Prop) (us:List af) (s':ax):Prop:=∃ vs H',Inv X pins σ H' s'/\dQ vs us/\Q vs H'
def SP (X:Cx) (pins:List (ae×Obj)) (D:lB) (f:Flow) (s':ax):Prop:=
  match f with
  | .next=>∃ σ' H',Inv X pins σ' H' s'/\D.nx σ' H'
  | .brk=>∃ σ' H',Inv X pins σ' H' s'/\D.bk σ' H'
  | .cont=>∃ σ' H',Inv X pins σ' H' s'/\D.ct σ' H'
  | .ret u=>∃ v σ' H',Inv X pins σ' H' s'/\RelV v u/\D.rt v H'
def PE (X:Cx) (e:cZ) (t:TE):Prop:=
  ∀ (pins:List (ae×Obj)) (s:ax) (σ:St) (H:Hp) (Q:VK),Inv X pins σ H s->t σ H Q->b8 (cm X.prog X.w) X.A (gj e X.env) (EP X pins σ Q) X.xe s
def PT (X:Cx) (e:cZ) (t:TT):Prop:=
  ∀ (pins:List (ae×Obj)) (s:ax) (σ:St) (H:Hp) (Q:Bool->Hp->Prop),Inv X pins σ H s->t σ H Q->b8 (cm X.prog X.w) X.A (zi e X.env (gj e X.env)) (TP X pins σ Q) X.xe s
def PW (X:Cx) (e:cZ) (t:TT):Prop:=
  ∀ (whole:Sem af) (pins:List (ae×Obj)) (s:ax) (σ:St) (H:Hp) (Q:Bool->Hp->Prop),Inv X pins σ H s->t σ H Q->b8 (cm X.prog X.w) X.A (zi e X.env whole) (TP X pins σ Q) X.xe s
theorem PW.pt {X:Cx} {e:cZ} {t:TT} (h:PW X e t):PT X e t:=h _
def PA (X:Cx) (es:List cZ) (t:TA):Prop:=
  ∀ (pos:Pos) (pins:List (ae×Obj)) (s:ax) (σ:St) (H:Hp) (Q:List V->Hp->Prop),Inv X pins σ H s->t σ H Q->b8 (cm X.prog X.w) X.A (spliced (jP pos (cW es X.env))) (AP X pins σ Q) X.xe s
def PS (X:Cx) (st:dU) (t:TS):Prop:=
  ∀ (pins:List (ae×Obj)) (s:ax) (σ:St) (H:Hp) (D:lB),Inv X pins σ H s->t D σ H->b8 (cm X.prog X.w) X.A (exec st X.env) (SP X pins D) X.xe s
def PSs (X:Cx) (st:List dU) (t:TS):Prop:=
  ∀ (pins:List (ae×Obj)) (s:ax) (σ:St) (H:Hp) (D:lB),Inv X pins σ H s->t D σ H->b8 (cm X.prog X.w) X.A (execs st X.env) (SP X pins D) X.xe s
theorem thn {α:Type} {t:Sem α} {Q Q':α->ax->Prop} {M:A7} {A:cO} {E:af->ax->Prop} {s:ax} (h:b8 M A t Q E s) (hQ:∀ a s,Q a s->Q' a s):b8 M A t Q' E s:=fh h hQ fun _ _ x=>x
end L2
namespace L2
open PySem PySem.Spec PyProof.Rows
section
variable {X:Cx}
theorem bin {a b:cZ} {ta tb:TE} (ha:PE X a ta) (hb:PE X b tb) {pins:List (ae×Obj)} {s:ax} {σ:St} {H:Hp} {R:V->V->Hp->Prop} (I:Inv X pins σ H s) (h:ta σ H fun x H1=>tb σ H1 fun y H2=>R x y H2)
    {α:Type} {Q:α->ax->Prop} {f:af->af->Sem α}
    (hf:∀ v u s2 x y H2,Inv X pins σ H2 s2->RelV x v->RelV y u->R x y H2->b8 (cm X.prog X.w) X.A (f v u) Q X.xe s2) :
    b8 (cm X.prog X.w) X.A (gj a X.env) (fun v s₁=>b8 (cm X.prog X.w) X.A (gj b X.env) (fun u s₂=>b8 (cm X.prog X.w) X.A (f v u) Q X.xe s₂) X.xe s₁) X.xe s:=by
  refine thn (ha pins s σ H _ I h) fun v s1 ⟨x,H1,I1,r1,q1⟩=>?_
  refine thn (hb pins s1 σ H1 _ I1 q1) fun u s2 ⟨y,H2,I2,r2,q2⟩=>?_
  exact hf v u s2 x y H2 I2 r1 r2 q2
def qm (i:Nat):TE:=fun σ H Q=>∃ v,σ[i]?=some (some v)/\Q v H
def tC (v:V):TE:=fun _ H Q=>Q v H
theorem Dh {i:Nat} {x:Str} {pos:Pos} (hN:X.N[i]?=some x) (hv:Vis X.env.scope x) (hd:(x == ("__debug__":Str))=false:=by decide) (hcd:(x == ("__classdict__":Str))=false:=by decide):PE X (.Name x pos) (qm i):=by
  intro pins s σ H Q I h
  obtain ⟨v,e,h⟩:=h
  obtain ⟨m,hn,hl⟩:=I.loc
  obtain ⟨u,r,l⟩:=hl i x v hN e hv
  have fin:EP X pins σ Q u s:=⟨v,H,I,r,h⟩
  rcases l with ⟨hk,hm⟩ | ⟨hk,c,hc,hcell⟩
  · exact Di (wpAny_loadName_local I.ok.kind hk hn hm fin) hd
  · rcases hk with hk | hk
    · exact Di (wpAny_loadName_cell I.ok.kind hk hc hcell fin) hd
    · exact Di (wpAny_loadName_free I.ok.kind hk hc hcell fin hcd) hd
theorem ag {i j pos}:PE X (.Constant (.int i) j pos) (tC (.int i)):=fun _ _ _ H _ I h=>wpAny_Constant_int ⟨.int i,H,I.tok _,⟨_,rfl⟩,h⟩
theorem j7 {b j pos}:PE X (.Constant (.bool b) j pos) (tC (.bl b)):=fun _ _ _ H _ I h=>Constant_bool ⟨.bl b,H,I,rfl,h⟩
theorem tD {j pos}:PE X (.Constant .none j pos) (tC .non):=fun _ _ _ H _ I h=>Constant_none ⟨.non,H,I,rfl,h⟩
theorem bN {x j pos}:PE X (.Constant (.str x) j pos) (tC (.str x)):=fun _ _ _ H _ I h=>Calls.Constant_str ⟨.str x,H,I.tok _,⟨_,rfl⟩,h⟩
def Gl (X:Cx) (x:Str):Prop:=X.env.kindOf x=some .globalImplicit
theorem m5 {E:af->ax->Prop} {pins:List (ae×Obj)} {s:ax} {σ:St} {H:Hp} {x:Str} {u:af} {pos:Pos} {Q:af->ax->Prop} (I:Inv X pins σ H s) (hg:Gl X x) (hm:X.mg x=some u) (h:Q u s)
    (hd:(x == ("__debug__":Str))=false:=by decide):b8 (cm X.prog X.w) X.A (gj (.Name x pos) X.env) Q E s:=
  rG I.ok.kind hg (Calls.loadGlobal_global (by rw [I.ok.glob]; exact I.mod.glob.keeps I.bk) hm h) hd
theorem tE {E:af->ax->Prop} {pins:List (ae×Obj)} {s:ax} {σ:St} {H:Hp} {x:Str} {u:af} {pos:Pos} {Q:af->ax->Prop} (I:Inv X pins σ H s) (hg:Gl X x) (hm:X.mg x=none) (hv:eI x=some u) (h:Q u s)
    (hn:x≠"__name__":=by decide) (hd:(x == ("__debug__":Str))=false:=by decide):b8 (cm X.prog X.w) X.A (gj (.Name x pos) X.env) Q E s:=by
  obtain ⟨mb,h1,h2⟩:=I.mod.blt
  exact rG I.ok.kind hg (Calls.loadGlobal_builtin (by rw [I.ok.glob]; exact I.mod.glob.keeps I.bk) hm (by rw [I.ok.blt]; exact h1.keeps I.bk) ((h2 x hn).trans hv) h) hd
theorem tF {x:Str} {v:V} {u:af} {pos:Pos} (hg:Gl X x) (hm:X.mg x=some u) (r:RelV v u) (hd:(x == ("__debug__":Str))=false:=by decide):PE X (.Name x pos) (tC v):=
  fun _ _ _ H _ I h=>m5 I hg hm ⟨v,H,I,r,h⟩ hd
theorem fG {x:Str} {v:V} {u:af} {pos:Pos} (hg:Gl X x) (hm:X.mg x=none) (hv:eI x=some u) (r:RelV v u) (hn:x≠"__name__":=by decide) (hd:(x == ("__debug__":Str))=false:=by decide):PE X (.Name x pos) (tC v):=
  fun _ _ _ H _ I h=>tE I hg hm hv ⟨v,H,I,r,h⟩ hn hd
variable {a b:cZ} {ta tb:TE} {pos:Pos}
def PC (X:Cx) (op:EY) (a b:cZ) (t:TE):Prop:=
  ∀ (pins:List (ae×Obj)) (s:ax) (σ:St) (H:Hp) (Q:VK),Inv X pins σ H s->t σ H Q ->
    b8 (cm X.prog X.w) X.A (gj a X.env) (fun v s₁=>b8 (cm X.prog X.w) X.A (gj b X.env) (fun u s₂=>b8 (cm X.prog X.w) X.A (fX op v u) (EP X pins σ Q) X.xe s₂) X.xe s₁) X.xe s
theorem zj (b:cZ) {op:EY} (h:op≠.In) (h2:op≠.NotIn):jq op b=false:=by
  have e1:(op == CmpOp.In)=false:=by cases op <;> first | rfl | exact absurd rfl h
  have e2:(op == CmpOp.NotIn)=false:=by cases op <;> first | rfl | exact absurd rfl h2
  cases b <;> simp [jq,e1,e2]
def tIsN (ta:TE):TE:=fun σ H Q=>ta σ H fun x H1=>Q (.bl (decide (x=.non))) H1
theorem RelV.none_iff {x:V} {v:af} (r:RelV x v):(v == Value.none)=decide (x=.non):=by
  cases x with
  | non=>cases r; rfl
  | bl _=>cases r; rfl
  | int _=>obtain ⟨t,rfl⟩:=r; rfl
  | str _=>obtain ⟨t,rfl⟩:=r; rfl
  | byt _=>obtain ⟨t,rfl⟩:=r; rfl
  | flt _=>obtain ⟨t,rfl⟩:=r; rfl
  | ref _=>cases r; rfl
  | ty _=>cases r; rfl
theorem zk {j pos'} (ha:PE X a ta):PC X .Is a (.Constant .none j pos') (tIsN ta):=by
  intro pins s σ H Q I h
  refine thn (ha pins s σ H _ I h) fun v s1 ⟨x,H1,I1,r1,q1⟩=>?_
  exact Constant_none (is_none_gen ⟨.bl _,H1,I1,by rw [r1.none_iff]; rfl,q1⟩)
def tB (t:TE):TT:=fun σ H Q=>t σ H fun x H1=>∃ c,x=.bl c/\Q c H1
theorem qp {op:EY} {t:TE} (h:PC X op a b t) (h1:jq op b=false:=by first | exact zj _ (by decide) (by decide) | rfl):PT X (.Compare a [op] [b] pos) (tB t):=by
  intro pins s σ H Q I hw
  refine AY (thn (h pins s σ H _ I hw) fun v s1 h1=>thn h1 fun u s2 h2=>thn h2 fun c s3 ⟨x,H1,I1,r1,q1⟩=>?_) h1
  obtain ⟨d,rfl,q⟩:=q1
  cases r1
  exact gR ⟨H1,I1,q⟩
theorem fo {e:cZ} {t:TE} (h:PE X e t) (he:∀ whole,zi e X.env whole=(do let v <- whole; vy e.pos; pI [v] (truthy v)):=by intro _; rfl):PT X e (tB t):=by
  intro pins s σ H Q I hw
  refine isTrue_plain (thn (h pins s σ H _ I hw) fun v s1 ⟨x,H1,I1,r1,q1⟩=>?_) (he _)
  obtain ⟨d,rfl,q⟩:=q1
  cases r1
  exact gR ⟨H1,I1,q⟩
variable {tA tB':TT} {rest:List cZ}
def tAnd (t u:TT):TT:=fun σ H Q=>t σ H fun c H1=>if c=true then u σ H1 Q else Q false H1
def tOr (t u:TT):TT:=fun σ H Q=>t σ H fun c H1=>if c=true then Q true H1 else u σ H1 Q
def tNot (t:TT):TT:=fun σ H Q=>t σ H fun c H1=>Q (!c) H1
theorem kF (ha:PT X a tA):PW X (.BoolOp .And [a] pos) tA:=by
  intro wh pins s σ H Q I h
  refine isTrue_and (thn (ha pins s σ H Q I h) fun c s1 e=>?_)
  cases c with
  | true=>exact isTrue_and_nil e
  | false=>exact e
theorem j8 (ha:PT X a tA):PW X (.BoolOp .Or [a] pos) tA:=by
  intro wh pins s σ H Q I h
  refine isTrue_or (thn (ha pins s σ H Q I h) fun c s1 e=>?_)
  cases c with
  | false=>exact isTrue_or_nil e
  | true=>exact e
theorem mC (ha:PT X a tA) (hb:PW X (.BoolOp .And (b :: rest) pos) tB'):PW X (.BoolOp .And (a :: b :: rest) pos) (tAnd tA tB'):=by
  intro wh pins s σ H Q I h
  refine isTrue_and (thn (ha pins s σ H _ I h) fun c s1 ⟨H1,I1,q1⟩=>?_)
  cases c with
  | true=>exact hb wh pins s1 σ H1 Q I1 q1
  | false=>exact ⟨H1,I1,q1⟩
theorem kH (ha:PT X a tA) (hb:PW X (.BoolOp .Or (b :: rest) pos) tB'):PW X (.BoolOp .Or (a :: b :: rest) pos) (tOr tA tB'):=by
  intro wh pins s σ H Q I h
  refine isTrue_or (thn (ha pins s σ H _ I h) fun c s1 ⟨H1,I1,q1⟩=>?_)
  cases c with
  | true=>exact ⟨H1,I1,q1⟩
  | false=>exact hb wh pins s1 σ H1 Q I1 q1
theorem ik (ha:PT X a tA):PT X (.UnaryOp .Not a pos) (tNot tA):=by
  intro pins s σ H Q I h
  exact isTrue_not (ha pins s σ H (fun c H1=>Q (!c) H1) I h)
def tAndV (ta tb:TE):TE:=fun σ H Q=>ta σ H fun x H1=>∃ c,x=.bl c/\if c=true then tb σ H1 Q else Q (.bl false) H1
def tNotV (ta:TE):TE:=fun σ H Q=>ta σ H fun x H1=>∃ c,x=.bl c/\Q (.bl (!c)) H1
theorem tG {op} {t:TE} (h:PE X a t):PE X (.BoolOp op [a] pos) t:=fun pins s σ H Q I hw=>BoolOp_one (h pins s σ H Q I hw)
theorem oR (ha:PE X a ta) (hb:PE X (.BoolOp .And (b :: rest) pos) tb):PE X (.BoolOp .And (a :: b :: rest) pos) (tAndV ta tb):=by
  intro pins s σ H Q I h
  refine BoolOp_and (thn (ha pins s σ H _ I h) fun v s1 ⟨x,H1,I1,r1,q1⟩=>?_)
  obtain ⟨c,rfl,q1⟩:=q1
  cases r1
  refine gR ?_
  cases c with
  | true=>exact hb pins s1 σ H1 Q I1 q1
  | false=>exact ⟨.bl false,H1,I1,rfl,q1⟩
theorem Dj (ha:PE X a ta):PE X (.UnaryOp .Not a pos) (tNotV ta):=by
  intro pins s σ H Q I h
  refine UnaryOp_ (thn (ha pins s σ H _ I h) fun v s1 ⟨x,H1,I1,r1,q1⟩=>?_)
  obtain ⟨c,rfl,q1⟩:=q1
  cases r1
  exact not_of (gR ⟨.bl (!c),H1,I1,rfl,q1⟩)
def tIf (t:TT) (ta tb:TE):TE:=fun σ H Q=>t σ H fun c H1=>if c=true then ta σ H1 Q else tb σ H1 Q
theorem qq {c:cZ} (hc:PT X c tA) (ha:PE X a ta) (hb:PE X b tb):PE X (.IfExp c a b pos) (tIf tA ta tb):=by
  intro pins s σ H Q I h
  refine wpAny_IfExp (thn (hc pins s σ H _ I h) fun d s1 ⟨H1,I1,q1⟩=>?_)
  cases d with
  | true=>exact ha pins s1 σ H1 Q I1 q1
  | false=>exact hb pins s1 σ H1 Q I1 q1
end
end L2
namespace L2
open PySem PySem.Spec PyProof.Rows
def SqL (K:aj) (H:Hp) (a:ae) (xs:List V):Prop:=
  Rd H a (.lst xs) \/
    ∃ (o:Obj) (its:Array af) (n:Nat),K.lookup a=some o/\o.cls=.type "list"/\o.dict=none/\o.data=.seq its n/\its.size<=aE/\dQ xs its.toList
def SqT (K:aj) (H:Hp) (a:ae) (xs:List V):Prop:=
  Rd H a (.tup xs) \/
    ∃ (o:Obj) (its:Array af) (n:Nat),K.lookup a=some o/\o.cls=.type "tuple"/\o.data=.seq its n/\its.size<=aE/\dQ xs its.toList
def absV:af->Option V
  | .none=>some .non
  | .bool b=>some (.bl b)
  | .int i _=>some (.int i)
  | .str x _=>some (.str x)
  | .bytes b _=>some (.byt b)
  | .float b _=>some (.flt b)
  | .ref a=>some (.ref a)
  | .type n=>some (.ty n)
  | _=>none
theorem RelV.abs {x:V} {u:af} (r:RelV x u):absV u=some x:=by
  cases x with
  | non=>cases r; rfl
  | bl _=>cases r; rfl
  | int _=>obtain ⟨t,rfl⟩:=r; rfl
  | str _=>obtain ⟨t,rfl⟩:=r; rfl
  | byt _=>obtain ⟨t,rfl⟩:=r; rfl
  | flt _=>obtain ⟨t,rfl⟩:=r; rfl
  | ref _=>cases r; rfl
  | ty _=>cases r; rfl
theorem RelV.inj {x y:V} {u:af} (r:RelV x u) (q:RelV y u):x=y:=eW (r.abs.symm.trans q.abs)
theorem dQ.inj:∀ {xs ys:List V} {us:List af},dQ xs us->dQ ys us->xs=ys:=by
  intro xs ys us p
  induction p generalizing ys with
  | nil =>
    intro q
    cases q
    rfl
  | cons r t ih =>
    intro q
    cases q with
    | cons r' t'=>rw [r.inj r',ih t']
section
variable {X:Cx} {pins:List (ae×Obj)} {σ:St} {H:Hp} {s:ax} {a:ae} {xs ys:List V}
theorem SqL.of {K:aj} (h:H a=some (.lst xs)):SqL K H a xs:=.inl (.inl h)
theorem SqT.of {K:aj} (h:H a=some (.tup xs)):SqT K H a xs:=.inl (.inl h)
theorem Inv.list (I:Inv X pins σ H s) (h:SqL X.K H a xs):∃ its:List af,dQ xs its/\PlainL s.heap a its.toArray/\xs.length<=aE:=by
  rcases h with h | ⟨o,its,n,hk,hc,hd,hs,hz,r⟩
  · obtain ⟨z,its,n,r,e⟩:=h.ok I.hok
    exact ⟨its,r,⟨_,n,e,rfl,rfl,rfl⟩,z⟩
  · refine ⟨its.toList,r,⟨o,n,I.kIn a o hk,hc,hd,by simpa using hs⟩,?_⟩
    have e:=r.length
    simp only [j6] at e
    omega
theorem Inv.tuple (I:Inv X pins σ H s) (h:SqT X.K H a xs):∃ its:List af,dQ xs its/\IsTup s.heap a its.toArray/\xs.length<=aE:=by
  rcases h with h | ⟨o,its,n,hk,hc,hs,hz,r⟩
  · obtain ⟨z,its,r,p⟩:=h.ok I.hok
    exact ⟨its,r,p,z⟩
  · refine ⟨its.toList,r,⟨o,I.kIn a o hk,hc,n,by simpa using hs⟩,?_⟩
    have e:=r.length
    simp only [j6] at e
    omega
theorem Inv.list_inj (I:Inv X pins σ H s) (h:SqL X.K H a xs) (h':SqL X.K H a ys):xs=ys:=by
  obtain ⟨its,r,⟨o,n,e,_,_,d⟩,_⟩:=I.list h
  obtain ⟨its',r',⟨o',n',e',_,_,d'⟩,_⟩:=I.list h'
  rw [e] at e'; cases e'
  rw [d] at d'
  injection d' with d1 _
  have:its=its':=by simpa using congrArg Dk d1
  subst this
  exact r.inj r'
theorem Inv.tuple_inj (I:Inv X pins σ H s) (h:SqT X.K H a xs) (h':SqT X.K H a ys):xs=ys:=by
  obtain ⟨its,r,⟨o,e,_,n,d⟩,_⟩:=I.tuple h
  obtain ⟨its',r',⟨o',e',_,n',d'⟩,_⟩:=I.tuple h'
  rw [e] at e'; cases e'
  rw [d] at d'
  injection d' with d1 _
  have:its=its':=by simpa using congrArg Dk d1
  subst this
  exact r.inj r'
end
abbrev Cx.wish (X:Cx) (E:af->ax->Prop):Cx:={X with xe:=E}
abbrev Cx.nox (X:Cx):Cx:=X.wish fun _ _=>False
theorem Cx.Ok.wish {X:Cx} (ok:X.Ok) (E:af->ax->Prop):(X.wish E).Ok:=
  ⟨ok.mod,ok.kind,ok.glob,ok.blt,ok.above,ok.inj,ok.has,ok.cab,ok.hd,ok.frames,ok.stk,ok.exf,ok.bs,ok.bsz,ok.noex,ok.exfs,ok.funs,ok.frf⟩
theorem Cx.Ok.unwish {X:Cx} {E:af->ax->Prop} (ok:(X.wish E).Ok):X.Ok:=
  ⟨ok.mod,ok.kind,ok.glob,ok.blt,ok.above,ok.inj,ok.has,ok.cab,ok.hd,ok.frames,ok.stk,ok.exf,ok.bs,ok.bsz,ok.noex,ok.exfs,ok.funs,ok.frf⟩
section
variable {X:Cx} {pins:List (ae×Obj)} {σ:St} {H:Hp} {s:ax} {E:af->ax->Prop}
theorem Inv.wish (I:Inv X pins σ H s) (E:af->ax->Prop):Inv (X.wish E) pins σ H s:=⟨I.ok.wish E,I.os,I.bare,I.base,I.loc,I.cell,I.free,I.freeC,I.pin,I.hok,I.len⟩
theorem Inv.unwish (I:Inv (X.wish E) pins σ H s):Inv X pins σ H s:=⟨I.ok.unwish,I.os,I.bare,I.base,I.loc,I.cell,I.free,I.freeC,I.pin,I.hok,I.len⟩
theorem SP.unwish {D:lB} {f:Flow} {s':ax} (h:SP (X.wish E) pins D f s'):SP X pins D f s':=by
  cases f with
  | next=>obtain ⟨σ',H',I,q⟩:=h; exact ⟨σ',H',I.unwish,q⟩
  | brk=>obtain ⟨σ',H',I,q⟩:=h; exact ⟨σ',H',I.unwish,q⟩
  | cont=>obtain ⟨σ',H',I,q⟩:=h; exact ⟨σ',H',I.unwish,q⟩
  | ret u=>obtain ⟨v,σ',H',I,r,q⟩:=h; exact ⟨v,σ',H',I.unwish,r,q⟩
theorem PSs.nox {st:List dU} {t:TS} (h:PSs X.nox st t):PSs X st t:=fun pins s σ H D I hw =>
  fh (h pins s σ H D (I.wish _) hw) (fun _ _ q=>q.unwish) fun _ _ z=>dX z
end
section
variable {X:Cx} {st:dU} {rest:List dU} {t u:TS} {e:cZ} {te:TE} {pos:Pos}
def Ct:TS:=fun D σ H=>D.nx σ H
def tSeq (t u:TS):TS:=fun D σ H=>t {D with nx:=u D} σ H
theorem bH:PSs X [] Ct:=fun _ _ σ H _ I h=>kT ⟨σ,H,I,h⟩
theorem ah (h1:PS X st t) (h2:PSs X rest u):PSs X (st :: rest) (tSeq t u):=by
  intro pins s σ H D I h
  refine wpAny_execs_cons (thn (h1 pins s σ H {D with nx:=u D} I h) fun f s1 q=>?_)
  cases f with
  | next =>
    obtain ⟨σ',H',I',q⟩:=q
    exact h2 pins s1 σ' H' D I' q
  | ret v=>exact q
  | brk=>exact q
  | cont=>exact q
theorem au (h1:PS X st t):PSs X [st] t:=by
  intro pins s σ H D I h
  refine wpAny_execs_cons (thn (h1 pins s σ H D I h) fun f s1 q=>?_)
  cases f with
  | next=>exact kT q
  | ret v=>exact q
  | brk=>exact q
  | cont=>exact q
theorem Inv.quiet {pins:List (ae×Obj)} {σ:St} {H:Hp} {s:ax} (I:Inv X pins σ H s):interactive X.env=false:=by simp [interactive,I.ok.kind]
def tDrop (te:TE):TS:=fun D σ H=>te σ H fun _ H1=>D.nx σ H1
theorem dv (he:PE X e te) (hs:tH e none pos.line X.env=pure false:=by rfl):PS X (.Expr e pos) (tDrop te):=by
  intro pins s σ H D I h
  exact wpAny_Expr_any (thn (he pins s σ H _ I h) fun v s1 ⟨x,H1,I1,r1,q1⟩=>⟨σ,H1,I1,q1⟩) I.quiet hs
def tRet (te:TE):TS:=fun D σ H=>te σ H D.rt
theorem bD (he:PE X e te):PS X (.Return (some e) pos) (tRet te):=by
  intro pins s σ H D I h
  exact wpAny_Return_some (thn (he pins s σ H _ I h) fun v s1 ⟨x,H1,I1,r1,q1⟩=>⟨x,σ,H1,I1,r1,q1⟩)
def Dl (c:TT) (t u:TS):TS:=fun D σ H=>c σ H fun b H1=>if b=true then t D σ H1 else u D σ H1
theorem cK {c:cZ} {a b:List dU} {tc:TT} (hc:PT X c tc) (ha:PSs X a t) (hb:PSs X b u):PS X (.If c a b pos) (Dl tc t u):=by
  intro pins s σ H D I h
  refine wpAny_If (thn (hc pins s σ H _ I h) fun d s1 ⟨H1,I1,q1⟩=>?_)
  cases d with
  | true=>exact ha pins s1 σ H1 D I1 q1
  | false=>exact hb pins s1 σ H1 D I1 q1
def Dn:TS:=fun _ _ _=>False
theorem rW {sts:List dU}:PSs X sts Dn:=fun _ _ _ _ _ _ h=>h.elim
end
abbrev TG:=V->St->Hp->(St->Hp->Prop)->Prop
abbrev TGs:=List V->St->Hp->(St->Hp->Prop)->Prop
def PG (X:Cx) (target:cZ) (t:TG):Prop:=
  ∀ (pins:List (ae×Obj)) (s:ax) (σ:St) (H:Hp) (v:V) (u:af) (Q:St->Hp->Prop),Inv X pins σ H s->RelV v u->t v σ H Q ->
    b8 (cm X.prog X.w) X.A (tI target X.env u) (fun _ s'=>∃ σ' H',Inv X pins σ' H' s'/\Q σ' H') X.xe s
def PGs (X:Cx) (ts:List cZ) (t:TGs):Prop:=
  ∀ (pins:List (ae×Obj)) (s:ax) (σ:St) (H:Hp) (vs:List V) (us:List af) (Q:St->Hp->Prop),Inv X pins σ H s->dQ vs us->t vs σ H Q ->
    b8 (cm X.prog X.w) X.A (assignInOrder ((j9 ts X.env).map (·.2)) us) (fun _ s'=>∃ σ' H',Inv X pins σ' H' s'/\Q σ' H') X.xe s
abbrev Do:=V->V->V->Hp->(Hp->Prop)->Prop
def PSet (X:Cx) (t:Do):Prop:=
  ∀ (pins:List (ae×Obj)) (s:ax) (σ:St) (H:Hp) (o i v:V) (ov iv u:af) (Q:Hp->Prop),Inv X pins σ H s->RelV o ov->RelV i iv->RelV v u->t o i v H Q ->
    b8 (cm X.prog X.w) X.A (setItem ov iv u) (fun _ s'=>∃ H',Inv X pins σ H' s'/\Q H') X.xe s
section
variable {X:Cx} {pos:Pos}
def w6 (i:Nat):TG:=fun v σ H Q=>Q (σ.set i (some v)) H
theorem cP {i:Nat} {x:Str} (hN:X.N.Nodup) (hi:X.N[i]?=some x) (hx:Loc X.env.scope x) (hf:X.fn x=true\/X.env.scope.names.lookup x=some .local:=by first | exact .inl rfl | exact .inr rfl | assumption):PG X (.Name x pos) (w6 i):=by
  intro pins s σ H v u Q I r h
  exact EZ (oq I hN hi hx r (fun s' I'=>⟨_,H,I',h⟩) hf)
def gNil:TGs:=fun vs σ H Q=>vs=[]/\Q σ H
def gCons (t:TG) (u:TGs):TGs:=fun vs σ H Q=>∃ v r,vs=v :: r/\t v σ H fun σ' H'=>u r σ' H' Q
theorem kI:PGs X [] gNil:=by
  intro pins s σ H vs us Q I r h
  obtain ⟨e,h⟩:=h
  subst e
  cases r
  exact assignInOrder_nil ⟨σ,H,I,h⟩
theorem eX {e:cZ} {es:List cZ} {t:TG} {u:TGs} (h1:PG X e t) (h2:PGs X es u)
    (hs:(j9 (e :: es) X.env).map (·.2)=tI e X.env :: (j9 es X.env).map (·.2):=by rfl):PGs X (e :: es) (gCons t u):=by
  intro pins s σ H vs us Q I r h
  obtain ⟨v,vr,e1,h⟩:=h
  subst e1
  cases r with
  | cons r rr =>
    rw [hs]
    refine assignInOrder_cons (thn (h1 pins s σ H _ _ _ I r h) fun _ s1 ⟨σ1,H1,I1,q1⟩=>?_)
    exact h2 pins s1 σ1 H1 _ _ Q I1 rr q1
def gTup (K:aj) (n:Nat) (t:TGs):TG:=fun v σ H Q=>∃ a xs,v=.ref a/\SqT K H a xs/\xs.length=n/\t xs σ H Q
theorem nV {es:List cZ} {k:Nat} {t:TGs} {n:Nat} (hc:X.calm=true) (h:PGs X es t)
    (hn:(j9 es X.env).length=n:=by rfl) (hst:(j9 es X.env).findIdx? (·.1)=none:=by rfl):PG X (.Tuple es k pos) (gTup X.K n t):=by
  intro pins s σ H v u Q I r hw
  obtain ⟨a,xs,e1,hq,hl,hw⟩:=hw
  subst e1
  cases r
  obtain ⟨its,rv,ht,hz⟩:=I.tuple hq
  refine assign_Tuple_tuple (I.ok.hd hc) ht (by simp [hn,<- hl,rv.length]) hst fun h' hx=>?_
  have I1:Inv X pins σ H {s with heap:=h'}:=I.kept (t':=s.toks) fun b o e=>hx b o (cA (bO e)) e
  exact h pins _ σ H xs _ Q I1 (by simpa using rv) hw
def gSub (to ti:TE) (t:Do):TG:=fun v σ H Q=>to σ H fun o H1=>ti σ H1 fun i H2=>t o i v H2 fun H3=>Q σ H3
theorem qv {o i:cZ} {to ti:TE} {t:Do} (ho:PE X o to) (hi:PE X i ti) (hs:PSet X t)
    (ha:∀ v,tI (.Subscript o i pos) X.env v=(do
      let ov <- pI [v] (gj o X.env)
      let iv <- pI [v,ov] (gj i X.env)
      vy pos
      pI [v,ov,iv] (setItem ov iv v)
      release [v,ov,iv] []):=by intro _; rfl):PG X (.Subscript o i pos) (gSub to ti t):=by
  intro pins s σ H v u Q I r h
  rw [ha]
  refine aF (gT (thn (ho pins s σ H _ I h) fun ov s1 ⟨x,H1,I1,r1,q1⟩=>?_))
  refine aF (gT (thn (hi pins s1 σ H1 _ I1 q1) fun iv s2 ⟨y,H2,I2,r2,q2⟩=>?_))
  refine aF (yg (aF (gT (thn (hs pins s2 σ H2 x y v ov iv u _ I2 r1 r2 r q2) fun _ s3 ⟨H3,I3,q3⟩=>?_))))
  exact wpAny_release ⟨σ,H3,I3,q3⟩
def A8 (te:TE) (g:TG):TS:=fun D σ H=>te σ H fun x H1=>g x σ H1 D.nx
theorem oU {tg e:cZ} {te:TE} {g:TG} (he:PE X e te) (hg:PG X tg g) (hs:swapsWithSole [tg] e pos.line X.env=pure false:=by rfl) (hw:swappedStores [tg] e X.env=pure none:=by rfl)
    (h1:(j9 [tg] X.env).map (·.2)=[tI tg X.env]:=by rfl):PS X (.Assign [tg] e pos) (A8 te g):=by
  intro pins s σ H D I h
  refine wpAny_Assign_stores (thn (he pins s σ H _ I h) fun v s1 ⟨x,H1,I1,r1,q1⟩=>?_) hs hw
  rw [h1]
  exact thn (hg pins s1 σ H1 x v _ I1 r1 q1) fun _ s2 q=>q
theorem bF {i:Nat} {x:Str} {e:cZ} {te:TE} {pos':Pos} (hN:X.N.Nodup) (hi:X.N[i]?=some x) (hx:Loc X.env.scope x) (he:PE X e te) (hs:tH e (some (.Name x pos')) pos.line X.env=pure false:=by rfl) (hf:X.fn x=true\/X.env.scope.names.lookup x=some .local:=by first | exact .inl rfl | exact .inr rfl | assumption) :
    PS X (.Assign [.Name x pos'] e pos) (A8 te (w6 i)):=by
  intro pins s σ H D I h
  refine wpAny_Assign_Name (thn (he pins s σ H _ I h) fun v s1 ⟨y,H1,I1,r1,q1⟩=>?_) hs
  exact oq I1 hN hi hx r1 (fun s2 I2=>⟨_,H1,I2,q1⟩) hf
end
section
variable {X:Cx} {pos:Pos}
def Dp (c:TT) (tb:TS):TS:=fun D σ H=>∃ W:Nat->St->Hp->Prop,(∃ m,W m σ H)/\∀ m σ H,W m σ H ->
  c σ H fun b H1=>if b=true then ∃ N:St->Hp->Prop,(∀ σ' H',N σ' H'->∃ m',m' < m/\W m' σ' H')/\tb {D with nx:=N,ct:=N,bk:=D.nx} σ H1 else D.nx σ H1
theorem zm {c:cZ} {body:List dU} {tc:TT} {tb:TS} (hp:PassesOwn (cm X.prog X.w) X.A X.env X.xe) (hc:PT X c tc) (hb:PSs X body tb):PS X (.While c body [] pos) (Dp tc tb):=by
  intro pins s σ H D I h
  obtain ⟨W,⟨m0,w0⟩,turn⟩:=h
  refine wpAny_While (codeAny_whileLoop (fun n s'=>∃ σ' H',Inv X pins σ' H' s'/\W n σ' H') ?_ m0 ⟨σ,H,I,w0⟩)
  rintro n s1 ⟨σ1,H1,I1,w1⟩
  refine iz hp (thn (hc pins s1 σ1 H1 _ I1 (turn n σ1 H1 w1)) fun b s2 ⟨H2,I2,q2⟩=>?_)
  cases b with
  | true =>
    obtain ⟨N,hN,q2⟩:=q2
    rw [if_pos rfl]
    refine iz hp (thn (hb pins s2 σ1 H2 _ I2 q2) fun f s3 q3=>?_)
    cases f with
    | next =>
      obtain ⟨σ3,H3,I3,n3⟩:=q3
      obtain ⟨m',hm,w3⟩:=hN σ3 H3 n3
      exact ⟨m',hm,σ3,H3,I3,w3⟩
    | cont =>
      obtain ⟨σ3,H3,I3,n3⟩:=q3
      obtain ⟨m',hm,w3⟩:=hN σ3 H3 n3
      exact ⟨m',hm,σ3,H3,I3,w3⟩
    | brk=>exact q3
    | ret v=>exact q3
  | false =>
    rw [if_neg bU]
    exact kT ⟨σ1,H2,I2,q2⟩
end
structure It where
  go:Nat->Hp->Prop
  yld:Nat->Hp->V->Hp->Prop
  stop:Nat->Hp->Prop
def vI (X:Cx) (pins:List (ae×Obj)) (H:Hp) (b:ae):Prop:=
  H b=none/\b≠X.env.locals/\b∉X.fs/\(b∈X.ex\/X.s₀.heap.objs.size<=b)/\(∀ x c,X.env.cells.lookup x=some c->c≠b)/\∀ p∈X.pn++pins,p.1≠b
theorem Inv.fpOk {X:Cx} {pins:List (ae×Obj)} {σ:St} {H H':Hp} {s:ax} {b:ae} (I:Inv X pins σ H s) (hb:s.heap.objs.size<=b) (hn:H' b=none):vI X pins H' b:=by
  refine ⟨hn,vJ (bP I.lt hb),I.nofs hb,.inr (cU I.sz hb),fun x c e z=>?_,fun p hp z=>?_⟩
  · obtain ⟨v,q⟩:=I.cell x c e
    exact absurd (bP q.lt (by rw [z]; exact hb)) (ij _)
  · exact absurd (bP (bO (I.pin p hp).1) (by rw [z]; exact hb)) (ij _)
structure yh (P:aX) (w:cz) (K:aj) (tg:cZ) (J:It) (fp:List ae) (it:ae) (tn:Nat->cR->Prop):Prop where
  mem:it∈fp
  obj:∀ i h,tn i h->∀ b∈fp,∃ o,h.get? b=some o/\∀ v,o.data≠.cell v
  keep:∀ i h h',tn i h->(∀ b∈fp,∀ o,h.get? b=some o->h'.get? b=some o)->tn i h'
  item:∀ (X:Cx),X.prog=P->X.w=w->X.K=K->X.calm=true->∀ (i:Nat) (pins:List (ae×Obj)) (s:ax) (σ:St) (H:Hp) (E:af->ax->Prop),Inv X pins σ H s->(∀ b∈fp,vI X pins H b)->tn i s.heap->J.go i H ->
    b8 (cm P w) X.A (pyNext (.ref it)) (fun r s1=>∃ u,r=some u /\
      b8 (cm P w) X.A (om tg (.ref it) u) (fun _ s2=>∃ x H',Inv X pins σ H' s2/\RelV x u/\J.yld i H x H'/\tn (i + 1) s2.heap/\∀ b∈fp,H' b=none) E s1) E s
  done:∀ (X:Cx),X.prog=P->X.w=w->X.K=K->X.calm=true->∀ (i:Nat) (pins:List (ae×Obj)) (s:ax) (σ:St) (H:Hp) (E:af->ax->Prop),Inv X pins σ H s->(∀ b∈fp,vI X pins H b)->tn i s.heap->J.stop i H ->
    b8 (cm P w) X.A (pyNext (.ref it)) (fun r s1=>r=none/\Inv X pins σ H s1) E s
  self:∀ (A:cO) (i:Nat) (s:ax) (Q:af->ax->Prop) (E:af->ax->Prop),tn i s.heap->Q (.ref it) s->b8 (cm P w) A (pyIter (.ref it)) Q E s
abbrev TI:=St->Hp->(It->Hp->Prop)->Prop
def PIE (X:Cx) (pins:List (ae×Obj)) (σ:St) (tg:cZ) (R:It->Hp->Prop) (itv:af) (s2:ax):Prop:=
  ∃ (it:ae) (fp:List ae) (tn:Nat->cR->Prop) (J:It) (H':Hp),itv=.ref it/\Inv X pins σ H' s2/\yh X.prog X.w X.K tg J fp it tn/\tn 0 s2.heap/\(∀ b∈fp,vI X pins H' b)/\R J H'
def PI (X:Cx) (tg iter:cZ) (wi:TI):Prop:=
  ∀ (pins:List (ae×Obj)) (s:ax) (σ:St) (H:Hp) (R:It->Hp->Prop),Inv X pins σ H s->wi σ H R ->
    b8 (cm X.prog X.w) X.A (gj iter X.env) (fun v s1=>b8 (cm X.prog X.w) X.A (pyIter v) (PIE X pins σ tg R) X.xe s1) X.xe s
theorem w8 {M:A7} {A:cO} {E:af->ax->Prop} {s:ax} {tg:cZ} {it:ae} {u:af} {o:Obj} {n:String} {vs:Array af} {Q:Unit->ax->Prop} (ho:s.heap.get? it=some o) (hc:o.cls=.type n) (hd:o.data=.fields vs)
    (hn:["enumerate","zip","dict_itemiterator","dict_reverseitemiterator","odict_iterator","itertools.zip_longest","itertools.pairwise"].contains n=false) (hQ:Q () s):b8 M A (om tg (.ref it) u) Q E s:=by
  unfold om
  cases tg <;> first
    | exact cg hQ
    | (cases u <;> first
        | exact cg hQ
        | (refine aF (wpAny_load ho ?_)
           rw [hc,hd]
           show b8 M A (if (["enumerate","zip","dict_itemiterator","dict_reverseitemiterator","odict_iterator","itertools.zip_longest","itertools.pairwise"].contains n && vs[0]? == some (oV _))=true then _ else _) Q E s
           rw [if_neg (by intro h; rw [hn,Bool.false_and] at h; cases h)]
           exact cg hQ))
def Itl (K:aj) (a:ae):It:=
  ⟨fun i H=>∃ xs x,SqL K H a xs/\xs[i]?=some x,fun i H x H'=>H'=H/\∀ xs,SqL K H a xs->xs[i]?=some x,fun i H=>∃ xs,SqL K H a xs/\xs.length<=i⟩
def Itt (K:aj) (a:ae):It:=
  ⟨fun i H=>∃ xs x,SqT K H a xs/\xs[i]?=some x,fun i H x H'=>H'=H/\∀ xs,SqT K H a xs->xs[i]?=some x,fun i H=>∃ xs,SqT K H a xs/\xs.length<=i⟩
def Itr (lo:Int) (n:Nat):It:=⟨fun i _=>i < n,fun i H x H'=>H'=H/\x=.int (lo + i),fun i _=>n<=i⟩
theorem yi {P:aX} {w:cz} {K:aj} {tg:cZ} (a it:ae):yh P w K tg (Itl K a) [it] it (fun i h=>h.IsListIter it a i) where
  mem:=by simp
  obj:=fun i h st b hb=>by
    have e:b=it:=by simpa using hb
    subst e
    obtain ⟨o,e,c,d⟩:=st
    exact ⟨o,e,fun v z=>by rw [d] at z; cases z⟩
  keep:=fun i h h' st k=>st.at fun o e=>k it (by simp) o e
  item:=by
    intro X hP hw hK hc i pins s σ H E I hf st hg
    subst hP hw hK
    obtain ⟨xs,x,hq,hx⟩:=hg
    obtain ⟨its,rv,p,hz⟩:=I.list hq
    obtain ⟨u,hu,ru⟩:=rv.get hx
    obtain ⟨f0,f1,f2,f3,f4,f5⟩:=hf it (by simp)
    refine wpAny_pyNext_list_item st p.isList (x:=u) (by simpa using hu) fun h' st' sb=>?_
    have I1:Inv X pins σ H {s with heap:=h'}:=I.turned (t':=s.toks) (fun b o hb e=>(sb.2 b hb).trans e) f0 f1 f3 f4 f5
    obtain ⟨o,e,c,d⟩:=id st'
    exact ⟨u,rfl,w8 (s:={s with heap:=h'}) e c d (by decide) ⟨x,H,I1,ru,⟨rfl,fun ys hy=>by rw [I.list_inj hy hq]; exact hx⟩,st',fun b hb=>(hf b hb).1⟩⟩
  done:=by
    intro X hP hw hK hc i pins s σ H E I hf st hg
    subst hP hw hK
    obtain ⟨xs,hq,hx⟩:=hg
    obtain ⟨its,rv,p,hz⟩:=I.list hq
    obtain ⟨f0,f1,f2,f3,f4,f5⟩:=hf it (by simp)
    have hl:=rv.length
    exact wpAny_pyNext_list_end (I.ok.hd hc) st p.isList (by simp; omega) fun h' eb=>⟨rfl,I.turned (t':=s.toks) (fun b o hb e=>eb b o hb e) f0 f1 f3 f4 f5⟩
  self:=fun _ _ _ _ _ st h=>wpAny_pyIter_listiter st h
theorem vK {P:aX} {w:cz} {K:aj} {tg:cZ} (a it:ae):yh P w K tg (Itt K a) [it] it (fun i h=>h.IsTupleIter it a i) where
  mem:=by simp
  obj:=fun i h st b hb=>by
    have e:b=it:=by simpa using hb
    subst e
    obtain ⟨o,e,c,d⟩:=st
    exact ⟨o,e,fun v z=>by rw [d] at z; cases z⟩
  keep:=fun i h h' st k=>st.at fun o e=>k it (by simp) o e
  item:=by
    intro X hP hw hK hc i pins s σ H E I hf st hg
    subst hP hw hK
    obtain ⟨xs,x,hq,hx⟩:=hg
    obtain ⟨its,rv,p,hz⟩:=I.tuple hq
    obtain ⟨u,hu,ru⟩:=rv.get hx
    obtain ⟨f0,f1,f2,f3,f4,f5⟩:=hf it (by simp)
    refine wpAny_pyNext_tuple_item st (show s.heap.IsTuple a its.toArray from p) (x:=u) (by simpa using hu) fun h' st' sb=>?_
    have I1:Inv X pins σ H {s with heap:=h'}:=I.turned (t':=s.toks) (fun b o hb e=>(sb.2 b hb).trans e) f0 f1 f3 f4 f5
    obtain ⟨o,e,c,d⟩:=id st'
    exact ⟨u,rfl,w8 (s:={s with heap:=h'}) e c d (by decide) ⟨x,H,I1,ru,⟨rfl,fun ys hy=>by rw [I.tuple_inj hy hq]; exact hx⟩,st',fun b hb=>(hf b hb).1⟩⟩
  done:=by
    intro X hP hw hK hc i pins s σ H E I hf st hg
    subst hP hw hK
    obtain ⟨xs,hq,hx⟩:=hg
    obtain ⟨its,rv,p,hz⟩:=I.tuple hq
    obtain ⟨f0,f1,f2,f3,f4,f5⟩:=hf it (by simp)
    have hl:=rv.length
    exact wpAny_pyNext_tuple_end (I.ok.hd hc) st (show s.heap.IsTuple a its.toArray from p) (by simp; omega) fun h' eb=>⟨rfl,I.turned (t':=s.toks) (fun b o hb e=>eb b o hb e) f0 f1 f3 f4 f5⟩
  self:=fun _ _ _ _ _ st h=>wpAny_pyIter_tupleiter st h
theorem vL {P:aX} {w:cz} {K:aj} {tg:cZ} (it:ae) (lo:Int) (n:Nat):yh P w K tg (Itr lo n) [it] it (fun i h=>IsRangeIter h it (lo + (i:Nat) * 1) ((n:Int) - (i:Nat)) 1) where
  mem:=by simp
  obj:=fun i h st b hb=>by
    have e:b=it:=by simpa using hb
    subst e
    exact ⟨_,st,fun v z=>by
      have z':Data.fields _=Data.cell v:=z
      cases z'⟩
  keep:=fun i h h' st k=>k it (by simp) _ st
  item:=by
    intro X hP hw hK hc i pins s σ H E I hf st hg
    subst hP hw hK
    obtain ⟨f0,f1,f2,f3,f4,f5⟩:=hf it (by simp)
    have W:=Walks.range (prog:=X.prog) (w:=X.w) (I.ok.hd hc) it lo 1 n
    refine W.item i s _ _ hg st fun v h' tk hv st' kk=>?_
    obtain ⟨t,rfl⟩:=hv
    have I1:Inv X pins σ H {s with heap:=h',toks:=tk}:=I.turned (fun b o hb e=>kk b o (by simpa using hb) e) f0 f1 f3 f4 f5
    refine ⟨_,rfl,w8 (s:={s with heap:=h',toks:=tk}) (n:="range_iterator") st' rfl rfl (by decide) ⟨.int (lo + i),H,I1,⟨t,?_⟩,⟨rfl,rfl⟩,st',fun b hb=>(hf b hb).1⟩⟩
    rw [Int.mul_one]
  done:=by
    intro X hP hw hK hc i pins s σ H E I hf st hg
    subst hP hw hK
    obtain ⟨f0,f1,f2,f3,f4,f5⟩:=hf it (by simp)
    exact wpAny_pyNext_range_end (I.ok.hd hc) st (by have:n<=i:=hg; omega) fun h' eb=>⟨rfl,I.turned (t':=s.toks) (fun b o hb e=>eb b o hb e) f0 f1 f3 f4 f5⟩
  self:=fun _ _ _ _ _ st h=>wpAny_pyIter_rangeiter st h
end L2
namespace L2
open PySem PySem.Spec PyProof.Rows
section
variable {X:Cx} {tg:cZ}
def w9 (K:aj) (tl:TE):TI:=fun σ H R=>tl σ H fun x H1=>∃ a,x=.ref a/\(∃ xs,SqL K H1 a xs)/\R (Itl K a) H1
def iTup (K:aj) (tl:TE):TI:=fun σ H R=>tl σ H fun x H1=>∃ a,x=.ref a/\(∃ xs,SqT K H1 a xs)/\R (Itt K a) H1
theorem fj {l:cZ} {tl:TE} (hl:PE X l tl):PI X tg l (w9 X.K tl):=by
  intro pins s σ H R I h
  refine thn (hl pins s σ H _ I h) fun v s1 ⟨x,H1,I1,r1,q1⟩=>?_
  obtain ⟨a,e,⟨xs,hq⟩,q⟩:=q1
  subst e
  cases r1
  obtain ⟨its,rv,p,hz⟩:=I1.list hq
  refine wpAny_pyIter_list p.isList ?_
  refine ⟨s1.heap.objs.size,[s1.heap.objs.size],_,_,H1,rfl,I1.kept (t':=s1.toks) fun b o e=>aU _ e,yi a _,⟨_,cQ _ rfl,rfl,rfl⟩,fun b hb=>?_,q⟩
  have e:b=s1.heap.objs.size:=by simpa using hb
  subst e
  exact I1.fpOk (aS _) (I1.hok.fresh (aS _))
theorem Dq {l:cZ} {tl:TE} (hl:PE X l tl):PI X tg l (iTup X.K tl):=by
  intro pins s σ H R I h
  refine thn (hl pins s σ H _ I h) fun v s1 ⟨x,H1,I1,r1,q1⟩=>?_
  obtain ⟨a,e,⟨xs,hq⟩,q⟩:=q1
  subst e
  cases r1
  obtain ⟨its,rv,p,hz⟩:=I1.tuple hq
  refine wpAny_pyIter_tuple (show s1.heap.IsTuple a its.toArray from p) ?_
  refine ⟨s1.heap.objs.size,[s1.heap.objs.size],_,_,H1,rfl,I1.kept (t':=s1.toks) fun b o e=>aU _ e,vK a _,⟨_,cQ _ rfl,rfl,rfl⟩,fun b hb=>?_,q⟩
  have e:b=s1.heap.objs.size:=by simpa using hb
  subst e
  exact I1.fpOk (aS _) (I1.hok.fresh (aS _))
theorem zp {pins:List (ae×Obj)} {σ:St} {H:Hp} {s:ax} {R:It->Hp->Prop} {E:af->ax->Prop} {lo hi:Int} {t u v:Tok} {tk:Nat} (I:Inv X pins σ H s) (h1:-(2 ^ 62)<=lo) (h2:lo < 2 ^ 62) (h3:-(2 ^ 62)<=hi) (h4:hi < 2 ^ 62)
    (q:R (Itr lo (hi - lo).toNat) H):b8 (cm X.prog X.w) X.A (pyIter (.ref s.heap.objs.size)) (PIE X pins σ tg R) E {s with heap:=s.heap.push {cls:=.type "range",data:=.fields #[.int lo t,.int hi u,.int 1 v]},toks:=tk}:=by
  refine wpAny_pyIter_range (IsRange.new ..) (small_one h1 h2 h3 h4) ?_
  have I1:Inv X pins σ H {s with heap:=s.heap.push {cls:=.type "range",data:=.fields #[.int lo t,.int hi u,.int 1 v]},toks:=tk}:=I.kept fun b o e=>aU _ e
  refine ⟨(s.heap.push {cls:=.type "range",data:=.fields #[.int lo t,.int hi u,.int 1 v]}).objs.size,[(s.heap.push {cls:=.type "range",data:=.fields #[.int lo t,.int hi u,.int 1 v]}).objs.size],_,_,H,rfl,
    I1.kept (t':=tk) fun b o e=>aU _ e,vL _ lo (hi - lo).toNat,?_,fun b hb=>?_,q⟩
  · have e1:lo + ((0:Nat):Int) * 1=lo:=by simp
    have e2:(((hi - lo).toNat:Nat):Int) - ((0:Nat):Int)=Builtin.Range.rangeSize lo hi 1:=by rw [rangeSize_one]; split <;> omega
    show IsRangeIter _ _ (lo + ((0:Nat):Int) * 1) ((((hi - lo).toNat:Nat):Int) - ((0:Nat):Int)) 1
    rw [e1,e2]
    exact cQ _ rfl
  · have e:b=(s.heap.push {cls:=.type "range",data:=.fields #[.int lo t,.int hi u,.int 1 v]}).objs.size:=by simpa using hb
    subst e
    exact I1.fpOk (aS _) (I1.hok.fresh (aS _))
def Cu (ta:TA):TI:=fun σ H R=>ta σ H fun vs H1=>∃ j:Int,vs=[.int j]/\-(2 ^ 62)<=j/\j < 2 ^ 62/\R (Itr 0 j.toNat) H1
theorem iV {a:cZ} {ta:TA} {p pos:Pos} (hg:Gl X "range") (hm:X.mg "range"=none) (ha:PA X [a] ta) (hs:cW [a] X.env=[(false,gj a X.env)]:=by rfl):PI X tg (.Call (.Name "range" p) [a] [] pos) (Cu ta):=by
  intro pins s σ H R I h
  refine Call_ (tE I hg hm boot_range (oy (thn (ha pos pins s σ H _ I h) fun us s1 ⟨vs,H1,I1,r1,q1⟩=>?_) hs rfl))
  obtain ⟨j,e,q1,q2,q⟩:=q1
  subst e
  cases r1 with
  | cons r rr =>
    cases rr
    obtain ⟨t,rfl⟩:=r
    exact call_range_1 (zp I1 (by omega) (by omega) q1 q2 (by simpa using q))
def tFor (wi:TI) (g:TG) (tb:TS):TS:=fun D σ H=>wi σ H fun J H1=>∃ W:Nat->Nat->St->Hp->Prop,(∃ m,W 0 m σ H1)/\∀ i m σ H,W i m σ H ->
  (J.stop i H/\D.nx σ H)\/(J.go i H/\∃ N:St->Hp->Prop,(∀ σ' H',N σ' H'->∃ m',m' < m/\W (i + 1) m' σ' H')/\∀ x H',J.yld i H x H'->g x σ H' fun σ2 H2=>tb {D with nx:=N,ct:=N,bk:=D.nx} σ2 H2)
def oW (fp:List ae) (h:cR):List (ae×Obj):=fp.filterMap fun b=>(h.get? b).map fun o=>(b,o)
theorem lJ {fp:List ae} {h:cR} {b:ae} {o:Obj} (hb:b∈fp) (e:h.get? b=some o):(b,o)∈oW fp h:=oO.mpr ⟨b,hb,by rw [e]; rfl⟩
theorem yj {fp:List ae} {h:cR} {p:ae×Obj} (hp:p∈oW fp h):p.1∈fp/\h.get? p.1=some p.2:=by
  obtain ⟨b,hb,e⟩:=oO.mp hp
  cases q:h.get? b with
  | none=>rw [q] at e; cases e
  | some o =>
    rw [q] at e
    have e':(b,o)=p:=eW e
    subst e'
    exact ⟨hb,q⟩
theorem Inv.pinned {pins:List (ae×Obj)} {σ:St} {H:Hp} {s:ax} {fp:List ae} (I:Inv X pins σ H s) (hf:∀ b∈fp,vI X pins H b) (ho:∀ b∈fp,∃ o,s.heap.get? b=some o/\∀ v,o.data≠.cell v):Inv X (pins++oW fp s.heap) σ H s:=
  I.pins_of fun p hp=>(cE.mp hp).elim (fun z=>I.pin p (bK _ z)) fun z=>by
    obtain ⟨hb,e⟩:=yj z
    obtain ⟨f0,f1,f2,_⟩:=hf p.1 hb
    obtain ⟨o,e',d⟩:=ho p.1 hb
    rw [e] at e'; cases e'
    exact ⟨e,f0,f1,f2,d⟩
theorem Inv.unpinned {pins pl:List (ae×Obj)} {σ:St} {H:Hp} {s:ax} (I:Inv X (pins++pl) σ H s):Inv X pins σ H s:=I.pins_of fun p hp=>I.pin p (bK _ (dC _ hp))
theorem fq {iter:cZ} {body:List dU} {wi:TI} {g:TG} {tb:TS} {pos:Pos} (hp:PassesOwn (cm X.prog X.w) X.A X.env X.xe) (hc:X.calm=true) (hi:PI X tg iter wi) (hg:PG X tg g) (hb:PSs X body tb)
    (hs:∀ x,mr iter X.env x=pure x:=by intro _; rfl):PS X (.For tg iter body [] pos) (tFor wi g tb):=by
  intro pins s σ H D I h
  refine wpAny_For (thn (hi pins s σ H _ I h) fun v s1 h1=>thn h1 fun itv s2 h2=>?_) hs
  obtain ⟨it,fp,tn,J,H2,e,I2,T,st2,f2,W,⟨m0,w0⟩,turn⟩:=h2
  subst e
  -- what stays true of the iterator's objects through the loop
  have stat:∀ {H':Hp},(∀ b∈fp,H' b=none)->∀ b∈fp,vI X pins H' b:=fun hn b hb=>⟨hn b hb,(f2 b hb).2⟩
  refine codeAny_forLoop_any (fun n s'=>∃ i σ' H',Inv X pins σ' H' s'/\tn i s'.heap/\(∀ b∈fp,H' b=none)/\W i n σ' H') ?_ m0 ⟨0,σ,H2,I2,st2,fun b hb=>(f2 b hb).1,w0⟩
  rintro n s3 ⟨i,σ3,H3,I3,st3,fr3,w3⟩
  rcases turn i n σ3 H3 w3 with ⟨stop,qn⟩ | ⟨go,N,hN,step⟩
  · refine iz hp (thn (T.done X rfl rfl rfl hc i pins s3 σ3 H3 X.xe I3 (stat fr3) st3 stop) fun r s4 ⟨hr,I4⟩=>?_)
    subst hr
    exact kT ⟨σ3,H3,I4,qn⟩
  · refine iz hp (thn (T.item X rfl rfl rfl hc i pins s3 σ3 H3 X.xe I3 (stat fr3) st3 go) fun r s4 ⟨u,hr,h4⟩=>?_)
    subst hr
    refine iz hp (thn h4 fun _ s5 ⟨x,H5,I5,r5,y5,st5,fr5⟩=>?_)
    have I5':=I5.pinned (stat fr5) (T.obj _ _ st5)
    refine iz hp (thn (hg _ s5 σ3 H5 x u _ I5' r5 (step x H5 y5)) fun _ s6 ⟨σ6,H6,I6,q6⟩=>?_)
    refine iz hp (thn (hb _ s6 σ6 H6 _ I6 q6) fun f s7 q7=>?_)
    have again:∀ {σ7:St} {H7:Hp},Inv X (pins++oW fp s5.heap) σ7 H7 s7->N σ7 H7->∃ m,m < n/\∃ i σ' H',Inv X pins σ' H' s7/\tn i s7.heap/\(∀ b∈fp,H' b=none)/\W i m σ' H':=fun {σ7 H7} I7 n7=>by
      obtain ⟨m',hm,w7⟩:=hN σ7 H7 n7
      refine ⟨m',hm,i + 1,σ7,H7,I7.unpinned,T.keep _ _ _ st5 fun b hb o e=>(I7.pin (b,o) (bK _ (bK _ (lJ hb e)))).1,fun b hb=>?_,w7⟩
      obtain ⟨o,e,d⟩:=T.obj _ _ st5 b hb
      exact (I7.pin (b,o) (bK _ (bK _ (lJ hb e)))).2.1
    cases f with
    | next=>obtain ⟨σ7,H7,I7,n7⟩:=q7; exact again I7 n7
    | cont=>obtain ⟨σ7,H7,I7,n7⟩:=q7; exact again I7 n7
    | brk=>obtain ⟨σ7,H7,I7,q7⟩:=q7; exact ⟨σ7,H7,I7.unpinned,q7⟩
    | ret v=>obtain ⟨x7,σ7,H7,I7,r7,q7⟩:=q7; exact ⟨x7,σ7,H7,I7.unpinned,r7,q7⟩
end
theorem fY {K:aj} {a:ae} {xs:List V} {g:TG} {tb:TS} {D:lB} {σ:St} {H:Hp} (Pv:Nat->St->Hp->Prop) (h0:Pv 0 σ H) (hl:∀ i σ H,i<=xs.length->Pv i σ H->SqL K H a xs)
    (hs:∀ i x σ H,xs[i]?=some x->Pv i σ H->g x σ H fun σ2 H2=>tb {D with nx:=Pv (i + 1),ct:=Pv (i + 1),bk:=D.nx} σ2 H2) (hd:∀ σ H,Pv xs.length σ H->D.nx σ H) :
    ∃ W:Nat->Nat->St->Hp->Prop,(∃ m,W 0 m σ H)/\∀ i m σ H,W i m σ H ->
      ((Itl K a).stop i H/\D.nx σ H)\/((Itl K a).go i H/\∃ N:St->Hp->Prop,(∀ σ' H',N σ' H'->∃ m',m' < m/\W (i + 1) m' σ' H')/\∀ x H',(Itl K a).yld i H x H'->g x σ H' fun σ2 H2=>tb {D with nx:=N,ct:=N,bk:=D.nx} σ2 H2):=by
  refine ⟨fun i m σ H=>m=xs.length - i/\i<=xs.length/\Pv i σ H,⟨xs.length,by simp,bV _,h0⟩,?_⟩
  rintro i m σ H ⟨rfl,hi,p⟩
  have q:=hl i σ H hi p
  by_cases hlt:i < xs.length
  · refine .inr ⟨⟨xs,xs[i],q,by simp [hlt]⟩,Pv (i + 1),fun σ' H' p'=>⟨xs.length - (i + 1),by omega,rfl,hlt,p'⟩,fun x H' y=>?_⟩
    obtain ⟨e,y⟩:=y
    subst e
    exact hs i x σ _ (y xs q) p
  · have e:i=xs.length:=by omega
    subst e
    exact .inl ⟨⟨xs,q,aS _⟩,hd σ H p⟩
theorem iW {lo:Int} {n:Nat} {g:TG} {tb:TS} {D:lB} {σ:St} {H:Hp} (Pv:Nat->St->Hp->Prop) (h0:Pv 0 σ H)
    (hs:∀ i σ H,i < n->Pv i σ H->g (.int (lo + i)) σ H fun σ2 H2=>tb {D with nx:=Pv (i + 1),ct:=Pv (i + 1),bk:=D.nx} σ2 H2) (hd:∀ σ H,Pv n σ H->D.nx σ H) :
    ∃ W:Nat->Nat->St->Hp->Prop,(∃ m,W 0 m σ H)/\∀ i m σ H,W i m σ H ->
      ((Itr lo n).stop i H/\D.nx σ H)\/((Itr lo n).go i H/\∃ N:St->Hp->Prop,(∀ σ' H',N σ' H'->∃ m',m' < m/\W (i + 1) m' σ' H')/\∀ x H',(Itr lo n).yld i H x H'->g x σ H' fun σ2 H2=>tb {D with nx:=N,ct:=N,bk:=D.nx} σ2 H2):=by
  refine ⟨fun i m σ H=>m=n - i/\i<=n/\Pv i σ H,⟨n,by simp,bV _,h0⟩,?_⟩
  rintro i m σ H ⟨rfl,hi,p⟩
  by_cases hlt:i < n
  · refine .inr ⟨hlt,Pv (i + 1),fun σ' H' p'=>⟨n - (i + 1),by omega,rfl,hlt,p'⟩,fun x H' y=>?_⟩
    obtain ⟨e,y⟩:=y
    subst e y
    exact hs i σ _ hlt p
  · have e:i=n:=by omega
    subst e
    exact .inl ⟨aS _,hd σ H p⟩
end L2
namespace L2
open PySem PySem.Spec PyProof.Rows
abbrev R2:=V->V->Hp->VK->Prop
def OpR (X:Cx) (f:af->af->Sem af) (r:R2):Prop:=
  ∀ (pins:List (ae×Obj)) (s:ax) (σ:St) (H:Hp) (x y:V) (v u:af) (Q:VK),Inv X pins σ H s->RelV x v->RelV y u->r x y H Q ->
    b8 (cm X.prog X.w) X.A (f v u) (EP X pins σ Q) X.xe s
def UnR (X:Cx) (f:af->Sem af) (r:V->Hp->VK->Prop):Prop:=
  ∀ (pins:List (ae×Obj)) (s:ax) (σ:St) (H:Hp) (x:V) (v:af) (Q:VK),Inv X pins σ H s->RelV x v->r x H Q ->
    b8 (cm X.prog X.w) X.A (f v) (EP X pins σ Q) X.xe s
def kJ (X:Cx) (f:af) (r:List V->Hp->VK->Prop):Prop:=
  ∀ (pins:List (ae×Obj)) (s:ax) (σ:St) (H:Hp) (xs:List V) (us:List af) (Q:VK),Inv X pins σ H s->dQ xs us->r xs H Q ->
    b8 (cm X.prog X.w) X.A (A9 f us) (EP X pins σ Q) X.xe s
def TruR (X:Cx) (r:V->Hp->(Bool->Hp->Prop)->Prop):Prop:=
  ∀ (pins:List (ae×Obj)) (s:ax) (σ:St) (H:Hp) (x:V) (v:af) (Q:Bool->Hp->Prop),Inv X pins σ H s->RelV x v->r x H Q ->
    b8 (cm X.prog X.w) X.A (truthy v) (TP X pins σ Q) X.xe s
def tOp (r:R2) (ta tb:TE):TE:=fun σ H Q=>ta σ H fun x H1=>tb σ H1 fun y H2=>r x y H2 Q
def tUn (r:V->Hp->VK->Prop) (ta:TE):TE:=fun σ H Q=>ta σ H fun x H1=>r x H1 Q
def rI (C:Int->Int->Prop) (g:Int->Int->V):R2:=fun x y H Q=>∃ i j,x=.int i/\y=.int j/\C i j/\Q (g i j) H
def rI0 (g:Int->Int->V):R2:=fun x y H Q=>∃ i j,x=.int i/\y=.int j/\Q (g i j) H
def rU (g:Int->V):V->Hp->VK->Prop:=fun x H Q=>∃ i,x=.int i/\Q (g i) H
section
variable {X:Cx} {a b c:cZ} {ta tb tc:TE} {pos:Pos}
theorem Dr (ha:PE X a ta) (hb:PE X b tb) {pins:List (ae×Obj)} {s:ax} {σ:St} {H:Hp} {R:V->V->Hp->Prop} (I:Inv X pins σ H s)
    (h:ta σ H fun x H1=>tb σ H1 fun y H2=>R x y H2) {Q:af->ax->Prop} {f:af->af->Sem af}
    (hf:∀ v u s2 x y H2,Inv X pins σ H2 s2->RelV x v->RelV y u->R x y H2->b8 (cm X.prog X.w) X.A (f v u) Q X.xe s2) :
    b8 (cm X.prog X.w) X.A (gj a X.env) (fun v s₁=>b8 (cm X.prog X.w) X.A (gj b X.env) (fun u s₂=>b8 (cm X.prog X.w) X.A (f v u) Q X.xe s₂) X.xe s₁) X.xe s:=by
  refine thn (ha pins s σ H _ I h) fun v s1 ⟨x,H1,I1,r1,q1⟩=>?_
  refine thn (hb pins s1 σ H1 _ I1 q1) fun u s2 ⟨y,H2,I2,r2,q2⟩=>?_
  exact hf v u s2 x y H2 I2 r1 r2 q2
theorem cJ {op:Ba} {r:R2} (ho:OpR X (iA op) r) (ha:PE X a ta) (hb:PE X b tb):PE X (.BinOp a op b pos) (tOp r ta tb):=by
  intro pins s σ H Q I h
  exact wpAny_BinOp (Dr ha hb I h fun v u s2 x y H2 I2 rx ry q=>ho pins s2 σ H2 x y v u Q I2 rx ry q)
theorem uB {op:UnaryOp} {r:V->Hp->VK->Prop} (ho:UnR X (unaryOp op) r) (ha:PE X a ta):PE X (.UnaryOp op a pos) (tUn r ta):=by
  intro pins s σ H Q I h
  exact UnaryOp_ (thn (ha pins s σ H _ I h) fun v s1 ⟨x,H1,I1,r1,q1⟩=>ho pins s1 σ H1 x v Q I1 r1 q1)
theorem opI {f:af->af->Sem af} {C:Int->Int->Prop} {g:Int->Int->Int}
    (rule:∀ (i j:Int) (t u:Tok) (s:ax) (Q:af->ax->Prop) (E:af->ax->Prop),C i j->Q (.int (g i j) s.toks) {s with toks:=s.toks + 1}->b8 (cm X.prog X.w) X.A (f (.int i t) (.int j u)) Q E s) :
    OpR X f (rI C fun i j=>.int (g i j)):=by
  intro pins s σ H x y v u Q I rx ry h
  obtain ⟨i,j,rfl,rfl,hc,q⟩:=h
  obtain ⟨t,rfl⟩:=rx
  obtain ⟨t',rfl⟩:=ry
  exact rule i j t t' s _ _ hc ⟨.int (g i j),H,I.tok _,⟨_,rfl⟩,q⟩
theorem opI0 {f:af->af->Sem af} {g:Int->Int->Int}
    (rule:∀ (i j:Int) (t u:Tok) (s:ax) (Q:af->ax->Prop) (E:af->ax->Prop),Q (.int (g i j) s.toks) {s with toks:=s.toks + 1}->b8 (cm X.prog X.w) X.A (f (.int i t) (.int j u)) Q E s) :
    OpR X f (rI0 fun i j=>.int (g i j)):=by
  intro pins s σ H x y v u Q I rx ry h
  obtain ⟨i,j,rfl,rfl,q⟩:=h
  obtain ⟨t,rfl⟩:=rx
  obtain ⟨t',rfl⟩:=ry
  exact rule i j t t' s _ _ ⟨.int (g i j),H,I.tok _,⟨_,rfl⟩,q⟩
theorem Dt {f:af->af->Sem af} {g:Int->Int->Bool}
    (rule:∀ (i j:Int) (t u:Tok) (s:ax) (Q:af->ax->Prop) (E:af->ax->Prop),Q (.bool (g i j)) s->b8 (cm X.prog X.w) X.A (f (.int i t) (.int j u)) Q E s) :
    OpR X f (rI0 fun i j=>.bl (g i j)):=by
  intro pins s σ H x y v u Q I rx ry h
  obtain ⟨i,j,rfl,rfl,q⟩:=h
  obtain ⟨t,rfl⟩:=rx
  obtain ⟨t',rfl⟩:=ry
  exact rule i j t t' s _ _ ⟨.bl (g i j),H,I,rfl,q⟩
def oX (i j:Int):Prop:=0<=j/\j<=1000000/\i.natAbs < 2 ^ 64
def Du (i j:Int):Prop:=(-(2 ^ 64) < i/\i < 2 ^ 64)\/(-(2 ^ 64) < j/\j < 2 ^ 64)
theorem Du.ok {i j:Int} (h:Du i j):IntMulOk i j:=by
  rcases h with ⟨h1,h2⟩ | ⟨h1,h2⟩
  · exact .of_left (intBits_le_64 h1 h2)
  · exact .of_right (intBits_le_64 h1 h2)
theorem fZ:OpR X (iA .Add) (rI0 fun i j=>.int (i + j)):=opI0 fun _ _ _ _ _ _ _ q=>add_int q
theorem gK:OpR X (iA .Sub) (rI0 fun i j=>.int (i - j)):=opI0 fun _ _ _ _ _ _ _ q=>sub_int q
theorem jQ:OpR X (iA .Mult) (rI Du fun i j=>.int (i * j)):=opI fun _ _ _ _ _ _ _ hc q=>mul_int q hc.ok
theorem kU:OpR X (iA .Mod) (rI (fun _ j=>0 < j) fun i j=>.int (i % j)):=opI fun i j _ _ _ _ _ hc q=>by
  have h1:(0:Int) < j:=hc
  exact mod_int' (by omega) (by rw [Int.fmod_eq_emod_of_nonneg i (by omega)]; exact q)
theorem Bb:OpR X (iA .Mod) (rI (fun _ j=>j≠0) fun i j=>.int (i.fmod j)):=opI fun _ _ _ _ _ _ _ hc q=>mod_int' hc q
theorem iG:OpR X (iA .Pow) (rI oX fun i j=>.int (i ^ j.toNat)):=opI fun _ _ _ _ _ _ _ hc q=>pow_int_small hc.1 hc.2.1 hc.2.2 q
theorem unI {f:af->Sem af} {g:Int->Int}
    (rule:∀ (i:Int) (t:Tok) (s:ax) (Q:af->ax->Prop) (E:af->ax->Prop),Q (.int (g i) s.toks) {s with toks:=s.toks + 1}->b8 (cm X.prog X.w) X.A (f (.int i t)) Q E s) :
    UnR X f (rU fun i=>.int (g i)):=by
  intro pins s σ H x v Q I rx h
  obtain ⟨i,rfl,q⟩:=h
  obtain ⟨t,rfl⟩:=rx
  exact rule i t s _ _ ⟨.int (g i),H,I.tok _,⟨_,rfl⟩,q⟩
theorem qx:UnR X (unaryOp .USub) (rU fun i=>.int (-i)):=unI fun _ _ _ _ _ q=>neg_int q
end
def scal:V->V->Bool
  | .non,.non=>true | .non,.int _=>true | .int _,.non=>true | .non,.bl _=>true | .bl _,.non=>true | .non,.str _=>true | .str _,.non=>true
  | .int _,.int _=>true | .bl _,.bl _=>true | .str _,.str _=>true | .byt _,.byt _=>true
  | .int _,.str _=>true | .str _,.int _=>true | .bl _,.str _=>true | .str _,.bl _=>true
  | _,_=>false
def rEq:R2:=fun x y H Q=>scal x y=true/\Q (.bl (decide (x=y))) H
def rNe:R2:=fun x y H Q=>scal x y=true/\Q (.bl (!decide (x=y))) H
theorem xa {i j:Int}:decide (V.int i=V.int j)=(i == j):=by
  rw [mH]
  simp
theorem zq {i j:Bool}:decide (V.bl i=V.bl j)=(i == j):=by
  rw [mH]
  simp
theorem xb {i j:Str}:decide (V.str i=V.str j)=(i == j):=by
  rw [mH]
  simp
theorem xc {i j:Array UInt8}:decide (V.byt i=V.byt j)=(i.toList == j.toList):=by
  rw [mH]
  cases i
  cases j
  simp
section
variable {X:Cx} {a b c:cZ} {ta tb tc:TE} {pos:Pos}
theorem eT {pins:List (ae×Obj)} {σ:St} {H:Hp} {s:ax} {Q:VK} {k k':Bool} (I:Inv X pins σ H s) (q:Q (.bl k) H) (e:k=k'):EP X pins σ Q (.bool k') s:=by
  subst e
  exact ⟨.bl k,H,I,rfl,q⟩
theorem di:OpR X (fX .Eq) rEq:=by
  intro pins s σ H x y v u Q I rx ry h
  obtain ⟨hs,q⟩:=h
  cases x with
  | non =>
    cases rx
    cases y with
    | non=>cases ry; exact PySem.EqNone.eq_none_none (eT I q (by simp))
    | bl j=>cases ry; exact PySem.EqNone.eq_none_bool (eT I q (by simp))
    | int j=>obtain ⟨t',rfl⟩:=ry; exact PySem.EqNone.eq_none_int (eT I q (by simp))
    | str j=>obtain ⟨t',rfl⟩:=ry; exact PySem.EqNone.eq_none_str (eT I q (by simp))
    | _=>exact absurd (show false=true from hs) bU
  | bl i =>
    cases rx
    cases y with
    | non=>cases ry; exact PySem.EqNone.eq_bool_none (eT I q (by simp))
    | bl j=>cases ry; exact eq_bool (eT I q zq)
    | str j=>obtain ⟨t',rfl⟩:=ry; exact PySem.EqMixed.eq_bool_str (eT I q (by simp))
    | _=>exact absurd (show false=true from hs) bU
  | int i =>
    obtain ⟨t,rfl⟩:=rx
    cases y with
    | non=>cases ry; exact PySem.EqNone.eq_int_none (eT I q (by simp))
    | int j=>obtain ⟨t',rfl⟩:=ry; exact eq_int (eT I q xa)
    | str j=>obtain ⟨t',rfl⟩:=ry; exact PySem.EqMixed.eq_int_str (eT I q (by simp))
    | _=>exact absurd (show false=true from hs) bU
  | str i =>
    obtain ⟨t,rfl⟩:=rx
    cases y with
    | non=>cases ry; exact PySem.EqNone.eq_str_none (eT I q (by simp))
    | bl j=>cases ry; exact PySem.EqMixed.eq_str_bool (eT I q (by simp))
    | int j=>obtain ⟨t',rfl⟩:=ry; exact PySem.EqMixed.eq_str_int (eT I q (by simp))
    | str j=>obtain ⟨t',rfl⟩:=ry; exact eq_str (eT I q xb)
    | _=>exact absurd (show false=true from hs) bU
  | byt i =>
    obtain ⟨t,rfl⟩:=rx
    cases y with
    | byt j=>obtain ⟨t',rfl⟩:=ry; exact PySem.W.eq_bytes (eT I q xc)
    | _=>exact absurd (show false=true from hs) bU
  | _=>cases y <;> exact absurd (show false=true from hs) bU
theorem zr:OpR X (fX .NotEq) rNe:=by
  intro pins s σ H x y v u Q I rx ry h
  obtain ⟨hs,q⟩:=h
  cases x with
  | non =>
    cases rx
    cases y with
    | non=>cases ry; exact PySem.EqNone.ne_none_none (eT I q (by simp))
    | bl j=>cases ry; exact PySem.EqNone.ne_none_bool (eT I q (by simp))
    | int j=>obtain ⟨t',rfl⟩:=ry; exact PySem.EqNone.ne_none_int (eT I q (by simp))
    | str j=>obtain ⟨t',rfl⟩:=ry; exact PySem.EqNone.ne_none_str (eT I q (by simp))
    | _=>exact absurd (show false=true from hs) bU
  | bl i =>
    cases rx
    cases y with
    | non=>cases ry; exact PySem.EqNone.ne_bool_none (eT I q (by simp))
    | bl j=>cases ry; exact ne_bool (eT I q (congrArg not zq))
    | str j=>obtain ⟨t',rfl⟩:=ry; exact PySem.EqMixed.ne_bool_str (eT I q (by simp))
    | _=>exact absurd (show false=true from hs) bU
  | int i =>
    obtain ⟨t,rfl⟩:=rx
    cases y with
    | non=>cases ry; exact PySem.EqNone.ne_int_none (eT I q (by simp))
    | int j=>obtain ⟨t',rfl⟩:=ry; exact ne_int (eT I q (congrArg not xa))
    | str j=>obtain ⟨t',rfl⟩:=ry; exact PySem.EqMixed.ne_int_str (eT I q (by simp))
    | _=>exact absurd (show false=true from hs) bU
  | str i =>
    obtain ⟨t,rfl⟩:=rx
    cases y with
    | non=>cases ry; exact PySem.EqNone.ne_str_none (eT I q (by simp))
    | bl j=>cases ry; exact PySem.EqMixed.ne_str_bool (eT I q (by simp))
    | int j=>obtain ⟨t',rfl⟩:=ry; exact PySem.EqMixed.ne_str_int (eT I q (by simp))
    | str j=>obtain ⟨t',rfl⟩:=ry; exact ne_str (eT I q (congrArg not xb))
    | _=>exact absurd (show false=true from hs) bU
  | byt i =>
    obtain ⟨t,rfl⟩:=rx
    cases y with
    | byt j=>obtain ⟨t',rfl⟩:=ry; exact PySem.W.ne_bytes (eT I q (congrArg not xc))
    | _=>exact absurd (show false=true from hs) bU
  | _=>cases y <;> exact absurd (show false=true from hs) bU
theorem nK:OpR X (fX .Lt) (rI0 fun i j=>.bl (decide (i < j))):=Dt fun _ _ _ _ _ _ _ q=>lt_int q
theorem kK:OpR X (fX .Gt) (rI0 fun i j=>.bl (decide (j < i))):=Dt fun _ _ _ _ _ _ _ q=>gt_int q
theorem op_ge:OpR X (fX .GtE) (rI0 fun i j=>.bl (decide (j<=i))):=Dt fun _ _ _ _ _ _ _ q=>ge_int q
theorem bM (b:cZ) {op:EY} (h:op≠.In:=by decide) (h2:op≠.NotIn:=by decide):jq op b=false:=by
  have e1:(op == CmpOp.In)=false:=by cases op <;> first | rfl | exact absurd rfl h
  have e2:(op == CmpOp.NotIn)=false:=by cases op <;> first | rfl | exact absurd rfl h2
  cases b <;> simp [jq,e1,e2]
theorem j2 {op:EY} {r:R2} (ho:OpR X (fX op) r) (ha:PE X a ta) (hb:PE X b tb) (hm:jq op b=false):PE X (.Compare a [op] [b] pos) (tOp r ta tb):=by
  intro pins s σ H Q I h
  exact wpAny_Compare1 (Dr ha hb I h fun v u s2 x y H2 I2 rx ry q=>ho pins s2 σ H2 x y v u Q I2 rx ry q) hm
def rX (t:TE):TT:=fun σ H Q=>t σ H fun x H'=>∃ k,x=.bl k/\Q k H'
theorem bE {op:EY} {r:R2} (ho:OpR X (fX op) r) (ha:PE X a ta) (hb:PE X b tb) (hm:jq op b=false):PT X (.Compare a [op] [b] pos) (rX (tOp r ta tb)):=by
  intro pins s σ H Q I h
  refine AY (thn (ha pins s σ H _ I h) fun v s1 ⟨x,H1,I1,r1,q1⟩=>thn (hb pins s1 σ H1 _ I1 q1) fun u s2 ⟨y,H2,I2,r2,q2⟩ =>
    thn (ho pins s2 σ H2 x y v u _ I2 r1 r2 q2) fun c s3 ⟨z,H3,I3,r3,k,e,q3⟩=>?_) hm
  subst e
  cases r3
  exact gR ⟨H3,I3,q3⟩
def TruV (K:aj) (x:V) (H:Hp) (k:Bool):Prop:=
  match x with
  | .non=>k=false
  | .bl b=>k=b
  | .int i=>k=(i != 0)
  | .str y=>y.length<=aE/\k=((y.length:Int) != 0)
  | .byt y=>y.size<=aE/\k=((y.size:Int) != 0)
  | .ref p=>(∃ xs,SqL K H p xs/\k=!xs.isEmpty)\/(∃ xs,SqT K H p xs/\k=!xs.isEmpty)\/∃ kvs,H p=some (.dK kvs)/\k=!kvs.isEmpty
  | _=>False
theorem vM {κ:Type} {kvs:List (κ×V)} {vs:List (κ×af)} (r:KV kvs vs):(!vs.isEmpty)=!kvs.isEmpty:=by
  cases r <;> rfl
theorem qy {xs:List V} {its:List af} (r:dQ xs its):(!its.toArray.isEmpty)=!xs.isEmpty:=by
  cases r <;> simp
theorem oY:(aE:Nat) < 2 ^ 63:=by rw [uk]; decide
theorem Dv:TruR X (fun x H Q=>∃ k,TruV X.K x H k/\Q k H):=by
  intro pins s σ H x v Q I rx h
  obtain ⟨k,e,q⟩:=h
  have hl:=oY
  have hs:aE=16777216:=uk
  cases x with
  | non =>
    cases rx
    have e':k=false:=e
    subst e'
    exact truthy_none ⟨H,I,q⟩
  | bl b =>
    cases rx
    have e':k=b:=e
    subst e'
    exact gR ⟨H,I,q⟩
  | int i =>
    obtain ⟨t,rfl⟩:=rx
    have e':k=(i != 0):=e
    subst e'
    exact PySem.P.truthy_int ⟨H,I,q⟩
  | str y =>
    obtain ⟨t,rfl⟩:=rx
    obtain ⟨hy,e'⟩:y.length<=aE/\k=((y.length:Int) != 0):=e
    subst e'
    exact PySem.P.truthy_str (by omega) ⟨H,I.tok _,q⟩
  | byt y =>
    obtain ⟨t,rfl⟩:=rx
    obtain ⟨hy,e'⟩:y.size<=aE/\k=((y.size:Int) != 0):=e
    subst e'
    exact PySem.W.truthy_bytes (by omega) ⟨H,I.tok _,q⟩
  | ref p =>
    cases rx
    have e':(∃ xs,SqL X.K H p xs/\k=!xs.isEmpty)\/(∃ xs,SqT X.K H p xs/\k=!xs.isEmpty)\/∃ kvs,H p=some (.dK kvs)/\k=!kvs.isEmpty:=e
    rcases e' with ⟨xs,hx,e'⟩ | ⟨xs,hx,e'⟩ | ⟨kvs,hx,e'⟩
    · subst e'
      obtain ⟨its,r,pl,hz⟩:=I.list hx
      have hlen:=r.length
      exact wpAny_truthy_list pl.isList (by simp only [bg]; omega) ⟨H,I.tok _,by rw [qy r]; exact q⟩
    · subst e'
      obtain ⟨its,r,pl,hz⟩:=I.tuple hx
      have hlen:=r.length
      exact truthy_tuple pl (by simp only [bg]; omega) ⟨H,I.tok _,by rw [qy r]; exact q⟩
    · subst e'
      obtain ⟨hz,hS,vs,r,m⟩:kvs.length<=aE/\(p == eB)=false/\∃ vs,KV kvs vs/\s.heap.DictOf (fg X.prog X.w) p vs:=I.hok p _ hx
      have hlen:kvs.length=vs.length:=bL r
      exact wpAny_truthy_dict hS m (by omega) ⟨H,I.tok _,by rw [vM r]; exact q⟩
  | _=>exact (show False from e).elim
theorem uC (ha:PE X a ta) (he:∀ whole,zi a X.env whole=(do let v <- whole; vy a.pos; pI [v] (truthy v))) :
    PT X a (fun σ H Q=>ta σ H fun x H'=>∃ k,TruV X.K x H' k/\Q k H'):=by
  intro pins s σ H Q I h
  exact isTrue_plain (thn (ha pins s σ H _ I h) fun v s1 ⟨x,H1,I1,r1,q1⟩=>Dv pins s1 σ H1 x v Q I1 r1 q1) (he _)
theorem vN:OpR X (iA .Add) (fun x y H Q=>∃ i j,x=.str i/\y=.str j/\i.length + j.length<=aE/\Q (.str (i++j)) H):=by
  intro pins s σ H x y v u Q I rx ry h
  obtain ⟨i,j,rfl,rfl,hz,q⟩:=h
  obtain ⟨t,rfl⟩:=rx
  obtain ⟨t',rfl⟩:=ry
  exact add_str (fun t' tk=>⟨.str (i++j),H,I.tok _,⟨_,rfl⟩,q⟩) hz
theorem vals1 {x:V} {us:List af} (r:dQ [x] us):∃ u,us=[u]/\RelV x u:=by
  cases r with
  | cons r1 r2=>cases r2; exact ⟨_,rfl,r1⟩
theorem vals2 {x y:V} {us:List af} (r:dQ [x,y] us):∃ u w',us=[u,w']/\RelV x u/\RelV y w':=by
  cases r with
  | cons r1 r2 =>
    cases r2 with
    | cons r3 r4=>cases r4; exact ⟨_,_,rfl,r1,r3⟩
theorem zt:kJ X (.builtin "abs") (fun xs H Q=>∃ i,xs=[.int i]/\Q (.int (if i < 0 then -i else i)) H):=by
  intro pins s σ H xs us Q I r h
  obtain ⟨i,rfl,q⟩:=h
  obtain ⟨u,rfl,t,rfl⟩:=vals1 r
  exact call_abs_int fun u tk=>⟨.int (if i < 0 then -i else i),H,I.tok _,⟨_,rfl⟩,q⟩
theorem yk (hc:X.calm=true):kJ X (.builtin "max") (fun xs H Q=>∃ i j,xs=[.int i,.int j]/\Q (.int (if j > i then j else i)) H):=by
  intro pins s σ H xs us Q I r h
  obtain ⟨i,j,rfl,q⟩:=h
  obtain ⟨u,w',rfl,⟨t,rfl⟩,⟨t',rfl⟩⟩:=vals2 r
  refine max_two_ints (I.ok.hd hc) fun h' tk k=>⟨_,H,I.kept k,?_,q⟩
  by_cases hj:j > i
  · rw [if_pos hj,if_pos hj]; exact ⟨_,rfl⟩
  · rw [if_neg hj,if_neg hj]; exact ⟨_,rfl⟩
theorem oZ:kJ X (.type "int") (fun xs H Q=>(∃ i,xs=[.int i]/\Q (.int i) H)\/∃ k,xs=[.bl k]/\Q (.int (if k then 1 else 0)) H):=by
  intro pins s σ H xs us Q I r h
  rcases h with ⟨i,rfl,q⟩ | ⟨k,rfl,q⟩
  · obtain ⟨u,rfl,t,rfl⟩:=vals1 r
    exact call_int_int ⟨.int i,H,I,⟨_,rfl⟩,q⟩
  · obtain ⟨u,rfl,r1⟩:=vals1 r
    cases r1
    exact call_int_bool ⟨.int (if k then 1 else 0),H,I.tok _,⟨_,rfl⟩,q⟩
end
end L2
namespace L2
open PySem PySem.Spec PyProof.Rows
structure vO (h:cR) (x dx C:ae) (mA:Str->Option af):Prop where
  obj:h.get? x=some (gm C dx)
  ns:h.Ns1 dx mA
  ne:dx≠x
theorem yl {h:cR} {dx:ae} {mA:Str->Option af} (n:h.Ns1 dx mA):∃ od,h.get? dx=some od/\∀ name,mI name od=some (mA name):=by
  obtain ⟨o,es,ep,ho,hd,hk,_,hm⟩:=n
  refine ⟨o,ho,fun name=>?_⟩
  have e:=hm name
  unfold nsFind findBy at e
  rw [<- Array.find?_toList] at e
  unfold mI
  rw [hd]
  dsimp only
  split
  · rename_i y q
    rw [q] at e
    exact congrArg some e
  · rename_i q
    rw [q] at e
    have a:es.toList.any (·.refKey)=false:=by
      rw [List.any_eq_false]
      intro y hy
      obtain ⟨z,t,hkey⟩:=hk y (Array.mem_toList_iff.mp hy)
      simp [DictEntry.refKey,hkey]
    have a':¬ es.toList.any (·.refKey)=true:=by rw [a]; exact bU
    rw [if_neg a']
    exact congrArg some e
theorem vO.look {h:cR} {x dx C:ae} {mA:Str->Option af} (I:vO h x dx C mA):∃ od,ji h x (gm C dx) C (some od)/\∀ name,mI name od=some (mA name):=
  let ⟨od,ho,hl⟩:=yl I.ns
  ⟨od,⟨I.obj,rfl,rfl,ho⟩,hl⟩
section
variable {prog:aX} {w:cz} {A:cO} {E:af->ax->Prop} {s:ax} {K:aj} {x dx C f:ae} {mA:Str->Option af} {name:Str} {v:af}
theorem Bc {expr:Bool} {Q:af->ax->Prop} (X:K.In s.heap) (I:vO s.heap x dx C mA) (hg:gL K C name=true) (hh:hZ K C=true)
    (ha:aD K (.ref C) name=some none) (hv:mA name=some v) (hv':ym v=true) (h:Q v {s with toks:=s.toks + 1}) :
    b8 (cm prog w) A (getAttr (.ref x) name expr) Q E s:=by
  obtain ⟨od,J,hl⟩:=I.look
  exact PySem.W.get_value X J (nA hg).1 (PySem.W.findObj_own hh ha rfl (by rw [hl,hv])) hv' h
theorem zu {pl:Sem Bool} {Q:af×List af->ax->Prop} (X:K.In s.heap) (I:vO s.heap x dx C mA) (hg:gL K C name=true)
    (hf:aD K (.ref C) name=some (some (.ref f))) (ht:dW K (.ref f)=true) (hv:mA name=none) (h:Q (.ref f,[.ref x]) s) :
    b8 (cm prog w) A (nC (.ref x) name pl) Q E s:=by
  obtain ⟨od,J,hl⟩:=I.look
  exact PySem.W.method_fn X J (nA hg).1 (nA hg).2 hf (beq_iff_eq.mp ht) (by show (mI name od).map (·.isSome)=some false; rw [hl,hv]; rfl) h
theorem Bd {ns:List Str} {Q:Unit->ax->Prop} (X:K.In s.heap) (I:vO s.heap x dx C mA)
    (hs:aD K (.ref C) "__setattr__"=some (some (.builtin "object.__setattr__"))) (hp:jj K C=true) (ht:pR K C name=some none) (hh:hZ K C=true)
    (hw:uA mA ns) (hsz:ns.length<=aE)
    (h:∀ h',vO h' x dx C (fun y=>if y=name then some v else mA y)->pH dx s.heap h'->Q () {s with heap:=h',toks:=s.toks + 2}) :
    b8 (cm prog w) A (setAttr (.ref x) name v) Q E s:=by
  obtain ⟨od,J,hl⟩:=I.look
  refine PySem.W.set_plain X J hs (PySem.W.osa_open (s:={s with toks:=s.toks + 1}) (r:=none) X J hp ht fun b=>?_)
  obtain ⟨cd,hc,hd'⟩:=PySem.W.any_some hh
  have hx:s.heap.get? x=some ⟨.ref C,some dx,.plain,#[]⟩:=I.obj
  refine aF (cg (aF (aF (vP hx (aF (PySem.W.Looks.here (s:={s with toks:=s.toks + 1}) (PySem.W.looks_clsIn X hc) ?_))))))
  rw [hd']
  refine cg (a:=some dx) (aF (cg (aF ?_)))
  refine wpAny_nsSet1 (s:={s with toks:=s.toks + 1}) I.ns fun h' hn2 hs2=>?_
  obtain ⟨oD,esD,epD,hoD,hdD,hcD⟩:=hn2.count (PySem.Within.cons name v hw)
  refine aF (wpAny_lookBehind hoD (by rw [hdD]; exact pastItsLine_dict (cU hcD (by rw [bX]; omega))) ?_)
  exact cg (h _ ⟨(hs2.2 _ (eS I.ne)).trans I.obj,hn2,I.ne⟩ hs2)
theorem zv {R:Dw->ax->Prop} {vs:List af} {kw:List (Str×af)} (X:K.In s.heap) (hm:jR K C=true)
    (hi:aD K (.ref C) "__init__"=some (some (.ref f))) (hf:zw K (.ref f)=some (.type "function"))
    (h:nX (cm prog w) (A.under (.builtin "type.__call__" ⟨.ref C :: vs,kw⟩)) (.call (.ref f) ⟨.ref (s.heap.objs.size + 1) :: vs,kw⟩) (PySem.W.InitBack (s.heap.objs.size + 1) R)
      {s with heap:=(s.heap.push eY).push (gm C s.heap.objs.size)}) :
    nX (cm prog w) A (.call (.ref C) ⟨vs,kw⟩) R s:=by
  obtain ⟨hh,g,d,t,os⟩:=s
  exact PySem.W.make_core (PySem.W.makes_of X hm) (gr X hi) (fun self=>PySem.W.bind_fn X self hf) (.inl rfl) h
end
def ej (f:Str) (v:V):List (Str×V)->List (Str×V)
  | []=>[(f,v)]
  | (g,x) :: r=>if g=f then (g,v) :: r else (g,x) :: ej f v r
theorem mJ (f g:Str) (v:V):∀ fs:List (Str×V),(ej f v fs).lookup g=if g=f then some v else fs.lookup g
  | []=>by
    show jX g [(f,v)]=_
    by_cases h:g=f
    · have hb:(g == f)=true:=beq_iff_eq.mpr h
      simp only [jX,hb,if_pos h]
    · have hb:(g == f)=false:=beq_eq_false_iff_ne.mpr h
      simp only [jX,hb,if_neg h]
  | (k,x) :: r=>by
    have ih:=mJ f g v r
    rw [show ej f v ((k,x) :: r)=(if k=f then (k,v) :: r else (k,x) :: ej f v r) from rfl]
    by_cases hk:k=f
    · rw [if_pos hk]
      by_cases h:g=k
      · have hb:(g == k)=true:=beq_iff_eq.mpr h
        simp only [jX,hb,if_pos (h.trans hk)]
      · have hb:(g == k)=false:=beq_eq_false_iff_ne.mpr h
        simp only [jX,hb,if_neg (fun e:g=f=>h (e.trans hk.symm))]
    · rw [if_neg hk]
      by_cases h:g=k
      · have hb:(g == k)=true:=beq_iff_eq.mpr h
        simp only [jX,hb,if_neg (fun e:g=f=>hk (h.symm.trans e))]
      · have hb:(g == k)=false:=beq_eq_false_iff_ne.mpr h
        simp only [jX,hb]
        exact ih
theorem o4 (f:Str) (v:V):∀ fs:List (Str×V),f∈(ej f v fs).map (·.1)/\∀ g,g∈fs.map (·.1)->g∈(ej f v fs).map (·.1)
  | []=>⟨by simp [ej],fun g h=>by simp at h⟩
  | (k,x) :: r=>by
    obtain ⟨i1,i2⟩:=o4 f v r
    rw [show ej f v ((k,x) :: r)=(if k=f then (k,v) :: r else (k,x) :: ej f v r) from rfl]
    by_cases hk:k=f
    · rw [if_pos hk]
      subst hk
      exact ⟨by simp,fun g h=>by simpa using h⟩
    · rw [if_neg hk]
      refine ⟨?_,fun g h=>?_⟩
      · rw [dN]
        exact aa _ i1
      · rw [dN] at h |-
        rcases az.mp h with e | e
        · exact az.mpr (.inl e)
        · exact aa _ (i2 g e)
theorem pJ (f:Str) (v:V):∀ fs:List (Str×V),(ej f v fs).length<=fs.length + 1
  | []=>by simp [ej]
  | (k,x) :: r=>by
    have ih:=pJ f v r
    rw [show ej f v ((k,x) :: r)=(if k=f then (k,v) :: r else (k,x) :: ej f v r) from rfl]
    by_cases hk:k=f
    · rw [if_pos hk,bX,bX]; omega
    · rw [if_neg hk,bX,bX]; omega
theorem ny.some_of {v:V} {o:Option af} (r:ny (some v) o):∃ u,o=some u/\RelV v u:=by
  cases o with
  | none=>exact (show False from r).elim
  | some u=>exact ⟨u,rfl,r⟩
theorem ny.none_of {o:Option af} (r:ny none o):o=none:=by
  cases o with
  | none=>rfl
  | some u=>exact (show False from r).elim
theorem yn {v:V} {u:af} (r:RelV v u):ym u=true:=by
  cases v with
  | non=>cases (show u=Value.none from r); rfl
  | bl b=>cases (show u=Value.bool b from r); rfl
  | int i=>obtain ⟨t,e⟩:=(show ∃ t,u=Value.int i t from r); cases e; rfl
  | str x=>obtain ⟨t,e⟩:=(show ∃ t,u=Value.str x t from r); cases e; rfl
  | byt b=>obtain ⟨t,e⟩:=(show ∃ t,u=Value.bytes b t from r); cases e; rfl
  | flt b=>obtain ⟨t,e⟩:=(show ∃ t,u=Value.float b t from r); cases e; rfl
  | ref a=>cases (show u=Value.ref a from r); rfl
  | ty n=>cases (show u=Value.type n from r); rfl
section
variable {P:aX} {w:cz} {H H':Hp} {h h':cR} {a C dx:ae} {fs fs':List (Str×V)}
theorem pY (hok:HOk P w H h) (e:H a=some (.ins C dx fs)):∃ mA,vO h a dx C mA/\(∀ f,ny (fs.lookup f) (mA f))/\uA mA (fs.map (·.1))/\fs.length<=1000/\H dx=some (.own a):=by
  obtain ⟨d,z,ne,ob,mA,n,r,q⟩:=(show eP P w H h a (.ins C dx fs) from hok a _ e)
  exact ⟨mA,⟨ob,n,ne⟩,r,q,z,d⟩
end
structure Cls (K:aj) (C:ae):Prop where
  pg:gL K C vz=true
  hd:hZ K C=true
  po:jj K C=true
  sa:aD K (.ref C) "__setattr__"=some (some (.builtin "object.__setattr__"))
theorem Cls.get {K:aj} {C:ae} (c:Cls K C) (f:Str):gL K C f=true:=c.pg
def gN (K:aj) (C:ae) (f:Str):Prop:=aD K (.ref C) f=some none
theorem gN.taker {K:aj} {C:ae} {f:Str} (n:gN K C f):pR K C f=some none:=by
  unfold pR
  rw [show aD K (.ref C) f=some none from n]
  rfl
structure kW (K:aj) (C:ae) (m:Str) (f:ae):Prop where
  at_:aD K (.ref C) m=some (some (.ref f))
  fn:dW K (.ref f)=true
  kp:aC K (.ref f)=true
section
variable {X:Cx} {pins:List (ae×Obj)} {σ:St} {H:Hp} {s:ax} {a C dx:ae} {fs:List (Str×V)} {f:Str} {v:V} {A:cO} {E:af->ax->Prop}
theorem qA {b:Bool} {Q:af->ax->Prop} (I:Inv X pins σ H s) (e:H a=some (.ins C dx fs)) (c:Cls X.K C) (n:gN X.K C f) (l:fs.lookup f=some v)
    (h:∀ u s',Inv X pins σ H s'->RelV v u->Q u s'):b8 (cm X.prog X.w) A (getAttr (.ref a) f b) Q E s:=by
  obtain ⟨mA,O,r,_,_,_⟩:=pY I.hok e
  obtain ⟨u,hu,ru⟩:=ny.some_of (v:=v) (o:=mA f) (by rw [<- l]; exact r f)
  exact Bc I.kIn O (c.get f) c.hd n hu (yn ru) (h u _ (I.tok _) ru)
theorem qB {m:Str} {g:ae} {pl:Sem Bool} {Q:af×List af->ax->Prop} (I:Inv X pins σ H s) (e:H a=some (.ins C dx fs)) (c:Cls X.K C) (k:kW X.K C m g) (l:fs.lookup m=none)
    (h:Q (.ref g,[.ref a]) s):b8 (cm X.prog X.w) A (nC (.ref a) m pl) Q E s:=by
  obtain ⟨mA,O,r,_,_,_⟩:=pY I.hok e
  have hn:mA m=none:=ny.none_of (by rw [<- l]; exact r m)
  exact zu I.kIn O (c.get m) k.at_ k.fn hn h
theorem qC {y:V} {u:af} {Q:Unit->ax->Prop} (I:Inv X pins σ H s) (e:H a=some (.ins C dx fs)) (c:Cls X.K C) (n:gN X.K C f) (hl:fs.length < 1000) (ry:RelV y u)
    (h:∀ s',Inv X pins σ (upd H a (.ins C dx (ej f y fs))) s'->Q () s'):b8 (cm X.prog X.w) A (setAttr (.ref a) f u) Q E s:=by
  obtain ⟨mA,O,r,wi,_,ho⟩:=pY I.hok e
  have hz:(fs.map (·.1)).length<=aE:=by rw [ai,uk]; omega
  refine Bd I.kIn O c.sa c.po n.taker c.hd wi hz fun h' O' sb=>h _ ?_
  have hd:∃ o,h'.get? dx=some o:=let ⟨o,_,_,e',_⟩:=O'.ns; ⟨o,e'⟩
  refine I.write (x:=a) (e:=dx) (by rw [e]; exact True.intro) (.inr ho) (fun b q hb z=>(sb.2 b hb).trans z) hd ?_
  refine ⟨by rw [aY O.ne]; exact ho,?_,O.ne,O'.obj,_,O'.ns,fun g=>?_,fun g hg=>?_⟩
  · have:=pJ f y fs; omega
  · show ny ((ej f y fs).lookup g) (if g=f then some u else mA g)
    rw [mJ]
    by_cases q:g=f
    · rw [if_pos q,if_pos q]; exact ry
    · rw [if_neg q,if_neg q]; exact r g
  · by_cases q:g=f
    · rw [q]; exact (o4 f y fs).1
    · refine (o4 f y fs).2 g (wi g fun z=>hg ?_)
      show (if g=f then some u else mA g)=none
      rw [if_neg q]; exact z
theorem Inv.made (I:Inv X pins σ H s):Inv X pins σ (upd (upd H s.heap.objs.size (.own (s.heap.objs.size + 1))) (s.heap.objs.size + 1) (.ins C s.heap.objs.size []))
    {s with heap:=(s.heap.push eY).push (gm C s.heap.objs.size)}:=by
  have e1:(s.heap.push eY).get? s.heap.objs.size=some eY:=cQ s.heap rfl
  have e2:((s.heap.push eY).push (gm C s.heap.objs.size)).get? (s.heap.objs.size + 1)=some (gm C s.heap.objs.size):=by
    have:=cQ (s.heap.push eY) (o:=gm C s.heap.objs.size) rfl
    rwa [rY] at this
  have e3:(s.heap.push eY).Ns s.heap.objs.size (fun _=>none):=⟨eY,#[],_,e1,rfl,(fun e he=>absurd he (by simp)),fun _=>rfl⟩
  have I1:=I.laid (a:=s.heap.objs.size) (o:=.own (s.heap.objs.size + 1)) (h':=s.heap.push eY) (t':=s.toks) (fun b u q=>aU _ q) (aS _) ⟨_,e1⟩
  refine I1.laid (a:=s.heap.objs.size + 1) (o:=.ins C s.heap.objs.size []) (t':=s.toks) (fun b u q=>aU _ q) (Nat.le_of_eq (rY _ _)) ?_
  have ne:s.heap.objs.size≠s.heap.objs.size + 1:=cA (lZ _)
  refine ⟨by rw [aY ne,ao],bV _,ne,e2,fun _=>none,(Heap.Ns1.of_empty e3).at fun o q=>aU _ q,fun _=>True.intro,fun y hy=>absurd rfl hy⟩
theorem Be {prog:aX} {w:cz} {env:Env} {e:cZ} {f:Str} {pos:Pos} {s:ax} {Q:af->ax->Prop} (hb:mK e f env (gj e env)=gj e env)
    (h:b8 (cm prog w) A (gj e env) (fun o s₁=>b8 (cm prog w) A (getAttr o f true) Q E s₁) E s):b8 (cm prog w) A (gj (.Attribute e f pos) env) Q E s:=
  Attribute_any_ h (by rw [arm_eval_Attribute,hb])
end
def tFld (K:aj) (ta:TE) (f:Str):TE:=fun σ H Q=>ta σ H fun x H1=>∃ a C dx fs v,x=.ref a/\H1 a=some (.ins C dx fs)/\Cls K C/\gN K C f/\fs.lookup f=some v/\Q v H1
def sFld (K:aj) (ta tv:TE) (f:Str):TS:=fun D σ H=>tv σ H fun y H1=>ta σ H1 fun x H2=>∃ a C dx fs,x=.ref a/\H2 a=some (.ins C dx fs)/\Cls K C/\gN K C f/\fs.length < 1000 /\
  D.nx σ (upd H2 a (.ins C dx (ej f y fs)))
def InOp (X:Cx) (op:Ba) (rd:V->V->Hp->VK->Prop):Prop:=
  ∀ (pins:List (ae×Obj)) (s:ax) (σ:St) (H:Hp) (x y:V) (u v:af) (Q:VK),Inv X pins σ H s->RelV x u->RelV y v->rd x y H Q->b8 (cm X.prog X.w) X.A (inplaceOp op u v) (EP X pins σ Q) X.xe s
def Bf (K:aj) (ta tv:TE) (rd:V->V->Hp->VK->Prop) (f:Str):TS:=fun D σ H=>ta σ H fun x H1=>∃ a C dx fs v,x=.ref a/\H1 a=some (.ins C dx fs)/\Cls K C/\gN K C f/\fs.lookup f=some v /\
  tv σ H1 fun y H2=>rd v y H2 fun z H3=>∃ dx' fs',H3 a=some (.ins C dx' fs')/\fs'.length < 1000/\D.nx σ (upd H3 a (.ins C dx' (ej f z fs')))
section
variable {X:Cx} {o e value:cZ} {f:Str} {pos pos' tpos:Pos} {ta tv:TE}
theorem cY (he:PE X e ta) (hb:mK e f X.env (gj e X.env)=gj e X.env):PE X (.Attribute e f pos) (tFld X.K ta f):=by
  intro pins s σ H Q I h
  refine Be hb (thn (he pins s σ H _ I h) fun u s1 ⟨x,H1,I1,rx,a,C,dx,fs,v,ex,ea,c,n,l,q⟩=>?_)
  subst ex
  obtain rfl:u=Value.ref a:=rx
  exact qA I1 ea c n l fun u' s2 I2 ru=>⟨v,H1,I2,ru,q⟩
theorem jk (ha:PE X o ta) (hv:PE X value tv) (hs:tH value (some (.Attribute o f pos')) pos.line X.env=pure false):PS X (.Assign [.Attribute o f pos'] value pos) (sFld X.K ta tv f):=by
  intro pins s σ H D I h
  refine plainObj_wpAny_Assign_Attribute (thn (hv pins s σ H _ I h) fun u s1 ⟨y,H1,I1,ry,q⟩=>thn (ha pins s1 σ H1 _ I1 q) fun ov s2 ⟨x,H2,I2,rx,a,C,dx,fs,ex,ea,c,n,l,q2⟩=>?_) hs
  subst ex
  obtain rfl:ov=Value.ref a:=rx
  exact qC I2 ea c n l ry fun s3 I3=>⟨σ,_,I3,q2⟩
theorem rZ {op:Ba} {rd:V->V->Hp->VK->Prop} (ha:PE X o ta) (hv:PE X value tv) (hop:InOp X op rd):PS X (.AugAssign (.Attribute o f tpos) op value pos) (Bf X.K ta tv rd f):=by
  intro pins s σ H D I h
  refine wpAny_AugAssign_AttributeAny (thn (ha pins s σ H _ I h) fun ov s1 ⟨x,H1,I1,rx,a,C,dx,fs,v,ex,ea,c,n,l,q⟩=>?_)
  subst ex
  obtain rfl:ov=Value.ref a:=rx
  refine qA I1 ea c n l fun u s2 I2 ru=>thn (hv pins s2 σ H1 _ I2 q) fun w3 s3 ⟨y,H2,I3,ry,q3⟩=>thn (hop pins s3 σ H2 v y u w3 _ I3 ru ry q3) fun w4 s4 ⟨z,H3,I4,rz,dx',fs',ea',l',q4⟩=>?_
  exact qC I4 ea' c n l' rz fun s5 I5=>⟨σ,_,I5,q4⟩
def rAdd:V->V->Hp->VK->Prop:=fun x y H Q=>∃ i j,x=.int i/\y=.int j/\Q (.int (i + j)) H
theorem zx:InOp X .Add rAdd:=by
  rintro pins s σ H x y u v Q I rx ry ⟨i,j,rfl,rfl,q⟩
  obtain ⟨t,rfl⟩:=(show ∃ t,u=Value.int i t from rx)
  obtain ⟨t',rfl⟩:=(show ∃ t',v=Value.int j t' from ry)
  exact PyProof.Rows.iadd_int ⟨.int (i + j),H,I.tok _,⟨_,rfl⟩,q⟩
end
section
variable {X:Cx} {pins:List (ae×Obj)} {σ:St} {H:Hp} {s:ax} {A:cO} {E:af->ax->Prop} {Q:af->ax->Prop} {c:af} {b:Bool}
inductive oz (K:aj) (H:Hp):V->af->Prop where
  | non:oz K H .non (.type "NoneType")
  | bl (x:Bool):oz K H (.bl x) (.type "bool")
  | int (i:Int):oz K H (.int i) (.type "int")
  | str (x:Str):oz K H (.str x) (.type "str")
  | flt (x:UInt64):oz K H (.flt x) (.type "float")
  | lst {a:ae} {xs:List V} (e:H a=some (.lst xs)):oz K H (.ref a) (.type "list")
  | frz {a:ae} {o:Obj} {xs:List V} (e:H a=some (.frz o (.lst xs))):oz K H (.ref a) (.type "list")
  | tup {a:ae} {xs:List V} (e:H a=some (.tup xs)):oz K H (.ref a) (.type "tuple")
  | dK {a:ae} {kvs:List (Key×V)} (e:H a=some (.dK kvs)):oz K H (.ref a) (.type "dict")
  | dT {a:ae} {kvs:List (List Key×V)} (e:H a=some (.dT kvs)):oz K H (.ref a) (.type "dict")
  | ins {a C dx:ae} {fs:List (Str×V)} (e:H a=some (.ins C dx fs)) (cl:Cls K C) (ha:aD K (.ref C) "__class__"=some (some (.builtin "object.__class__")))
      (hn:kM K (.builtin "object.__class__") "__get__"=some (some (.builtin "getset_descriptor.__get__"))) (htk:lT K (.builtin "object.__class__")=some true)
      (hm:dE K C (.type "object")=some true):oz K H (.ref a) (.ref C)
theorem r6 {x:V} {u t:af} (I:Inv X pins σ H s) (rx:RelV x u) (ty:oz X.K H x t) (e:aq X.K t c=some b) (h:∀ tk,Q (.bool b) {s with toks:=tk}) :
    b8 (cm X.prog X.w) A (A9 (.builtin "isinstance") [u,c]) Q E s:=by
  cases ty with
  | non=>cases (show u=Value.none from rx); exact eG PySem.W.kitx_none I.kIn True.intro e (fun z=>nomatch z) h
  | bl y=>cases (show u=Value.bool y from rx); exact eG PySem.W.kitx_bool I.kIn True.intro e (fun z=>nomatch z) h
  | int i=>obtain ⟨t,q⟩:=(show ∃ t,u=Value.int i t from rx); cases q; exact eG PySem.W.kitx_int I.kIn True.intro e (fun z=>nomatch z) h
  | str y=>obtain ⟨t,q⟩:=(show ∃ t,u=Value.str y t from rx); cases q; exact eG PySem.W.kitx_str I.kIn True.intro e (fun z=>nomatch z) h
  | flt y=>obtain ⟨t,q⟩:=(show ∃ t,u=Value.float y t from rx); cases q; exact eG PySem.W.kitx_float I.kIn True.intro e (fun z=>nomatch z) h
  | @lst a xs ea =>
    cases (show u=Value.ref a from rx)
    obtain ⟨_,_,n,_,h1⟩:=(show eP X.prog X.w H s.heap a (.lst xs) from I.hok a _ ea)
    exact eG xf I.kIn ⟨_,h1,rfl⟩ e (fun z=>nomatch z) h
  | @frz a ob xs ea =>
    cases (show u=Value.ref a from rx)
    obtain ⟨_,_,_,n,_,h1⟩:=(show eP X.prog X.w H s.heap a (.frz ob (.lst xs)) from I.hok a _ ea)
    exact eG xf I.kIn ⟨_,h1,rfl⟩ e (fun z=>nomatch z) h
  | @tup a xs ea =>
    cases (show u=Value.ref a from rx)
    obtain ⟨_,_,_,p⟩:=(show eP X.prog X.w H s.heap a (.tup xs) from I.hok a _ ea)
    obtain ⟨o,h1,h2,_⟩:=p
    exact eG PySem.W.kitx_tuple I.kIn ⟨o,h1,h2⟩ e (fun z=>nomatch z) h
  | @dK a kvs ea =>
    cases (show u=Value.ref a from rx)
    obtain ⟨_,_,vs,_,p⟩:=(show eP X.prog X.w H s.heap a (.dK kvs) from I.hok a _ ea)
    obtain ⟨o,es,ep,h1,h2,_⟩:=p
    exact eG xg I.kIn ⟨o,h1,h2.1⟩ e (fun z=>nomatch z) h
  | @dT a kvs ea =>
    cases (show u=Value.ref a from rx)
    obtain ⟨_,_,xs,_,o,es,ep,h1,h2,_⟩:=(show eP X.prog X.w H s.heap a (.dT kvs) from I.hok a _ ea)
    exact eG xg I.kIn ⟨o,h1,h2.1⟩ e (fun z=>nomatch z) h
  | @ins a C dx fs ea cl ha hn htk hm =>
    cases (show u=Value.ref a from rx)
    obtain ⟨mA,O,_⟩:=pY I.hok ea
    obtain ⟨od,J,_⟩:=O.look
    exact eG (PySem.W.kitx_own (cl.get _) cl.hd ha hn htk hm) I.kIn J e (fun z=>nomatch z) h
end
end L2
namespace L2
open PySem PySem.Spec PyProof.Rows
structure eN (k:Nat) (A:cO):Prop where
  hd:A.handled=none
  dp:A.depth + 3 * k + 5 < recursionLimit
  un:A.units + 16 * k + 200 < gp
theorem eN.mono {j k:Nat} {A:cO} (r:eN k A) (h:j<=k):eN j A:=⟨r.hd,by have:=r.dp; omega,by have:=r.un; omega⟩
theorem eN.deeper {k:Nat} {A:cO} (r:eN (k + 1) A) (env:Env):eN k (A.deeper env):=
  ⟨r.hd,by have:=r.dp; show A.depth + 1 + 3 * k + 5 < _; omega,by have:=r.un; show A.units + 3 + 16 * k + 200 < _; omega⟩
theorem vQ {A:cO} {C:ae} {us:List af} {kw:List (Str×af)}:(A.under (.builtin "type.__call__" ⟨.ref C :: us,kw⟩)).depth=A.depth + 1:=by
  first | rfl | simp [um,Code.weight,Code.isCreation,Code.isGuard,Code.isCaller,Code.frames,vA,guardIds]
theorem vR {A:cO} {C:ae} {us:List af} {kw:List (Str×af)}:(A.under (.builtin "type.__call__" ⟨.ref C :: us,kw⟩)).units=A.units + 1:=by
  first | rfl | simp [um,Code.cUnits,Code.frames,vA]
theorem eN.make {k:Nat} {A:cO} (r:eN (k + 1) A) (C:ae) (us:List af) (kw:List (Str×af)):eN k (A.under (.builtin "type.__call__" ⟨.ref C :: us,kw⟩)):=
  ⟨r.hd,by have:=r.dp; rw [vQ]; omega,by have:=r.un; rw [vR]; omega⟩
theorem eN.depth {k:Nat} {A:cO} (r:eN k A):A.depth < recursionLimit:=by have:=r.dp; omega
theorem eN.units {k:Nat} {A:cO} (r:eN k A):A.units + 64 < gp:=by have:=r.un; omega
def uD:TA:=fun _ H Q=>Q [] H
def jY (ta:TE) (tr:TA):TA:=fun σ H Q=>ta σ H fun x H1=>tr σ H1 fun xs H2=>Q (x :: xs) H2
section
variable {X:Cx} {e:cZ} {es:List cZ} {te:TE} {t:TA} {pos:Pos}
theorem ak:PA X [] uD:=fun _ _ _ _ H Q I h=>Calls.spliced_nil ⟨[],H,I,.nil,h⟩
theorem aw (ha:PE X e te) (hr:PA X es t) (hs:cW (e :: es) X.env=(false,gj e X.env) :: cW es X.env:=by rfl):PA X (e :: es) (jY te t):=by
  intro pos pins s σ H Q I h
  rw [hs]
  show b8 _ _ (spliced ((false,gj e X.env) :: jP pos (cW es X.env))) _ _ s
  refine Calls.spliced_cons (thn (ha pins s σ H _ I h) fun u s1 ⟨x,H1,I1,r1,q1⟩=>?_)
  exact thn (hr pos pins s1 σ H1 _ I1 q1) fun us s2 ⟨xs,H2,I2,r2,q2⟩=>⟨x :: xs,H2,I2,.cons r1 r2,q2⟩
def tTup (t:TA):TE:=fun σ H Q=>t σ H fun xs H1=>xs.length<=aE/\∀ p,H1 p=none->Q (.ref p) (upd H1 p (.tup xs))
def Dx (t:TA):TE:=fun σ H Q=>t σ H fun xs H1=>xs.length<=aE/\∀ p,H1 p=none->Q (.ref p) (upd H1 p (.lst xs))
theorem eO {x1} (h:PA X es t):PE X (.Tuple es x1 pos) (tTup t):=by
  intro pins s σ H Q I hq
  refine wpAny_Tuple_spliced (thn (h pos pins s σ H _ I hq) fun us s1 ⟨xs,H1,I1,r,z,q⟩=>⟨by rw [<- r.length]; exact z,?_⟩)
  have hf:H1 s1.heap.objs.size=none:=I1.hok.fresh (aS _)
  refine ⟨.ref s1.heap.objs.size,upd H1 s1.heap.objs.size (.tup xs),I1.laid (t':=s1.toks) (fun b u e=>aU _ e) (aS _) ?_,rfl,q _ hf⟩
  exact ⟨z,us,r,⟨_,cQ _ rfl,rfl,_,rfl⟩⟩
theorem el (h:PA X es t):PE X (.List es pos) (Dx t):=by
  intro pins s σ H Q I hq
  refine wpAny_List_spliced (thn (h pos pins s σ H _ I hq) fun us s1 ⟨xs,H1,I1,r,z,q⟩=>⟨by rw [<- r.length]; exact z,?_⟩)
  have hf:H1 s1.heap.objs.size=none:=I1.hok.fresh (aS _)
  refine ⟨.ref s1.heap.objs.size,upd H1 s1.heap.objs.size (.lst xs),I1.laid (t':=s1.toks) (fun b u e=>aU _ e) (aS _) ?_,rfl,q _ hf⟩
  exact ⟨z,us,0,r,cQ _ rfl⟩
end
abbrev Sp:=List V->Hp->VK->XK->Prop
abbrev CXT:=List Env->Hp->ax->XK->af->ax->Prop
structure vS (P:aX) (w:cz) (K:aj) (mg:Str->Option af) (base:cR) (A:cO) (outer:List Env) (s:ax) (H:Hp):Prop where
  frames:A.frames=some outer
  mod:Mod K mg base
  bs:∀ b o,base.get? b=some o->s.heap.get? b=some o/\H b=none
  bsz:base.objs.size<=s.heap.objs.size
  funs:s.heap.FunFrames base outer
  frf:∀ b∈frs outer,H b=none
  hok:HOk P w H s.heap
  bare:mn s.gens
def CE (outer:List Env) (P:aX) (w:cz) (H:Hp) (s:ax) (Q:VK) (u:af) (s':ax):Prop:=
  ∃ v H',s'.os=s.os/\mn s'.gens/\Un (frs outer) [] H H' s.heap s'.heap/\HOk P w H' s'.heap/\RelV v u/\Q v H'
def CR (CX:CXT) (outer:List Env) (P:aX) (w:cz) (H:Hp) (s:ax) (Q:VK) (E:XK) (r:Dw) (s':ax):Prop:=
  match r with
  | .ok (.ret u)=>CE outer P w H s Q u s'
  | .ok _=>False
  | .error e=>CX outer H s E e s'
structure bZ (P:aX) (w:cz) (K:aj) (mg:Str->Option af) (base:cR) (CX:CXT) (k:Nat) (f:ae) (fd:cH) (ps:List Str) (sp:Sp):Prop where
  len:∀ vs H Q E,sp vs H Q E->vs.length=ps.length
  run:∀ (A:cO) (outer:List Env) (s:ax) (H:Hp) (args:Args) (us:List af) (vs:List V) (Q:VK) (E:XK),eN k A->vS P w K mg base A outer s H->vB s fd args (ps.zip us)->dQ vs us->sp vs H Q E ->
    nX (cm P w) A (.call (.ref f) args) (CR CX outer P w H s Q E) s
theorem vS.make {P:aX} {w:cz} {K:aj} {mg:Str->Option af} {base:cR} {A:cO} {outer:List Env} {s:ax} {H:Hp} (e:vS P w K mg base A outer s H) (C:ae) (us:List af) (kw:List (Str×af)) :
    vS P w K mg base (A.under (.builtin "type.__call__" ⟨.ref C :: us,kw⟩)) outer s H:=⟨by first | exact e.frames | (simpa [um,Code.envs,vA,pushEnvs] using e.frames),e.mod,e.bs,e.bsz,e.funs,e.frf,e.hok,e.bare⟩
section
variable {X:Cx} {pins:List (ae×Obj)} {σ:St} {H:Hp} {s s':ax}
theorem Inv.env0 (I:Inv X pins σ H s):vS X.prog X.w X.K X.mg X.base X.A X.stack s H:=
  ⟨I.ok.frames,I.ok.mod,I.bs,cU I.ok.bsz I.sz,I.stack,I.stkFree,I.hok,I.bare⟩
theorem Inv.after {Q:VK} {u:af} (I:Inv X pins σ H s) (h:CE X.stack X.prog X.w H s Q u s'):EP X pins σ Q u s':=by
  obtain ⟨v,H',os,bare,un,hok,r,q⟩:=h
  obtain ⟨hh,g,d,t,os'⟩:=s'
  obtain rfl:os'=s.os:=os
  exact ⟨v,H',I.call (h':=hh) (g':=g) (d':=d) (t':=t) (ch:=[]) un hok bare (fun b z=>absurd z (by simp)),r,q⟩
end
def zy (sp:Sp) (dvs:List V) (E:XK) (t:TA):TE:=fun σ H Q=>t σ H fun vs H1=>sp (vs++dvs) H1 Q E
def Cv (C:ae) (m:Str) (sp:Sp) (dvs:List V) (E:XK) (ta:TE) (t:TA):TE:=fun σ H Q=>ta σ H fun x H1=>∃ a dx fs,x=.ref a/\H1 a=some (.ins C dx fs)/\fs.lookup m=none /\
  t σ H1 fun vs H2=>sp (x :: (vs++dvs)) H2 Q E
def tMake (C:ae) (sp:Sp) (dvs:List V) (E:XK) (t:TA):TE:=fun σ H Q=>t σ H fun vs H1=>∀ x dx,H1 x=none->H1 dx=none->dx≠x ->
  sp (.ref x :: (vs++dvs)) (upd (upd H1 dx (.own x)) x (.ins C dx [])) (fun v H2=>v=.non/\Q (.ref x) H2) E
def Binds (K:aj) (fd:cH) (ps:List Str) (ds:List af):Prop:=
  ∀ (s:ax) (us:List af),K.In s.heap->(us++ds).length=ps.length->vB s fd ⟨us,[]⟩ (ps.zip (us++ds))
theorem Binds.all {K:aj} {fd:cH} {ps:List Str} (h:∀ us:List af,us.length=ps.length->bindArgs fd ⟨us,[]⟩=pure (ps.zip us)):Binds K fd ps []:=fun s us _ hl=>by
  rw [dj] at hl |-
  exact .of_eq (h us hl)
def lK (CX:CXT) (X:Cx) (E:XK):Prop:=∀ (pins:List (ae×Obj)) (σ:St) (H:Hp) (s:ax) (e:af) (s':ax),Inv X pins σ H s->CX X.stack H s E e s'->X.xe e s'
section
variable {X:Cx} {CX:CXT} {k:Nat} {f C:ae} {fd:cH} {ps:List Str} {sp:Sp} {dvs:List V} {ds:List af} {E:XK} {x m:Str} {p pos apos:Pos} {e o:cZ} {es:List cZ} {ta:TE} {t:TA}
theorem tJ {pins:List (ae×Obj)} {σ:St} {H:Hp} {s:ax} {Q:VK} {us:List af} {vs:List V} (F:bZ X.prog X.w X.K X.mg X.base CX k f fd ps sp) (hr:eN k X.A) (hb:Binds X.K fd ps ds) (hd:dQ dvs ds) (hx:lK CX X E)
    (I:Inv X pins σ H s) (r:dQ vs us) (h:sp (vs++dvs) H Q E):b8 (cm X.prog X.w) X.A (A9 (.ref f) us) (EP X pins σ Q) X.xe s:=by
  have r2:dQ (vs++dvs) (us++ds):=r.append hd
  have hl:(us++ds).length=ps.length:=by rw [<- r2.length]; exact F.len _ _ _ _ h
  refine qD (nY (F.run X.A X.stack s H ⟨us,[]⟩ (us++ds) (vs++dvs) Q E hr I.env0 (hb s us I.kIn hl) r2 h) fun r s' hq=>?_)
  cases r with
  | error e=>exact hx pins σ H s e s' I hq
  | ok fl =>
    cases fl with
    | ret u=>exact I.after hq
    | next=>exact dX hq
    | brk=>exact dX hq
    | cont=>exact dX hq
theorem aN (F:bZ X.prog X.w X.K X.mg X.base CX k f fd ps sp) (hr:eN k X.A) (hg:Gl X x) (hm:X.mg x=some (.ref f)) (hk:aC X.K (.ref f)=true) (hb:Binds X.K fd ps ds) (hd:dQ dvs ds) (hx:lK CX X E)
    (ha:PA X (e :: es) t) (hdb:(x == ("__debug__":Str))=false:=by decide) (he:cW (e :: es) X.env=(false,gj e X.env) :: cW es X.env:=by rfl) (hpl:(jP pos (cW es X.env)).any (·.1)=false:=by rfl) :
    PE X (.Call (.Name x p) (e :: es) [] pos) (zy sp dvs E t):=by
  intro pins s σ H Q I h
  refine js (m5 I hg hm ?_ hdb)
  refine ka (h₀:=X.base) I.ok.mod.kin hk (thn (ha pos pins s σ H _ I h) fun us s1 ⟨vs,H1,I1,r,q⟩=>⟨I1.kIn,?_⟩) he hpl
  exact tJ F hr hb hd hx I1 r q
theorem iL {pl:Sem Bool} (he:PE X o ta) (c:Cls X.K C) (hm:kW X.K C m f) (F:bZ X.prog X.w X.K X.mg X.base CX k f fd ps sp) (hr:eN k X.A) (hb:Binds X.K fd ps ds) (hd:dQ dvs ds) (hx:lK CX X E) (ha:PA X (e :: es) t)
    (hst:cW (e :: es) X.env=(false,gj e X.env) :: cW es X.env:=by rfl) (hpl:(jP pos (cW es X.env)).any (·.1)=false:=by rfl)
    (ht:gj (.Call (.Attribute o m apos) (e :: es) [] pos) X.env=(do
      let ov <- gj o X.env
      vy apos.atName
      let (f,first) <- pI [ov] (nC ov m pl)
      callWith pos f first (jP pos (cW (e :: es) X.env)) (Bg pos (uo [] X.env))):=by rfl) :
    PE X (.Call (.Attribute o m apos) (e :: es) [] pos) (Cv C m sp dvs E ta t):=by
  intro pins s σ H Q I h
  refine md (pl:=pl) (thn (he pins s σ H _ I h) fun u s1 ⟨x,H1,I1,rx,a,dx,fs,ex,ea,l,q⟩=>?_) ht
  subst ex
  obtain rfl:u=Value.ref a:=rx
  refine qB I1 ea c hm l ?_
  refine ka (first:=[.ref a]) (h₀:=X.base) I.ok.mod.kin hm.kp (thn (ha pos pins s1 σ H1 _ I1 q) fun us s2 ⟨vs,H2,I2,r,q2⟩=>⟨I2.kIn,?_⟩) hst hpl
  exact tJ (us:=.ref a :: us) (vs:=.ref a :: vs) F hr hb hd hx I2 (.cons rfl r) q2
theorem qE {pl:Sem Bool} (he:PE X o ta) (c:Cls X.K C) (hm:kW X.K C m f) (F:bZ X.prog X.w X.K X.mg X.base CX k f fd ps sp) (hr:eN k X.A) (hb:Binds X.K fd ps ds) (hd:dQ dvs ds) (hx:lK CX X E)
    (ht:gj (.Call (.Attribute o m apos) [] [] pos) X.env=(do
      let ov <- gj o X.env
      vy apos.atName
      let (f,first) <- pI [ov] (nC ov m pl)
      callWith pos f first (jP pos (cW [] X.env)) (Bg pos (uo [] X.env))):=by rfl) :
    PE X (.Call (.Attribute o m apos) [] [] pos) (Cv C m sp dvs E ta uD):=by
  intro pins s σ H Q I h
  refine md (pl:=pl) (thn (he pins s σ H _ I h) fun u s1 ⟨x,H1,I1,rx,a,dx,fs,ex,ea,l,q⟩=>?_) ht
  subst ex
  obtain rfl:u=Value.ref a:=rx
  refine qB I1 ea c hm l ?_
  exact vC (first:=[.ref a]) I1.kIn hm.kp (tJ (us:=[.ref a]) (vs:=[.ref a]) F hr hb hd hx I1 (.cons rfl .nil) q)
structure Mk (K:aj) (C f:ae):Prop where
  makes:jR K C=true
  init:aD K (.ref C) "__init__"=some (some (.ref f))
  fn:dW K (.ref f)=true
  kp:aC K (.ref C)=true
theorem zA {pins:List (ae×Obj)} {σ:St} {H:Hp} {s:ax} {Q:VK} {us:List af} {vs:List V} (M:Mk X.K C f) (F:bZ X.prog X.w X.K X.mg X.base CX k f fd ps sp) (hr:eN (k + 1) X.A) (hb:Binds X.K fd ps ds) (hd:dQ dvs ds)
    (hx:lK CX X E) (I:Inv X pins σ H s) (r:dQ vs us)
    (h:∀ x dx,H x=none->H dx=none->dx≠x->sp (.ref x :: (vs++dvs)) (upd (upd H dx (.own x)) x (.ins C dx [])) (fun v H2=>v=.non/\Q (.ref x) H2) E) :
    b8 (cm X.prog X.w) X.A (A9 (.ref C) us) (EP X pins σ Q) X.xe s:=by
  have hq:=h (s.heap.objs.size + 1) s.heap.objs.size (I.hok.fresh (lI _)) (I.hok.fresh (aS _)) (cA (lZ _))
  have I2:=Inv.made (C:=C) I
  have r2:dQ (V.ref (s.heap.objs.size + 1) :: (vs++dvs)) (Value.ref (s.heap.objs.size + 1) :: (us++ds)):=.cons rfl (r.append hd)
  have hl:(Value.ref (s.heap.objs.size + 1) :: us++ds).length=ps.length:=by
    have e:=r2.length
    rw [F.len _ _ _ _ hq] at e
    exact e.symm
  refine qD (zv (f:=f) I.kIn M.makes M.init (beq_iff_eq.mp M.fn) (nY (F.run _ X.stack _ _ ⟨Value.ref (s.heap.objs.size + 1) :: us,[]⟩ (Value.ref (s.heap.objs.size + 1) :: (us++ds)) _ _ E (hr.make C us [])
    (I2.env0.make C us []) (hb _ (Value.ref (s.heap.objs.size + 1) :: us) I2.kIn hl) r2 hq) fun r s' hq'=>?_))
  cases r with
  | error e=>exact hx pins σ _ _ e s' I2 hq'
  | ok fl =>
    cases fl with
    | ret u =>
      obtain ⟨v,H',I3,rv,ev,q3⟩:=I2.after hq'
      subst ev
      exact ⟨rv,⟨V.ref (s.heap.objs.size + 1),H',I3,rfl,q3⟩⟩
    | next=>exact dX hq'
    | brk=>exact dX hq'
    | cont=>exact dX hq'
theorem pZ (M:Mk X.K C f) (F:bZ X.prog X.w X.K X.mg X.base CX k f fd ps sp) (hr:eN (k + 1) X.A) (hg:Gl X x) (hm:X.mg x=some (.ref C)) (hb:Binds X.K fd ps ds) (hd:dQ dvs ds) (hx:lK CX X E)
    (ha:PA X (e :: es) t) (hdb:(x == ("__debug__":Str))=false:=by decide) (he:cW (e :: es) X.env=(false,gj e X.env) :: cW es X.env:=by rfl) (hpl:(jP pos (cW es X.env)).any (·.1)=false:=by rfl) :
    PE X (.Call (.Name x p) (e :: es) [] pos) (tMake C sp dvs E t):=by
  intro pins s σ H Q I h
  refine js (m5 I hg hm ?_ hdb)
  refine ka (h₀:=X.base) I.ok.mod.kin M.kp (thn (ha pos pins s σ H _ I h) fun us s1 ⟨vs,H1,I1,r,q⟩=>⟨I1.kIn,?_⟩) he hpl
  exact zA M F hr hb hd hx I1 r q
end
section
variable {X:Cx} {CX:CXT} {k:Nat} {f C:ae} {fd:cH} {ps ks:List Str} {sp:Sp} {E:XK} {x m:Str} {p pos apos kpos:Pos} {e o:cZ} {es:List cZ} {kws:List E1} {te ta:TE} {t tk:TA} {nm:Option Str}
variable {g:List af->List af->List af} {gV:List V->List V->List V}
end
structure cD (N P:List Str) (sc:lA):Prop where
  kind:sc.kind=.function
  co:sc.isCoroutine=false
  gen:sc.isGenerator=false
  nd:N.Nodup
  pre:N.take P.length=P
  par:∀ x∈P,sc.names.lookup x=some .local\/sc.names.lookup x=some .cell
  nofree:∀ y∈sc.names,y.2≠.free
theorem r9 {kindOf:Str->Option jS} {x:Str}:∀ {binds:List (Str×af)} {m:Str->Option af},(∀ v,(x,v)∉binds)->y9 kindOf binds m x=m x
  | [],_,_=>rfl
  | (n,v) :: r,m,h=>by
    unfold y9
    rw [r9 fun w hw=>h w (aa _ hw)]
    split
    · have:x≠n:=by rintro rfl; exact h v aA
      simp [this]
    · rfl
theorem sh {kindOf:Str->Option jS} {x:Str}:∀ {binds:List (Str×af)} {m:Str->Option af},(∀ v,(x,v)∉binds)->za kindOf binds m x=m x
  | [],_,_=>rfl
  | (n,v) :: r,m,h=>by
    unfold za
    rw [sh fun w hw=>h w (aa _ hw)]
    split
    · rfl
    · have:x≠n:=by rintro rfl; exact h v aA
      simp [this]
theorem si {kindOf:Str->Option jS} {x:Str} {v:af}:∀ {P:List Str} {vs:List af} {i:Nat} {m:Str->Option af},P.Nodup->P[i]?=some x->vs[i]?=some v->kindOf x=some .local ->
    y9 kindOf (P.zip vs) m x=some v
  | [],_,_,_,_,h,_,_=>by simp at h
  | _ :: _,[],_,_,_,_,h,_=>by simp at h
  | p :: P,w :: vs,0,m,nd,h1,h2,hk=>by
    simp at h1 h2; subst h1; subst h2
    show y9 kindOf ((p,w) :: P.zip vs) m p=_
    unfold y9
    rw [r9 fun v hv=>(cI.mp nd).1 (rC hv).1,if_pos hk]
    simp
  | p :: P,w :: vs,i + 1,m,nd,h1,h2,hk=>by
    show y9 kindOf ((p,w) :: P.zip vs) m x=_
    unfold y9
    exact si (i:=i) (cI.mp nd).2 (by simpa using h1) (by simpa using h2) hk
theorem sv {kindOf:Str->Option jS} {x:Str} {v:af}:∀ {P:List Str} {vs:List af} {i:Nat} {m:Str->Option af},P.Nodup->P[i]?=some x->vs[i]?=some v->kindOf x≠some .local ->
    za kindOf (P.zip vs) m x=some v
  | [],_,_,_,_,h,_,_=>by simp at h
  | _ :: _,[],_,_,_,_,h,_=>by simp at h
  | p :: P,w :: vs,0,m,nd,h1,h2,hk=>by
    simp at h1 h2; subst h1; subst h2
    show za kindOf ((p,w) :: P.zip vs) m p=_
    unfold za
    rw [sh fun v hv=>(cI.mp nd).1 (rC hv).1,if_neg hk]
    simp
  | p :: P,w :: vs,i + 1,m,nd,h1,h2,hk=>by
    show za kindOf ((p,w) :: P.zip vs) m x=_
    unfold za
    exact sv (i:=i) (cI.mp nd).2 (by simpa using h1) (by simpa using h2) hk
def start (N:List Str) (vs:List V):St:=vs.map some++cV (N.length - vs.length) none
def uE (CX:CXT) (P:aX) (w:cz) (K:aj) (mg:Str->Option af) (base:cR) (N:List Str) (qual:Str) (scope:lA) (f:ae) (cd:af) (A:cO) (outer:List Env) (s:ax) (H:Hp) (E:XK):Cx where
  prog:=P
  w:=w
  K:=K
  mg:=mg
  base:=base
  A:=A.deeper (o5 qual scope s.heap.objs.size f cd)
  N:=N
  s₀:=s
  H₀:=H
  env:=o5 qual scope s.heap.objs.size f cd
  outer:=outer
  stack:=o5 qual scope s.heap.objs.size f cd :: outer
  ex:=[]
  calm:=true
  fn:=fun _=>true
  pn:=[]
  xe:=fun e s'=>b8 (cm P w) (A.deeper (o5 qual scope s.heap.objs.size f cd)) (vD (o5 qual scope s.heap.objs.size f cd) e) (fun _ s''=>CX outer H s E e s'') (fun e' s''=>CX outer H s E e' s'') s'
theorem uF {sc:lA} {n:Nat} {x:Str} (h:sc.names.lookup x=some .cell):∃ c,(cellsFrom n sc.names []).lookup x=some c:=by
  have q:=tK sc.names n [] (.inl h)
  exact Option.isSome_iff_exists.mp q
theorem yo {CX:CXT} {P:aX} {w:cz} {K:aj} {mg:Str->Option af} {base:cR} {N ps:List Str} {qual:Str} {scope:lA} {f:ae} {cd:af} {A:cO} {outer:List Env} {s s1:ax} {H:Hp} {E:XK} {us:List af} {vs:List V}
    (S:cD N ps scope) (hd:A.handled=none) (e0:vS P w K mg base A outer s H) (hl:vs.length=ps.length) (r:dQ vs us)
    (x:InCallC s s.heap.objs.size (y9 (o5 qual scope s.heap.objs.size f cd).kindOf (ps.zip us) fun _=>none) (cellsFrom (s.heap.objs.size + 1) scope.names []) (za (o5 qual scope s.heap.objs.size f cd).kindOf (ps.zip us) fun _=>none) s1) :
    Inv (uE CX P w K mg base N qual scope f cd A outer s H E) [] (start N vs) H s1:=by
  have hpl:ps.length<=N.length:=by have:=congrArg gF S.pre; rw [cT] at this; omega
  obtain ⟨h1,tk,rfl,hk⟩:=x.done
  have noA:∀ b:ae,b∉(uE CX P w K mg base N qual scope f cd A outer s H E).ex:=fun b z=>absurd (show b∈([]:List ae) from z) (by simp)
  refine ⟨⟨e0.mod,S.kind,rfl,rfl,aS _,fun y z c h1 h2=>?_,fun y hy=>?_,fun y c _ h=>?_,fun _=>hd,Around.frames_deeper e0.frames,.inr ⟨rfl,rfl⟩,fun b z=>absurd z (noA b),e0.bs,e0.bsz,fun b _ _=>noA b,fun b z=>absurd z (noA b),e0.funs,e0.frf⟩,
    rfl,e0.bare,Un.kept hk,⟨_,x.toInCall.ns,fun i y v h1 h2 h3=>?_⟩,fun y c h=>⟨_,x.cell y c h⟩,e0.hok.fresh (aS _),fun y c h=>?_,fun p hp=>absurd (show p∈([]:List (ae×Obj)) from hp) (by simp),e0.hok.kept hk,?_⟩
  · exact name_of_addr x.apart (fJ h1) (fJ h2)
  · have hy:scope.names.lookup y=some .cell\/scope.names.lookup y=some .free:=hy
    rcases hy with hy | hy
    · exact uF hy
    · exact absurd rfl (S.nofree _ (fJ hy))
  · exact kA (x.above y c (fJ h))
  · have hi:i < vs.length:=by
      unfold start at h2
      by_cases hi:i < vs.length
      · exact hi
      · rw [e9 (by simpa using hi)] at h2
        rw [lU] at h2
        split at h2 <;> cases h2
    have ha:vs[i]?=some v:=by
      unfold start at h2
      rw [gA (by simpa using hi),dk] at h2
      cases e:vs[i]? with
      | none=>rw [e] at h2; cases h2
      | some a=>rw [e] at h2; cases h2; rfl
    obtain ⟨u,hu,rv⟩:=r.get ha
    have hp:ps[i]?=some y:=by
      rw [<- S.pre,List.getElem?_take_of_lt (by omega)]; exact h1
    have ndP:ps.Nodup:=by rw [<- S.pre]; exact S.nd.sublist (gG _ _)
    refine ⟨u,rv,?_⟩
    rcases S.par y (cy hp) with k | k
    · exact .inl ⟨k,si ndP hp hu k⟩
    · obtain ⟨c,e⟩:=uF (n:=s.heap.objs.size + 1) k
      refine .inr ⟨.inl k,c,e,?_⟩
      have q:=x.cell y c e
      rw [sv ndP hp hu (by show scope.names.lookup y≠_; rw [k]; decide)] at q
      exact q
  · exact e0.hok.fresh (kA (x.above y c (fJ h)))
  · unfold start
    show _=N.length
    rw [ay,ai,jL]
    omega
theorem Cw {CX:CXT} {P:aX} {w:cz} {K:aj} {mg:Str->Option af} {base:cR} {k:Nat} {f:ae} {name qual:Str} {params:Arguments} {body:List dU} {scope:lA} {dV kV doc pm cdv ct oc:af} {an od:Option ae}
    {osl:Array (Option af)} {N ps:List Str} {sp:Sp} (lk:K.lookup f=some ⟨oc,od,.func (aK name qual params body scope dV kV doc pm an cdv ct),osl⟩) (hcd:aG K cdv qual=true) (S:cD N ps scope)
    (len:∀ vs H Q E,sp vs H Q E->vs.length=ps.length)
    (hbody:∀ (A:cO) (outer:List Env) (s:ax) (H:Hp) (vs:List V) (Q:VK) (E:XK),eN k (A.deeper (o5 qual scope s.heap.objs.size f cdv))->sp vs H Q E ->
      ∃ t,PSs (uE CX P w K mg base N qual scope f cdv A outer s H E) body t/\t {nx:=fun _ H'=>Q .non H',rt:=Q} (start N vs) H) :
    bZ P w K mg base CX (k + 1) f (aK name qual params body scope dV kV doc pm an cdv ct) ps sp:=by
  refine ⟨len,fun A outer s H args us vs Q E hr e0 hb r hsp=>?_⟩
  have hl:=len _ _ _ _ hsp
  have KX:K.In s.heap:=e0.mod.kin.keeps fun b o e=>(e0.bs b o e).1
  have lim:s.heap.NoLimit:=e0.mod.nolimit.keeps fun b o e=>(e0.bs b o e).1
  have hkind:∀ y∈ps.zip us,scope.names.lookup y.1=some .local\/(scope.names.lookup y.1=some .cell/\((cellsFrom (s.heap.objs.size + 1) scope.names []).lookup y.1).isSome=true):=fun ⟨n,v⟩ hy=>by
    rcases S.par n (rC hy).1 with q | q
    · exact .inl q
    · exact .inr ⟨q,tK _ _ _ (.inl q)⟩
  refine codeAny_call_function hr.depth (KX _ _ lk) rfl S.co S.gen rfl (PySem.W.codeRec_of KX hcd) (hb _ _ _ _ ?_)
  refine wpAny_newFunctionEnv_cells S.kind hkind fun env he s1 x=>?_
  subst he
  refine ⟨lim.keeps x.toInCall.keep,codeAny_func ?_⟩
  obtain ⟨t,ht,hq⟩:=hbody A outer s H vs Q E (hr.deeper _) hsp
  have I:Inv (uE CX P w K mg base N qual scope f cdv A outer s H E) [] (start N vs) H s1:=yo S hr.hd e0 hl r x
  refine fh (ht [] s1 (start N vs) H _ I hq) (fun fl s' hs=>?_) fun e s' hs=>hs
  have fin:∀ {σ':St} {H':Hp} {v:V} {u:af},Inv (uE CX P w K mg base N qual scope f cdv A outer s H E) [] σ' H' s'->RelV v u->Q v H'->CE outer P w H s Q u s':=
    fun {σ' H' v u} J rv q=>⟨v,H',J.os,J.bare,J.base,J.hok,rv,q⟩
  cases fl with
  | ret u =>
    obtain ⟨v,σ',H',J,rv,q⟩:=hs
    exact fin J rv q
  | next =>
    obtain ⟨σ',H',J,q⟩:=hs
    exact fin (v:=V.non) (u:=Value.none) J rfl q
  | brk =>
    obtain ⟨_,_,_,q⟩:=hs
    exact dX q
  | cont =>
    obtain ⟨_,_,_,q⟩:=hs
    exact dX q
end L2
namespace L2
open PySem PySem.Spec PyProof.Rows
section
variable {X:Cx} {x:Str} {p pos:Pos} {e:cZ} {es:List cZ} {t:TA} {id T:String} {r:List V->Hp->VK->Prop}
def tCB (r:List V->Hp->VK->Prop) (t:TA):TE:=fun σ H Q=>t σ H fun vs H1=>r vs H1 Q
theorem cu (hc:kJ X (.builtin id) r) (hg:Gl X x) (hm:X.mg x=none) (hv:eI x=some (.builtin id)) (ha:PA X (e :: es) t) (hn:x≠"__name__":=by decide) (hdb:(x == ("__debug__":Str))=false:=by decide)
    (he:cW (e :: es) X.env=(false,gj e X.env) :: cW es X.env:=by rfl) (hpl:(jP pos (cW es X.env)).any (·.1)=false:=by rfl):PE X (.Call (.Name x p) (e :: es) [] pos) (tCB r t):=by
  intro pins s σ H Q I h
  refine js (tE I hg hm hv ?_ hn hdb)
  exact PyProof.Rows.callWith_builtin1 (thn (ha pos pins s σ H _ I h) fun us s1 ⟨vs,H1,I1,r1,q1⟩=>hc pins s1 σ H1 vs us Q I1 r1 q1) he hpl
theorem hV (hc:kJ X (.type T) r) (hg:Gl X x) (hm:X.mg x=none) (hv:eI x=some (.type T)) (ha:PA X (e :: es) t) (hn:x≠"__name__":=by decide) (hdb:(x == ("__debug__":Str))=false:=by decide)
    (he:cW (e :: es) X.env=(false,gj e X.env) :: cW es X.env:=by rfl) (hpl:(jP pos (cW es X.env)).any (·.1)=false:=by rfl):PE X (.Call (.Name x p) (e :: es) [] pos) (tCB r t):=by
  intro pins s σ H Q I h
  refine js (tE I hg hm hv ?_ hn hdb)
  exact oy (thn (ha pos pins s σ H _ I h) fun us s1 ⟨vs,H1,I1,r1,q1⟩=>hc pins s1 σ H1 vs us Q I1 r1 q1) he hpl
end
end L2
namespace HT
open PySem PyProof.Rows
section
open PySem.SeqAt
open PySem.AutoSeq1 (wpAny_loadPart')
open PySem.MeetsSeq PySem.MeetsSeq2 PySem.MeetsSeq3
end
section
variable {prog:aX} {w:cz} {A:cO} {E:af->ax->Prop} {s:ax}
theorem cat_tup {t b:ae} {vs ws:List af} {Q:af->ax->Prop} (ht:IsTup s.heap t vs.toArray) (hb:IsTup s.heap b ws.toArray) (hv:vs≠[])
    (h1:ws=[]->Q (.ref t) s) (h2:ws≠[]->Q (.ref s.heap.objs.size) {s with heap:=s.heap.push {cls:=.type "tuple",data:=.seq (vs++ws).toArray}})
    (hsz:vs.length + ws.length<=aE):b8 (cm prog w) A (iA .Add (.ref t) (.ref b)) Q E s:=by
  obtain ⟨⟨cls,dd,data,sl⟩,ho,hc,n,hd⟩:=id ht
  obtain ⟨⟨cls2,dd2,data2,sl2⟩,ho2,hc2,n2,hd2⟩:=id hb
  simp only at hc hd hc2 hd2
  subst hc hd hc2 hd2
  have e:vs.toArray++ws.toArray=(vs++ws).toArray:=by simp
  by_cases hw:ws=[]
  · exact concat_meets ⟨_,ho,rfl⟩ ⟨_,ho2,rfl⟩ noFill_tuple_add seq_tuple_add tL sD (rH _ _)
      (tuple_addW1 t b vs.toArray ws.toArray n n2 dd dd2 sl sl2 (by simpa using hv) (by simp [hw])) ⟨ho,ho2,h1 hw⟩
  · refine concat_meets ⟨_,ho,rfl⟩ ⟨_,ho2,rfl⟩ noFill_tuple_add seq_tuple_add tL sD (rH _ _)
      (tuple_addW2 t b vs.toArray ws.toArray n n2 dd dd2 sl sl2 (by simpa using hv) (by simpa using hw) (by rw [bg,bg]; exact hsz)) ⟨ho,ho2,?_⟩
    rw [e]
    exact h2 hw
def sIx (n d:Nat):Option Int->Nat
  | none=>d
  | some v=>if v < 0 then (v + (n:Int)).toNat else min v.toNat n
end
end HT
namespace L2
open PySem PySem.Spec PyProof.Rows
abbrev TO:=St->Hp->(Option Int->Hp->Prop)->Prop
def PO (X:Cx) (e:Option cZ) (t:TO):Prop:=
  ∀ (pins:List (ae×Obj)) (s:ax) (σ:St) (H:Hp) (Q:Option Int->Hp->Prop),Inv X pins σ H s->t σ H Q ->
    b8 (cm X.prog X.w) X.A (evalPart e X.env) (fun u s'=>∃ o H',Inv X pins σ H' s'/\IsPart u o/\Q o H') X.xe s
def Bh:TO:=fun _ H Q=>Q none H
def tPart (t:TE):TO:=fun σ H Q=>t σ H fun x H1=>∃ i,x=.int i/\Q (some i) H1
section
variable {X:Cx} {e:cZ} {te:TE} {lo hi:Option cZ} {tl th:TO} {pos p2:Pos}
theorem p0:PO X none Bh:=by
  intro pins s σ H Q I h
  rw [yp]
  exact cg ⟨none,H,I,.none,h⟩
theorem j3 (h:PE X e te):PO X (some e) (tPart te):=by
  intro pins s σ H Q I hw
  rw [evalPart_some]
  refine thn (h pins s σ H _ I hw) fun u s1 ⟨x,H1,I1,r1,q1⟩=>?_
  obtain ⟨i,rfl,q⟩:=q1
  obtain ⟨t,rfl⟩:=r1
  exact ⟨some i,H1,I1,.int i t,q⟩
def SlR (X:Cx) (r:V->Option Int->Option Int->Hp->VK->Prop):Prop:=
  ∀ (pins:List (ae×Obj)) (s:ax) (σ:St) (H:Hp) (x:V) (v vl vu:af) (lo hi:Option Int) (sl:ae) (Q:VK),Inv X pins σ H s->RelV x v->s.heap.IsSliceOf sl vl vu .none->IsPart vl lo->IsPart vu hi->r x lo hi H Q ->
    ∃ T id,Dy (.type T) "__getitem__"=pure (some (.builtin id))/\s.TypeIs v T/\b8 (cm X.prog X.w) X.A (rJ v (.ref sl)) (EP X pins σ Q) X.xe s
def tSl (r:V->Option Int->Option Int->Hp->VK->Prop) (te:TE) (tl th:TO):TE:=fun σ H Q=>te σ H fun x H1=>tl σ H1 fun l H2=>th σ H2 fun u H3=>r x l u H3 Q
theorem mO {r:V->Option Int->Option Int->Hp->VK->Prop} (hr:SlR X r) (he:PE X e te) (hl:PO X lo tl) (hu:PO X hi th):PE X (.Subscript e (.Slice lo hi none p2) pos) (tSl r te tl th):=by
  intro pins s σ H Q I h
  refine vT (thn (he pins s σ H _ I h) fun v s1 ⟨x,H1,I1,r1,q1⟩=>?_)
  refine wpAny_Slice (thn (hl pins s1 σ H1 _ I1 q1) fun vl s2 ⟨l,H2,I2,pl,q2⟩=>thn (hu pins s2 σ H2 _ I2 q2) fun vu s3 ⟨u,H3,I3,pu,q3⟩=>?_)
  rw [yp]
  refine cg ?_
  have I4:Inv X pins σ H3 {s3 with heap:=s3.heap.push {cls:=.type "slice",data:=.fields #[vl,vu,.none]}}:=I3.kept (t':=s3.toks) fun b ob q=>aU _ q
  obtain ⟨T,id,hT,ht,hg⟩:=hr pins {s3 with heap:=s3.heap.push {cls:=.type "slice",data:=.fields #[vl,vu,.none]}} σ H3 x v vl vu l u s3.heap.objs.size Q I4 r1 (rD ..) pl pu q3
  show b8 (cm X.prog X.w) X.A (p4 e (.Slice lo hi none p2) v (.ref s3.heap.objs.size)) (EP X pins σ Q) X.xe {s3 with heap:=s3.heap.push {cls:=.type "slice",data:=.fields #[vl,vu,.none]}}
  exact tail_any (ops:=[.ref s3.heap.objs.size,v]) ht hT hg (by with_unfolding_all rfl)
def lL (xs:List V) (lo hi:Option Int):List V:=(xs.drop (HT.sIx xs.length 0 lo)).take (HT.sIx xs.length xs.length hi - HT.sIx xs.length 0 lo)
theorem pK (xs:List V) (lo hi:Option Int):(lL xs lo hi).length<=xs.length:=by
  unfold lL
  rw [cT,AZ]
  exact cU (Nat.min_le_right _ _) (Nat.sub_le _ _)
def rCatT (K:aj):R2:=fun x y H Q=>∃ a b xs ys,x=.ref a/\y=.ref b/\SqT K H a xs/\SqT K H b ys/\xs≠[]/\xs.length + ys.length<=aE /\
  (ys=[]->Q (.ref a) H)/\(ys≠[]->∀ p,H p=none->Q (.ref p) (upd H p (.tup (xs++ys))))
theorem dQ.nil_iff {xs:List V} {us:List af} (r:dQ xs us):us=[]↔xs=[]:=by
  cases r with
  | nil=>simp
  | cons _ _=>simp
theorem Bi:OpR X (iA .Add) (rCatT X.K):=by
  intro pins s σ H x y v u Q I rx ry h
  obtain ⟨a,b,xs,ys,rfl,rfl,ha,hb,hx,hz,q1,q2⟩:=h
  cases rx
  cases ry
  obtain ⟨its,r1,p1,_⟩:=I.tuple ha
  obtain ⟨its2,r2,p2,_⟩:=I.tuple hb
  refine HT.cat_tup p1 p2 (fun z=>hx (r1.nil_iff.mp z)) (fun z=>⟨.ref a,H,I,rfl,q1 (r2.nil_iff.mp z)⟩) (fun z=>?_) (by rw [<- r1.length,<- r2.length]; exact hz)
  refine ⟨.ref s.heap.objs.size,_,I.laid (t':=s.toks) (o:=.tup (xs++ys)) (fun b ob q=>aU _ q) (aS _) ?_,rfl,q2 (fun w=>z (r2.nil_iff.mpr w)) _ (I.hok.fresh (aS _))⟩
  exact ⟨by rw [ay]; exact hz,_,r1.append r2,IsTup.new _ _⟩
end
end L2
namespace L2
open PySem PySem.Spec PyProof.Rows
def ixN (n:Nat) (i:Int):Option Nat:=if 0<=i then (if i < n then some i.toNat else none) else if -(n:Int)<=i then some (i + n).toNat else none
def atI {α:Type} (xs:List α) (i:Int):Option α:=(ixN xs.length i).bind fun j=>xs[j]?
theorem p5 {n:Nat} {i:Int} {j:Nat} (h:ixN n i=some j):seqIndex? i n=some j/\j < n/\-(n:Int)<=i/\i < n:=by
  unfold ixN at h
  by_cases h0:0<=i
  · rw [if_pos h0] at h
    by_cases h1:i < n
    · rw [if_pos h1] at h
      have e:i.toNat=j:=eW h
      exact ⟨by rw [Bj h0 h1,e],by omega,by omega,h1⟩
    · rw [if_neg h1] at h; cases h
  · rw [if_neg h0] at h
    by_cases h1:-(n:Int)<=i
    · rw [if_pos h1] at h
      have e:(i + n).toNat=j:=eW h
      exact ⟨by rw [zB (by omega) h1,e],by omega,h1,by omega⟩
    · rw [if_neg h1] at h; cases h
theorem tM {α:Type} {xs:List α} {i:Int} {v:α} (h:atI xs i=some v):∃ j,seqIndex? i xs.length=some j/\xs[j]?=some v/\j < xs.length/\-(xs.length:Int)<=i/\i < xs.length:=by
  unfold atI at h
  cases e:ixN xs.length i with
  | none=>rw [e] at h; cases h
  | some j =>
    rw [e] at h
    obtain ⟨h1,h2,h3,h4⟩:=p5 e
    exact ⟨j,h1,h,h2,h3,h4⟩
theorem jG {α:Type} {xs:List α} {j:Nat} {v:α} (h:xs[j]?=some v):atI xs (j:Int)=some v:=by
  have hj:j < xs.length:=(aL.mp h).1
  have e:ixN xs.length (j:Int)=some j:=by
    unfold ixN
    rw [if_pos (by omega),if_pos (by omega)]; simp
  unfold atI; rw [e]; exact h
def Bk (b:cZ):Prop:=∀ o i,uu b false o i=operate [o,i] (rJ o i)
def IxR (X:Cx) (r:R2):Prop:=
  ∀ (value slice:cZ) (pins:List (ae×Obj)) (s:ax) (σ:St) (H:Hp) (x y:V) (v u:af) (Q:VK),Inv X pins σ H s->RelV x v->RelV y u->r x y H Q ->
    uu slice false v u=operate [v,u] (rJ v u)->b8 (cm X.prog X.w) X.A (p4 value slice v u) (EP X pins σ Q) X.xe s
def MtR (X:Cx) (id:String) (r:V->List V->Hp->VK->Prop):Prop:=
  ∀ (pins:List (ae×Obj)) (s:ax) (σ:St) (H:Hp) (x:V) (xs:List V) (v:af) (us:List af) (Q:VK),Inv X pins σ H s->RelV x v->dQ xs us->r x xs H Q ->
    b8 (cm X.prog X.w) X.A (A9 (.builtin id) (v :: us)) (EP X pins σ Q) X.xe s
section
variable {X:Cx} {a b:cZ} {ta tb:TE} {pos:Pos}
theorem aP {r:R2} (hr:IxR X r) (ha:PE X a ta) (hb:PE X b tb) (hs:Bk b):PE X (.Subscript a b pos) (tOp r ta tb):=by
  intro pins s σ H Q I h
  exact vT (Dr ha hb I h fun v u s2 x y H2 I2 rx ry q=>hr a b pins s2 σ H2 x y v u Q I2 rx ry q (hs _ _))
def Dz (K:aj):R2:=fun x y H Q=>∃ p xs i v,x=.ref p/\y=.int i/\SqL K H p xs/\atI xs i=some v/\Q v H
def rIxT (K:aj):R2:=fun x y H Q=>∃ p xs i v,x=.ref p/\y=.int i/\SqT K H p xs/\atI xs i=some v/\Q v H
def rIxS:R2:=fun x y H Q=>∃ z i c,x=.str z/\y=.int i/\z.length<=aE/\atI z.cps.toList i=some c/\Q (.str ⟨#[c]⟩) H
theorem bT:IxR X (Dz X.K):=by
  intro value slice pins s σ H x y v u Q I rx ry h hs
  obtain ⟨p,xs,i,z,rfl,rfl,hq,he,q⟩:=h
  cases rx
  obtain ⟨t,rfl⟩:=ry
  obtain ⟨its,r,pl,hz⟩:=I.list hq
  obtain ⟨j,h1,h2,h3,h4,h5⟩:=tM he
  obtain ⟨w,ew,rw'⟩:=r.get h2
  have hl:=r.length
  have hn:=oY
  have fin:EP X pins σ Q w s:=⟨z,H,I,rw',q⟩
  by_cases h0:0<=i
  · have hj:i.toNat=j:=by
      rw [Bj h0 h5] at h1
      exact eW h1
    exact item_listR pl.isList h0 (by omega) (by rw [hj]; simpa using ew) fin hs
  · have hj:(i + (its.toArray.size:Int)).toNat=j:=by
      rw [zB (by omega) h4] at h1
      rw [bg,<- hl]
      exact eW h1
    exact zC (x:=w) pl.isList.typeIs rK.lookup
      (wpAny_getItem_list_neg (Q:=fun r s'=>r=w/\EP X pins σ Q r s') pl.isList (by omega) (by rw [bg] <;> omega) (by omega) (by rw [hj]; simpa using ew) ⟨rfl,fin⟩) hs
theorem bC:IxR X (rIxT X.K):=by
  intro value slice pins s σ H x y v u Q I rx ry h hs
  obtain ⟨p,xs,i,z,rfl,rfl,hq,he,q⟩:=h
  cases rx
  obtain ⟨t,rfl⟩:=ry
  obtain ⟨its,r,pl,hz⟩:=I.tuple hq
  obtain ⟨j,h1,h2,h3,h4,h5⟩:=tM he
  obtain ⟨w,ew,rw'⟩:=r.get h2
  have hl:=r.length
  have hn:=oY
  have fin:EP X pins σ Q w s:=⟨z,H,I,rw',q⟩
  exact zC (x:=w) pl.typeIs slot_tuple_getitem.lookup
    (getItem_tuple (j:=j) (Q:=fun r s'=>r=w/\EP X pins σ Q r s') pl (by omega) (by omega) (by rw [bg,<- hl]; exact h1) (by simpa using ew) ⟨rfl,fin⟩) hs
theorem DA:IxR X rIxS:=by
  intro value slice pins s σ H x y v u Q I rx ry h hs
  obtain ⟨z,i,c,rfl,rfl,hz,he,q⟩:=h
  obtain ⟨t,rfl⟩:=rx
  obtain ⟨t',rfl⟩:=ry
  obtain ⟨j,h1,h2,h3,h4,h5⟩:=tM he
  have hl:z.cps.toList.length=z.length:=by simp [Str.length]
  rw [hl] at h1 h4 h5
  have hn:=oY
  exact tail_any (DG s z t) slot_str_getitem.lookup (getItem_str (c:=c) (by
    have e1:decide (i < -(2 ^ 63:Int))=false:=decide_eq_false (by omega)
    have e2:decide (i ≥ 2 ^ 63)=false:=decide_eq_false (by omega)
    rw [e1,e2,Bool.or_false]) (by rw [h1]; simpa using h2) ⟨.str ⟨#[c]⟩,H,I.tok _,⟨_,rfl⟩,q⟩) hs
theorem vU (its:List af) (n j:Nat) (u:af):o6 (·.setIfInBounds j u) {cls:=.type "list",data:=.seq its.toArray n}={cls:=.type "list",data:=.seq (its.set j u).toArray n}:=by
  simp [o6]
theorem Inv.lst {pins:List (ae×Obj)} {σ:St} {H:Hp} {s:ax} {p:ae} {xs:List V} (I:Inv X pins σ H s) (h:H p=some (.lst xs)) :
    ∃ (its:List af) (n:Nat),dQ xs its/\s.heap.get? p=some {cls:=.type "list",data:=.seq its.toArray n}/\xs.length<=aE:=by
  obtain ⟨z,its,n,r,e⟩:=I.hok p _ h
  exact ⟨its,n,r,e,z⟩
theorem Inv.lstUpd {pins:List (ae×Obj)} {σ:St} {H:Hp} {s:ax} {p:ae} {xs ys:List V} {its its':List af} {n n':Nat} {f:Obj->Obj} (I:Inv X pins σ H s) (h:H p=some (.lst xs))
    (ho:s.heap.get? p=some {cls:=.type "list",data:=.seq its.toArray n}) (hf:f {cls:=.type "list",data:=.seq its.toArray n}={cls:=.type "list",data:=.seq its'.toArray n'}) (r:dQ ys its') (hz:ys.length<=aE) (t:Nat) :
    Inv X pins σ (upd H p (.lst ys)) {s with heap:=s.heap.update p f,toks:=t}:=by
  have e:(s.heap.update p f).get? p=some {cls:=.type "list",data:=.seq its'.toArray n'}:=by
    rw [m6 f ho (by rw [hf] <;> rfl),hf]
  refine I.write (x:=p) (e:=p) (by rw [h]; trivial) (.inl rfl) (fun b u hb q=>(fb _ _ (eS hb)).trans q) ⟨_,e⟩ ?_
  exact ⟨hz,its',n',r,e⟩
def rSetL:V->V->V->Hp->(Hp->Prop)->Prop:=fun o i v H Q=>∃ p xs k j,o=.ref p/\i=.int k/\H p=some (.lst xs)/\ixN xs.length k=some j/\Q (upd H p (.lst (xs.set j v)))
theorem mP:PSet X rSetL:=by
  intro pins s σ H o i v ov iv u Q I ro ri rv h
  obtain ⟨p,xs,k,j,rfl,rfl,hp,hj,q⟩:=h
  cases ro
  obtain ⟨t,rfl⟩:=ri
  obtain ⟨its,n,r,ho,hz⟩:=I.lst hp
  obtain ⟨h1,h2,h3,h4⟩:=p5 hj
  have hl:=r.length
  have hn:=oY
  have I':Inv X pins σ (upd H p (.lst (xs.set j v))) {s with heap:=s.heap.update p (o6 (·.setIfInBounds j u))}:=
    I.lstUpd hp ho (vU its n j u) (r.set rv j) (by rw [Bm]; exact hz) s.toks
  by_cases h0:0<=k
  · have hk:k.toNat=j:=by
      rw [Bj h0 h4] at h1
      exact eW h1
    exact PySem.W.ki_setAt ho h0 (by omega) (by rw [bg,<- hl]; exact h4) (by rw [hk]; exact ⟨_,I',q⟩)
  · have hk:(k + (its.toArray.size:Int)).toNat=j:=by
      rw [zB (by omega) h3] at h1
      rw [bg,<- hl]
      exact eW h1
    exact PySem.W.ki_setBack ho (by omega) (by rw [bg,<- hl]; exact h3) (by omega) (by rw [hk]; exact ⟨_,I',q⟩)
theorem tN (lo hi:Option Int) (n:Nat):(kB lo hi none n).1=((HT.sIx n 0 lo:Nat):Int)/\(kB lo hi none n).2.1=((HT.sIx n n hi:Nat):Int)/\(kB lo hi none n).2.2=1:=by
  refine ⟨?_,?_,rfl⟩
  · cases lo with
    | none=>simp [kB,HT.sIx]
    | some i =>
      simp only [kB,HT.sIx,zb,show (1:Int) > 0 by decide,if_true]
      by_cases h:i < 0
      · simp only [h,if_true] <;> omega
      · simp only [h,if_false] <;> omega
  · cases hi with
    | none=>simp [kB,HT.sIx]
    | some i =>
      simp only [kB,HT.sIx,zb,show (1:Int) > 0 by decide,if_true]
      by_cases h:i < 0
      · simp only [h,if_true] <;> omega
      · simp only [h,if_false] <;> omega
theorem rL (its:List af) (lo hi:Option Int):slicePick its.toArray lo hi none=((its.drop (HT.sIx its.length 0 lo)).take (HT.sIx its.length its.length hi - HT.sIx its.length 0 lo)).toArray:=by
  obtain ⟨h1,h2,h3⟩:=tN lo hi its.toArray.size
  unfold slicePick
  rw [h1,h2,h3]
  simp only [sliceRange_one,pick_run,bg] <;> rfl
def rSlL (K:aj):V->Option Int->Option Int->Hp->VK->Prop:=fun x lo hi H Q=>∃ a xs,x=.ref a/\SqL K H a xs/\∀ p,H p=none->Q (.ref p) (upd H p (.lst (lL xs lo hi)))
theorem p6:SlR X (rSlL X.K):=by
  intro pins s σ H x v vl vu lo hi sl Q I rx hs pl pu h
  obtain ⟨a,xs,rfl,hx,q⟩:=h
  cases rx
  obtain ⟨its,r,ht,hz⟩:=I.list hx
  have hlen:=r.length
  refine ⟨"list",_,rK.lookup,ht.isList.typeIs,?_⟩
  refine yq ht.isList hs pl pu .none (by simp) ?_ (by rw [bg] <;> omega)
  rw [rL,<- hlen]
  refine ⟨.ref s.heap.objs.size,_,I.laid (t':=s.toks) (o:=.lst (lL xs lo hi)) (fun b ob q=>aU _ q) (aS _) ?_,rfl,q _ (I.hok.fresh (aS _))⟩
  exact ⟨cU (pK xs lo hi) hz,_,0,(r.drop (HT.sIx xs.length 0 lo)).take (HT.sIx xs.length xs.length hi - HT.sIx xs.length 0 lo),cQ _ rfl⟩
def oA:V->Bool
  | .non=>true
  | .bl _=>true
  | .int _=>true
  | .str _=>true
  | _=>false
def eqV:V->V->Bool
  | .non,.non=>true
  | .bl a,.bl b=>a == b
  | .bl a,.int b=>(if a then 1 else 0) == b
  | .int a,.bl b=>a == (if b then 1 else 0)
  | .int a,.int b=>a == b
  | .str a,.str b=>a == b
  | _,_=>false
theorem DH {A:cO} {s:ax} {y x:V} {u v:af} (ry:RelV y u) (rx:RelV x v) (fy:oA y=true) (fx:oA x=true):SeqAt.EqAt A s u v (eqV y x):=by
  cases y with
  | non =>
    cases ry
    cases x with
    | non=>cases rx; exact SeqAt.EqAt.same _
    | bl b=>cases rx; exact SeqAt.EqAt.none_bool b
    | int b=>obtain ⟨t,rfl⟩:=rx; exact SeqAt.EqAt.none_int b t
    | str b=>obtain ⟨t,rfl⟩:=rx; exact SeqAt.EqAt.none_str b t
    | _=>exact absurd (show false=true from fx) bU
  | bl a =>
    cases ry
    cases x with
    | non=>cases rx; exact SeqAt.EqAt.bool_none a
    | bl b=>cases rx; exact SeqAt.EqAt.bool_bool a b
    | int b=>obtain ⟨t,rfl⟩:=rx; exact SeqAt.EqAt.bool_int a b t
    | str b=>obtain ⟨t,rfl⟩:=rx; exact SeqAt.EqAt.bool_str a b t
    | _=>exact absurd (show false=true from fx) bU
  | int a =>
    obtain ⟨t',rfl⟩:=ry
    cases x with
    | non=>cases rx; exact SeqAt.EqAt.int_none a t'
    | bl b=>cases rx; exact SeqAt.EqAt.int_bool a t' b
    | int b=>obtain ⟨t,rfl⟩:=rx; exact SeqAt.EqAt.int_int a t' b t
    | str b=>obtain ⟨t,rfl⟩:=rx; exact uh a t' b t
    | _=>exact absurd (show false=true from fx) bU
  | str a =>
    obtain ⟨t',rfl⟩:=ry
    cases x with
    | non=>cases rx; exact SeqAt.EqAt.str_none a t'
    | bl b=>cases rx; exact SeqAt.EqAt.str_bool a t' b
    | int b=>obtain ⟨t,rfl⟩:=rx; exact uj a t' b t
    | str b=>obtain ⟨t,rfl⟩:=rx; exact SeqAt.EqAt.str_str a t' b t
    | _=>exact absurd (show false=true from fx) bU
  | _=>exact absurd (show false=true from fy) bU
def eqU (x:V) (u:af):Bool:=match u with
  | .none=>eqV .non x
  | .bool b=>eqV (.bl b) x
  | .int i _=>eqV (.int i) x
  | .str z _=>eqV (.str z) x
  | _=>false
theorem zD {x y:V} {u:af} (r:RelV y u) (f:oA y=true):eqU x u=eqV y x:=by
  cases y with
  | non=>cases r; rfl
  | bl b=>cases r; rfl
  | int i=>obtain ⟨t,rfl⟩:=r; rfl
  | str z=>obtain ⟨t,rfl⟩:=r; rfl
  | _=>exact absurd (show false=true from f) bU
theorem xh {x:V}:∀ {xs:List V} {us:List af},dQ xs us->xs.all oA=true->us.any (eqU x)=xs.any fun y=>eqV y x:=by
  intro xs us p
  induction p with
  | nil =>
    intro _
    rfl
  | cons r t ih =>
    intro f
    rw [uv,gf] at f
    rw [jT,jT,zD r f.1,ih f.2]
theorem qF {A:cO} {s:ax} {x:V} {v:af} (rx:RelV x v) (fx:oA x=true):∀ {xs:List V} {us:List af},dQ xs us->xs.all oA=true->∀ u∈us,SeqAt.EqAt A s u v (eqU x u)
  | _,_,.nil,_=>fun u hu=>by cases hu
  | y :: xs,u :: us,.cons r t,f=>fun u' hu=>by
    rw [uv,gf] at f
    rcases az.mp hu with rfl | hu
    · rw [zD r f.1]; exact DH r rx f.1 fx
    · exact qF rx fx t f.2 u' hu
def inV (x:V) (xs:List V):Bool:=xs.any fun y=>eqV y x
def rIn (K:aj) (neg:Bool):R2:=fun x y H Q=>∃ p xs,y=.ref p/\(SqL K H p xs\/SqT K H p xs)/\oA x=true/\xs.all oA=true/\Q (.bl (if neg then !inV x xs else inV x xs)) H
theorem sE:OpR X (fX .In) (rIn X.K false):=by
  intro pins s σ H x y v u Q I rx ry h
  obtain ⟨p,xs,rfl,hq,fx,fs,q⟩:=h
  cases ry
  rcases hq with hq | hq
  · obtain ⟨its,r,pl,hz⟩:=I.list hq
    refine SeqAt.in_listAt (eqU x) pl.isList (fun w hw=>qF rx fx r fs w (by simpa using hw)) ⟨.bl _,H,I,rfl,?_⟩
    rw [show its.toArray.any (eqU x)=its.any (eqU x) by simp,xh r fs]
    exact q
  · obtain ⟨its,r,pl,hz⟩:=I.tuple hq
    refine SeqAt.in_tupleAt (eqU x) pl (fun w hw=>qF rx fx r fs w (by simpa using hw)) ⟨.bl _,H,I,rfl,?_⟩
    rw [show its.toArray.any (eqU x)=its.any (eqU x) by simp,xh r fs]
    exact q
theorem gU:kJ X (.builtin "len") (fun xs H Q=>∃ p ys,xs=[.ref p]/\(SqL X.K H p ys\/SqT X.K H p ys)/\Q (.int ys.length) H):=by
  intro pins s σ H xs us Q I r h
  obtain ⟨p,ys,rfl,hq,q⟩:=h
  obtain ⟨u,rfl,rx⟩:=vals1 r
  cases rx
  have hn:=oY
  rcases hq with hq | hq
  · obtain ⟨its,r',pl,hz⟩:=I.list hq
    have hlen:=r'.length
    exact Calls.call_len_list pl.isList (by simp only [bg] <;> omega) ⟨.int ys.length,H,I.tok _,⟨s.toks + 1,by rw [bg,hlen]⟩,q⟩
  · obtain ⟨its,r',pl,hz⟩:=I.tuple hq
    have hlen:=r'.length
    exact len_tuple pl (by simp only [bg] <;> omega) ⟨.int ys.length,H,I.tok _,⟨s.toks + 1,by rw [bg,hlen]⟩,q⟩
theorem jl:kJ X (.type "list") (fun xs H Q=>∃ p ys,xs=[.ref p]/\(SqL X.K H p ys\/SqT X.K H p ys)/\∀ l,H l=none->Q (.ref l) (upd H l (.lst ys))):=by
  intro pins s σ H xs us Q I r h
  obtain ⟨p,ys,rfl,hq,q⟩:=h
  obtain ⟨u,rfl,rx⟩:=vals1 r
  cases rx
  have fin:∀ (its:List af),dQ ys its->ys.length<=aE->∀ (h':cR) (c':Nat),(∀ b o',s.heap.get? b=some o'->h'.get? b=some o') ->
      h'.get? s.heap.objs.size=some {cls:=.type "list",dict:=none,data:=.seq its.toArray c',slots:=#[]}->EP X pins σ Q (.ref s.heap.objs.size) {s with heap:=h'}:=fun its r' hz h' c' kp e =>
    ⟨.ref s.heap.objs.size,_,I.laid (t':=s.toks) kp (aS _) (show eP X.prog X.w _ h' _ (.lst ys) from ⟨hz,its,c',r',e⟩),rfl,q _ (I.hok.fresh (aS _))⟩
  rcases hq with hq | hq
  · obtain ⟨its,r',pl,hz⟩:=I.list hq
    have hlen:=r'.length
    obtain ⟨o,ho,hc,n,hd⟩:=pl.isList
    exact call_list_seq p (.inl rfl) ho hc hd (fun h' c' kp e=>fin its r' hz h' c' kp e) (by simp only [bg] <;> omega)
  · obtain ⟨its,r',pl,hz⟩:=I.tuple hq
    have hlen:=r'.length
    obtain ⟨o,ho,hc,n,hd⟩:=pl
    exact call_list_seq p (.inr rfl) ho hc hd (fun h' c' kp e=>fin its r' hz h' c' kp e) (by simp only [bg] <;> omega)
theorem rM:kJ X (.type "tuple") (fun xs H Q=>∃ p ys,xs=[.ref p]/\((SqL X.K H p ys/\∀ l,H l=none->Q (.ref l) (upd H l (.tup ys)))\/(SqT X.K H p ys/\Q (.ref p) H))):=by
  intro pins s σ H xs us Q I r h
  obtain ⟨p,ys,rfl,h⟩:=h
  obtain ⟨u,rfl,rx⟩:=vals1 r
  cases rx
  rcases h with ⟨hq,q⟩ | ⟨hq,q⟩
  · obtain ⟨its,r',pl,hz⟩:=I.list hq
    have hlen:=r'.length
    refine call_tuple_list pl.isList (fun h' kp=>?_) (by simp only [bg] <;> omega)
    have I1:Inv X pins σ H {s with heap:=h'}:=I.kept (t':=s.toks) kp
    have I2:Inv X pins σ (upd H h'.objs.size (.tup ys)) {s with heap:=h'.push {cls:=.type "tuple",data:=.seq its.toArray}}:=
      I1.laid (t':=s.toks) (fun b o e=>aU _ e) (aS _) (show eP X.prog X.w _ _ _ (.tup ys) from ⟨hz,its,r',IsTup.new _ _⟩)
    exact ⟨.ref h'.objs.size,_,I2,rfl,q _ (I1.hok.fresh (aS _))⟩
  · obtain ⟨its,r',pl,hz⟩:=I.tuple hq
    exact call_tuple_same pl ⟨.ref p,H,I,rfl,q⟩
def tyV (K:aj) (T:String) (x:V) (H:Hp):Prop:=match x with
  | .str _=>T="str"
  | .int _=>T="int"
  | .ref p=>(T="list"/\∃ xs,SqL K H p xs)\/(T="tuple"/\∃ o,K.lookup p=some o/\o.cls=.type "tuple"/\o.dict=none) \/
      (T="dict"/\((∃ kvs,H p=some (.dK kvs))\/∃ kvs,H p=some (.dT kvs)))\/(T="set"/\∃ S n,H p=some (.set S n))
  | _=>False
theorem zE {pins:List (ae×Obj)} {σ:St} {H:Hp} {s:ax} {T:String} {x:V} {v:af} (I:Inv X pins σ H s) (r:RelV x v) (ty:tyV X.K T x H) :
    s.TypeIs v T/\∀ a,v=.ref a->∃ ob,s.heap.get? a=some ob/\ob.dict=none:=by
  cases x with
  | str z =>
    obtain ⟨t,rfl⟩:=r
    cases (show T="str" from ty)
    exact ⟨DG s z t,fun _ e=>nomatch e⟩
  | int i =>
    obtain ⟨t,rfl⟩:=r
    cases (show T="int" from ty)
    exact ⟨typeIs_int s i t,fun _ e=>nomatch e⟩
  | ref p =>
    cases r
    rcases ty with ⟨rfl,xs,hq⟩ | ⟨rfl,o,hk,hc,hd⟩ | ⟨rfl,hk⟩ | ⟨rfl,S,n,hk⟩
    · obtain ⟨its,_,pl,_⟩:=I.list hq
      refine ⟨pl.isList.typeIs,fun a e=>?_⟩
      cases e
      obtain ⟨o,n,e,c,hd,_⟩:=pl
      exact ⟨o,e,hd⟩
    · refine ⟨⟨o,I.kIn p o hk,hc⟩,fun a e=>?_⟩
      cases e
      exact ⟨o,I.kIn _ o hk,hd⟩
    · have z:∃ o,s.heap.get? p=some o/\o.ExactDict:=by
        rcases hk with ⟨kvs,hk⟩ | ⟨kvs,hk⟩
        · obtain ⟨_,_,_,_,o,_,_,e,ex,_⟩:=I.hok p _ hk
          exact ⟨o,e,ex⟩
        · obtain ⟨_,_,_,_,o,_,_,e,ex,_⟩:=I.hok p _ hk
          exact ⟨o,e,ex⟩
      obtain ⟨o,e,ex⟩:=z
      refine ⟨⟨o,e,ex.1⟩,fun a e2=>?_⟩
      cases e2
      exact ⟨o,e,ex.2.1⟩
    · obtain ⟨o,_,_,_,e,ex,_⟩:=I.hok p _ hk
      refine ⟨⟨o,e,ex.1⟩,fun a e2=>?_⟩
      cases e2
      exact ⟨o,e,ex.2.1⟩
  | _=>exact dX ty
def tBM0 (K:aj) (T:String) (r:V->List V->Hp->VK->Prop) (to:TE):TE:=fun σ H Q=>to σ H fun x H1=>tyV K T x H1/\r x [] H1 Q
def tBM (K:aj) (T:String) (r:V->List V->Hp->VK->Prop) (to:TE) (t:TA):TE:=fun σ H Q=>to σ H fun x H1=>tyV K T x H1/\t σ H1 fun xs H2=>r x xs H2 Q
variable {o e:cZ} {es:List cZ} {to:TE} {t:TA} {name:Str} {apos cpos:Pos} {T id:String} {r:V->List V->Hp->VK->Prop}
theorem qG (pa:PlainAttrs T) (slot:Slot T name id) (hty:typeOf (.builtin id)=pure (.type "method_descriptor")) (hm:MtR X id r) (ho:PE X o to)
    (hbase:mK o name X.env (gj o X.env)=gj o X.env:=by rfl) (hline:(apos.endLine == cpos.line)=true:=by rfl):PE X (.Call (.Attribute o name apos) [] [] cpos) (tBM0 X.K T r to):=by
  intro pins s σ H Q I h
  refine zc hbase hline (thn (ho pins s σ H _ I h) fun v s1 ⟨x,H1,I1,r1,ty,q1⟩=>?_)
  obtain ⟨h1,h2⟩:=zE I1 r1 ty
  exact ⟨T,id,pa,slot,hty,h1,h2,me rfl (xi (hm pins s1 σ H1 x [] v [] Q I1 r1 .nil q1))⟩
theorem ia (pa:PlainAttrs T) (slot:Slot T name id) (hty:typeOf (.builtin id)=pure (.type "method_descriptor")) (hm:MtR X id r) (ho:PE X o to) (ha:PA X (e :: es) t)
    (hbase:mK o name X.env (gj o X.env)=gj o X.env:=by rfl)
    (hfew:((jP cpos (cW (e :: es) X.env)).all (fun x=>!x.1) && (Bg cpos (uo [] X.env)).all (fun x=>x.1.isSome)
      && decide ((e :: es).length + ([]:List E1).length + (if ([]:List E1).isEmpty then 0 else 1) < 30))=true:=by rfl)
    (hline:(apos.endLine == cpos.line)=true:=by rfl) (hs:cW (e :: es) X.env=(false,gj e X.env) :: cW es X.env:=by rfl) (hplain:(jP cpos (cW es X.env)).any (·.1)=false:=by rfl) :
    PE X (.Call (.Attribute o name apos) (e :: es) [] cpos) (tBM X.K T r to t):=by
  intro pins s σ H Q I h
  refine wpAny_Call_method_late hbase hfew hline rfl (thn (ho pins s σ H _ I h) fun v s1 ⟨x,H1,I1,r1,ty,q1⟩=>?_)
  obtain ⟨h1,h2⟩:=zE I1 r1 ty
  refine ⟨T,id,pa,slot,hty,h1,h2,?_⟩
  have hA:=ha cpos pins s1 σ H1 _ I1 q1
  rw [hs] at hA |-
  refine me (by show (false || (jP cpos (cW es X.env)).any (·.1))=false; rw [hplain] <;> rfl) (vV ?_)
  exact thn hA fun us s2 ⟨vs,H2,I2,r2,q2⟩=>hm pins s2 σ H2 x vs v us Q I2 r1 r2 q2
end
end L2
namespace L2
open PySem PySem.Spec PyProof.Rows
def MtM (X:Cx) (id:String) (r:V->List V->Hp->VK->Prop):Prop:=
  ∀ (pins:List (ae×Obj)) (s:ax) (σ:St) (H:Hp) (x:V) (xs:List V) (v:af) (us:List af) (Q:VK),Inv X pins σ H s->RelV x v->dQ xs us->r x xs H Q ->
    b8 (cm X.prog X.w) X.A (A9 (.builtin id) (v :: us)) (EP X pins σ Q) X.xe s
theorem dQ.one:∀ {x:V} {us:List af},dQ [x] us->∃ u,us=[u]/\RelV x u:=by
  intro x us h
  cases h with
  | cons r t =>
    cases t
    exact ⟨_,rfl,r⟩
theorem dQ.zero:∀ {us:List af},dQ [] us->us=[]
  | _,.nil=>rfl
theorem dQ.dropLast {xs:List V} {us:List af} (h:dQ xs us):dQ xs.dropLast us.dropLast:=by
  induction h with
  | nil=>exact .nil
  | cons r t ih =>
    cases t with
    | nil=>exact .nil
    | cons q t'=>exact .cons r ih
theorem dQ.eraseIdx:∀ {xs:List V} {us:List af} (i:Nat),dQ xs us->dQ (xs.eraseIdx i) (us.eraseIdx i)
  | _,_,_,.nil=>.nil
  | _,_,0,.cons _ t=>t
  | _,_,i + 1,.cons r t=>.cons r (dQ.eraseIdx i t)
theorem dQ.reverse {xs:List V} {us:List af} (h:dQ xs us):dQ xs.reverse us.reverse:=by
  induction h with
  | nil=>exact .nil
  | cons r t ih=>rw [jr,jr]; exact dQ.append ih (.cons r .nil)
theorem vW {α:Type} (l:List α):l.eraseIdx (l.length - 1)=l.dropLast:=by
  induction l with
  | nil=>rfl
  | cons a r ih =>
    cases r with
    | nil=>rfl
    | cons b r =>
      have e:(a :: b :: r).length - 1=((b :: r).length - 1) + 1:=rfl
      rw [e,List.eraseIdx_cons_succ,ih]
      all_goals rfl
theorem sF {α:Type}:∀ (l:List α) (i:Nat),(l.eraseIdx i).length<=l.length
  | [],_=>aS _
  | _ :: _,0=>lI _
  | _ :: r,i + 1=>Nat.succ_le_succ (sF r i)
section
variable {X:Cx} {pins:List (ae×Obj)} {σ:St} {H:Hp} {s:ax} {l b:ae} {xs ys zs:List V}
theorem Inv.lset {its its':List af} {n:Nat} {f:Array af->Array af} {t':Nat} (I:Inv X pins σ H s) (hH:H l=some (.lst xs))
    (e:s.heap.get? l=some {cls:=.type "list",data:=.seq its.toArray n}) (hf:f its.toArray=its'.toArray) (hv:dQ ys its') (hz:ys.length<=aE) :
    Inv X pins σ (upd H l (.lst ys)) {s with heap:=s.heap.update l (o6 f),toks:=t'}:=by
  have q:=PySem.IsL.update e f
  rw [hf] at q
  refine I.write (x:=l) (e:=l) (by rw [hH]; exact trivial) (.inl rfl) (fun b' u hb hu=>(fb s.heap (o6 f) (eS hb)).trans hu) ⟨_,q⟩ ?_
  exact ⟨hz,its',_,hv,q⟩
theorem Inv.lnew {its:List af} {t':Nat} (I:Inv X pins σ H s) (hv:dQ ys its) (hz:ys.length<=aE) :
    Inv X pins σ (upd H s.heap.objs.size (.lst ys)) {s with heap:=s.heap.push {cls:=.type "list",data:=.seq its.toArray},toks:=t'}:=
  I.laid (fun _ _ q=>aU _ q) (aS _) ⟨hz,its,0,hv,cQ _ rfl⟩
theorem Inv.fresh (I:Inv X pins σ H s):H s.heap.objs.size=none:=I.hok.fresh (aS _)
theorem Inv.lstM (I:Inv X pins σ H s) (hH:H l=some (.lst xs)):xs.length<=aE/\∃ (its:List af) (n:Nat),dQ xs its/\xs.length=its.length/\s.heap.get? l=some {cls:=.type "list",data:=.seq its.toArray n}:=by
  obtain ⟨z,its,n,r,e⟩:=I.hok l _ hH
  exact ⟨z,its,n,r,r.length,e⟩
theorem notLongL {n:Nat} (h:n<=aE):pL n=false:=by
  unfold pL
  exact decide_eq_false (by omega)
end
section
variable {X:Cx}
def Bn:V->List V->Hp->VK->Prop:=fun x vs H Q=>∃ l xs y,x=.ref l/\vs=[y]/\H l=some (.lst xs)/\xs.length < aE/\Q .non (upd H l (.lst (xs++[y])))
theorem dR:MtM X "list.append" Bn:=by
  intro pins s σ H x vs v us Q I rx rv h
  obtain ⟨l,xs,y,rfl,rfl,hH,hz,q⟩:=h
  cases rx
  obtain ⟨u,rfl,ru⟩:=rv.one
  obtain ⟨z,its,n,r,hl,e⟩:=I.lstM hH
  refine vX F.slot_list_append ⟨_,e,rfl⟩ F.entry_list_append (F.args_list_append_2 _ _) (PySem.list_append l its.toArray n u (by rw [bg]; omega)) ⟨e,?_⟩
  refine ⟨.non,_,I.lset (its':=its++[u]) hH e (by simp) (r.append (.cons ru .nil)) ?_,rfl,q⟩
  rw [ay,vY]
  omega
def rExtend:V->List V->Hp->VK->Prop:=fun x vs H Q=>∃ l b xs zs,x=.ref l/\vs=[.ref b]/\H l=some (.lst xs)/\H b=some (.lst zs)/\xs.length + zs.length<=aE/\Q .non (upd H l (.lst (xs++zs)))
def rPop:V->List V->Hp->VK->Prop:=fun x vs H Q=>∃ l xs y,x=.ref l/\vs=[]/\H l=some (.lst xs)/\xs[xs.length - 1]?=some y/\Q y (upd H l (.lst xs.dropLast))
theorem DI:MtM X "list.pop" rPop:=by
  intro pins s σ H x vs v us Q I rx rv h
  obtain ⟨l,xs,y,rfl,rfl,hH,hy,q⟩:=h
  cases rx
  have hus:=rv.zero
  subst hus
  obtain ⟨z,its,n,r,hl,e⟩:=I.lstM hH
  obtain ⟨u,hu,ru⟩:=r.get hy
  have hy':its.toArray[its.toArray.size - 1]?=some u:=by
    show its.toArray[its.length - 1]?=some u
    rw [<- vE,<- hl]
    exact hu
  refine vX F.slot_list_pop ⟨_,e,rfl⟩ F.entry_list_pop (F.args_list_pop_1 _) (MeetsSeq.list_pop_last l its.toArray n u hy' (by rw [bg]; omega)) ⟨e,?_⟩
  refine ⟨y,_,I.lset (its':=its.dropLast) hH e ?_ r.dropLast ?_,ru,q⟩
  · show its.toArray.eraseIdxIfInBounds (its.toArray.size - 1)=its.dropLast.toArray
    rw [bg,pT,vW]
  · rw [List.length_dropLast]
    omega
def DJ:V->List V->Hp->VK->Prop:=fun x vs H Q=>∃ l xs i k y,x=.ref l/\vs=[.int i]/\H l=some (.lst xs)/\-(2 ^ 63)<=i/\i < 2 ^ 63/\seqIndex? i xs.length=some k/\xs[k]?=some y/\Q y (upd H l (.lst (xs.eraseIdx k)))
theorem uG:MtM X "list.pop" DJ:=by
  intro pins s σ H x vs v us Q I rx rv h
  obtain ⟨l,xs,i,k,y,rfl,rfl,hH,h1,h2,hk,hy,q⟩:=h
  cases rx
  obtain ⟨u,rfl,ru⟩:=rv.one
  obtain ⟨t,rfl⟩:=ru
  obtain ⟨z,its,n,r,hl,e⟩:=I.lstM hH
  obtain ⟨w,hw,rw'⟩:=r.get hy
  refine vX F.slot_list_pop ⟨_,e,rfl⟩ F.entry_list_pop (F.args_list_pop_2 _ _)
    (MeetsSeq.list_pop_at l its.toArray n i t k w (fitsIndex_both h1 h2) (by rw [bg,<- hl]; exact hk) (by rw [<- vE]; exact hw) (by rw [bg]; omega)) ⟨e,?_⟩
  refine ⟨y,_,I.lset (its':=its.eraseIdx k) hH e ?_ (r.eraseIdx k) ?_,rw',q⟩
  · show its.toArray.eraseIdxIfInBounds k=(its.eraseIdx k).toArray
    rw [pT]
  · have:=sF xs k
    omega
def rCat:R2:=fun x y H Q=>∃ l b xs zs,x=.ref l/\y=.ref b/\H l=some (.lst xs)/\H b=some (.lst zs)/\xs.length + zs.length<=aE/\∀ p,H p=none->Q (.ref p) (upd H p (.lst (xs++zs)))
theorem vZ:OpR X (iA .Add) rCat:=by
  intro pins s σ H x y v u Q I rx ry h
  obtain ⟨l,b,xs,zs,rfl,rfl,hH,hB,hz,q⟩:=h
  cases rx
  cases ry
  obtain ⟨z,its,n,r,hl,e⟩:=I.lstM hH
  obtain ⟨z2,its2,n2,r2,hl2,e2⟩:=I.lstM hB
  refine PySem.P.add_list e e2 ?_ (by rw [bg,bg]; omega)
  have ea:its.toArray++its2.toArray=(its++its2).toArray:=by simp
  rw [ea]
  exact ⟨.ref _,_,I.lnew (t':=s.toks) (r.append r2) (by rw [ay]; omega),rfl,q _ I.fresh⟩
end
section
variable {prog:aX} {w:cz} {A:cO} {E:af->ax->Prop} {s:ax}
end
section
variable {X:Cx}
end
end L2
namespace Att
open PySem PySem.W PySem.Calls PyProof.Rows
theorem ints_of_wellAll {P:Params} {h:cR}:∀ (ns:List Int) (vs:List af),WellAll P h vs (ns.map WData.int)->zF vs ns:=by
  intro ns
  induction ns with
  | nil =>
    intro vs w
    rw [vF] at w
    cases w
    exact .nil
  | cons n ns ih =>
    intro vs w
    rw [dN] at w
    cases w with
    | cons a b =>
      cases a
      exact .cons _ _ (ih _ b)
theorem script_of {l:OpenLaw} {n:Nat} (hn:l.most=some n) {P:Params} {h:cR} {args:List WData} {vals:List af}
    (hpre:l.row.toRowW.claim.pre args=true) (hwl:WellAll P h vals args) :
    ∃ a vs ns,vals=[Value.ref a]/\args=[WData.list (ns.map WData.int)]/\h.get? a=some {cls:=.type "list",data:=.seq vs.toArray}/\zF vs ns/\ns.length<=n:=by
  have hsh:WShape.hasAll [] args [.list .int]=true:=(pre_splitW hpre).1
  have hc:l.pre.holds [] {args:=args}=true:=(pre_splitW hpre).2
  obtain ⟨d,r,rfl,h1,h2⟩:=hasAllW_cons hsh
  obtain rfl:=hasAllW_nil h2
  obtain ⟨xs,rfl,h3⟩:=hasW_list h1
  obtain ⟨ns,rfl⟩:=items_int h3
  have hlen:ns.length<=n:=by
    unfold OpenLaw.pre at hc
    have h4:(WTm.not (.lt (.lit (.int (n:Int))) (.len (.arg 0)))).holds [] {args:=[.list (ns.map .int)]}=true:=by
      have h4:=(holds_andW hc).1
      rw [hn] at h4
      exact h4
    have h5:=condW_of h4 (w_not (w_lt w_lit (w_len_list (w_arg rfl))))
    rw [ai] at h5
    refine Nat.le_of_not_lt fun q=>?_
    have q':(n:Int) < ((ns.length:Nat):Int):=by omega
    first
      | (rw [decide_eq_true q'] at h5; exact absurd h5 (by decide))
      | (simp at h5; omega)
  cases hwl with
  | cons w1 w2 =>
    cases w2
    cases w1 with
    | list ho hall=>exact ⟨_,_,ns,rfl,rfl,ho,ints_of_wellAll ns _ hall,hlen⟩
theorem post_true (l:OpenLaw) (args:List WData):l.row.toRowW.claim.post args (.bool true) args=true:=
  postW_of (r:=l.row.toRowW) (X:=(true == true))
    (show E2 [] (.bool true) .bool=true by first | rfl | decide | simp [E2,WShape.arms,WShape.armsAll])
    (show (WTm.eq .res (.lit (.bool true))).value [] {args:=args,res:=some (.bool true),after:=args}=some (.bool (true == true)) from w_eq_bool (w_res rfl) w_lit) rfl
section
variable {prog:aX} {w:cz} {A:cO} {E:af->ax->Prop} {s:ax} {K:Frag}
end
end Att
namespace L2
open PySem PySem.Spec PyProof.Rows
theorem sI:∀ {vs:List af} {ns:List Int},zF vs ns->dQ (ns.map V.int) vs
  | _,_,.nil=>.nil
  | _,_,.cons n t h=>.cons ⟨t,rfl⟩ (sI h)
def Only (H:Hp):Prop:=∀ b,H b=none\/∃ o xs,H b=some (.frz o (.lst xs))
theorem zG {P:aX} {w:cz} {K:aj} {mg mb:Str->Option af} {CX:CXT} {k:Nat} {fa a:ae} {fd:cH} {x:Str} {sp:Sp} {s₁:ax} {vs:List af} {ns:List Int}
    (KX:K.In s₁.heap) (hns:s₁.heap.Ns aH mg) (hb:s₁.heap.Ns De mb) (hbb:∀ x:Str,x≠"__name__"->mb x=eI x) (hlim:s₁.heap.NoLimit) (hg:s₁.gens=#[])
    (ha:s₁.heap.get? a=some {cls:=.type "list",data:=.seq vs.toArray}) (hi:zF vs ns) (hl:ns.length<=aE) (hr:eN k rN)
    (F:∀ base:cR,K.In base->base.Ns aH mg->bZ P w K mg base CX k fa fd [x] sp) (hbind:∀ (s:ax) (u:af),vB s fd ⟨[u],[]⟩ [(x,u)])
    (hsp:∀ H:Hp,Only H->SqL K H a (ns.map V.int)->sp [.ref a] H (fun v _=>v=.bl true) fun _ _ _=>False)
    (hCX:∀ H e s',CX [] H s₁ (fun _ _ _=>False) e s'->False) :
    nX (cm P w) rN (.call (.ref fa) ⟨[.ref a],[]⟩) (fun r s'=>r=.ok (.ret (.bool true))/\OldK s₁.heap s'.heap/\s'.os=s₁.os/\mn s'.gens) s₁:=by
  have rv:=sI hi
  have lenV:=hi.length
  -- from an abstract heap in which nothing but the script may be tracked
  have core:∀ H:Hp,Only H->SqL K H a (ns.map V.int)->HOk P w H s₁.heap->(∀ b,H b≠none->b=a)->(H a≠none->K.lookup a=none) ->
      nX (cm P w) rN (.call (.ref fa) ⟨[.ref a],[]⟩) (fun r s'=>r=.ok (.ret (.bool true))/\OldK s₁.heap s'.heap/\s'.os=s₁.os/\mn s'.gens) s₁:=by
    intro H hO hS hok hA hK
    have base_of:∀ {b:ae} {o:Obj},s₁.heap.get? b=some o->H b=none->(tu s₁.heap H).get? b=some o:=fun e n=>zh e n
    have noA:∀ {b:ae} {o:Obj} {es:Array DictEntry} {ep:Nat},s₁.heap.get? b=some o->o.data=.dict es ep->H b=none:=fun {b o es ep} e d=>by
      cases q:H b with
      | none=>rfl
      | some u =>
        have e':b=a:=hA b (by rw [q]; simp)
        subst e'
        rw [ha] at e; cases e
        have d':Data.seq vs.toArray _=Data.dict es ep:=d
        cases d'
    have nsK:∀ {b:ae} {m:Str->Option af},s₁.heap.Ns b m->(tu s₁.heap H).Ns b m:=fun {b m} ⟨o,es,ep,e,d,r⟩=>⟨o,es,ep,base_of e (noA e d),d,r⟩
    have hKb:K.In (tu s₁.heap H):=fun b o e=>base_of (KX b o e) (by
      cases q:H b with
      | none=>rfl
      | some u =>
        have e':b=a:=hA b (by rw [q]; simp)
        subst e'
        rw [hK (by rw [q]; simp)] at e; cases e)
    have hM:Mod K mg (tu s₁.heap H):=⟨hKb,nsK hns,⟨mb,nsK hb,hbb⟩,let ⟨mc,h1,h2⟩:=hlim; ⟨mc,nsK h1,h2⟩⟩
    have e0:vS P w K mg (tu s₁.heap H) rN [] s₁ H:=⟨rfl,hM,fun b o e=>A6 e,Nat.le_of_eq (yf _ _),trivial,fun b hb=>absurd (show b∈([]:List ae) from hb) (by simp),hok,.of_eq hg⟩
    refine nY ((F _ hKb (nsK hns)).run rN [] s₁ H ⟨[.ref a],[]⟩ [.ref a] [.ref a] _ _ hr e0 (hbind s₁ (.ref a)) (.cons rfl .nil) (hsp H hO hS)) fun r s' h=>?_
    cases r with
    | error e=>exact (hCX H e s' h).elim
    | ok fl =>
      cases fl with
      | next=>exact dX h
      | brk=>exact dX h
      | cont=>exact dX h
      | ret u =>
        obtain ⟨v,H',os,bare,un,hok',r',q⟩:=h
        have q':v=.bl true:=q
        subst q'
        obtain rfl:u=Value.bool true:=r'
        refine ⟨rfl,OldK.of_keep fun b o e=>?_,os,bare⟩
        cases q:H b with
        | none=>exact un.keep b o e q (by intro z; exact absurd (show b∈([]:List ae) from z) (by simp)) (by simp)
        | some u =>
          rcases hO b with z | ⟨ob,xs,z⟩
          · rw [q] at z; cases z
          · have z2:=un.frzs b ob _ z
            obtain ⟨e1,_⟩:=hok b _ z
            obtain ⟨e2,_⟩:=hok' b _ z2
            rw [e] at e1; cases e1
            exact e2
  cases hk:K.lookup a with
  | some o =>
    -- the script is one of the module's own objects
    have e:=KX a o hk
    rw [ha] at e
    cases e
    refine core (fun _=>none) (fun _=>.inl rfl) (.inr ⟨_,vs.toArray,_,hk,rfl,rfl,rfl,by rw [bg,lenV]; exact hl,by simpa using rv⟩) (fun b u z=>by have z':(none:Option HO)=some u:=z; cases z') (fun b z=>absurd rfl z) fun z=>absurd rfl z
  | none =>
    refine core (fun b=>if b=a then some (.frz {cls:=.type "list",data:=.seq vs.toArray} (.lst (ns.map V.int))) else none) (fun b=>?_) (.inl (.inr ⟨{cls:=.type "list",data:=.seq vs.toArray},if_pos rfl⟩)) (fun b u z=>?_) (fun b z=>?_) fun _=>hk
    · by_cases hb:b=a
      · exact .inr ⟨_,_,if_pos hb⟩
      · exact .inl (if_neg hb)
    · by_cases hb:b=a
      · have z':=(if_pos hb).symm.trans z
        cases z'
        subst hb
        exact ⟨ha,by rw [ai]; exact hl,vs,_,rv,ha⟩
      · have z':=(if_neg hb).symm.trans z
        cases z'
    · by_cases hb:b=a
      · exact hb
      · exact absurd (if_neg hb) z
end L2
namespace L2
open PySem PySem.Spec PyProof.Rows
end L2
namespace L2
open PySem PySem.Spec PyProof.Rows
def ib (s:dU) (j:Nat):dU:=match s with
  | .ClassDef _ _ _ body _ _ _ _ _ _ _=>body.getD j (.Pass ⟨0,0,0,0⟩)
  | _=>.Pass ⟨0,0,0,0⟩
def cB (s:dU):Arguments:=match s with
  | .FunctionDef _ a _ _ _ _ _ _ _ _=>a
  | _=>{posonlyargs:=[],args:=[],vararg:=none,kwonlyargs:=[],kw_defaults:=[],kwarg:=none,defaults:=[]}
def cq (s:dU):List dU:=match s with
  | .FunctionDef _ _ b _ _ _ _ _ _ _=>b
  | _=>[]
def aB (s:dU):lA:=match s with
  | .FunctionDef _ _ _ _ _ _ sc _ _ _=>sc
  | _=>{kind:=.function,names:=[],isGenerator:=false,isCoroutine:=false}
abbrev CX0:CXT:=fun _ _ _ _ _ _=>False
abbrev E0:XK:=fun _ _ _=>False
theorem bR {X:Cx}:lK CX0 X E0:=fun _ _ _ _ _ _ _ h=>h.elim
structure Fun (K:aj) (x qual:Str) (st:dU) (f:ae) (fd:cH):Prop where
  ex:∃ (oc:af) (od:Option ae) (kV doc pm:af) (an:Option ae) (cdv ct:af) (osl:Array (Option af)),
    fd=aK x qual (cB st) (cq st) (aB st) .none kV doc pm an cdv ct/\K.lookup f=some ⟨oc,od,.func fd,osl⟩/\aG K cdv qual=true
  kp:aC K (.ref f)=true
section
variable {P:aX} {w:cz} {K:aj} {mg:Str->Option af} {base:cR}
theorem Fun.ok {x qual:Str} {st:dU} {f:ae} {fd:cH} {N ps:List Str} {k:Nat} {sp:Sp} (F:Fun K x qual st f fd) (S:cD N ps (aB st)) (len:∀ vs H Q E,sp vs H Q E->vs.length=ps.length)
    (hbody:∀ (cdv:af) (A:cO) (outer:List Env) (s:ax) (H:Hp) (vs:List V) (Q:VK) (E:XK),eN k (A.deeper (o5 qual (aB st) s.heap.objs.size f cdv))->sp vs H Q E ->
      ∃ t,PSs (uE CX0 P w K mg base N qual (aB st) f cdv A outer s H E).nox (cq st) t/\t {nx:=fun _ H'=>Q .non H',rt:=Q} (start N vs) H):bZ P w K mg base CX0 (k + 1) f fd ps sp:=by
  obtain ⟨oc,od,kV,doc,pm,an,cdv,ct,osl,rfl,lk,hcd⟩:=F.ex
  refine Cw lk hcd S len fun A outer s H vs Q E hr hsp=>?_
  obtain ⟨t,h,q⟩:=hbody cdv A outer s H vs Q E hr hsp
  exact ⟨t,h.nox,q⟩
theorem Fun.binds {x qual:Str} {st:dU} {f:ae} {fd:cH} {ps:List Str} (F:Fun K x qual st f fd)
    (h:∀ (kV doc pm:af) (an:Option ae) (cdv ct:af) (us:List af),us.length=ps.length->bindArgs (aK x qual (cB st) (cq st) (aB st) .none kV doc pm an cdv ct) ⟨us,[]⟩=pure (ps.zip us)):Binds K fd ps []:=by
  obtain ⟨oc,od,kV,doc,pm,an,cdv,ct,osl,rfl,lk,hcd⟩:=F.ex
  exact .all (h kV doc pm an cdv ct)
theorem iH {x qual:Str} {st:dU} {f:ae} {oc:af} {od an:Option ae} {osl:Array (Option af)} {kV doc pm cdv ct:af} (l:K.lookup f=some ⟨oc,od,.func (aK x qual (cB st) (cq st) (aB st) .none kV doc pm an cdv ct),osl⟩)
    (c:aG K cdv qual=true) (k:aC K (.ref f)=true):Fun K x qual st f (aK x qual (cB st) (cq st) (aB st) .none kV doc pm an cdv ct):=⟨⟨oc,od,kV,doc,pm,an,cdv,ct,osl,rfl,l,c⟩,k⟩
end
theorem jZ {A:cO} {k:Nat} (hr:eN k A):A.units + 1 < gp:=jm (iO (by decide:1<=64) _) hr.units
section
variable {X:Cx}
theorem pv (i:Nat) {x:Str} {pos:Pos} (hN:X.N[i]?=some x:=by rfl) (hv:Vis X.env.scope x:=by first | exact Or.inl rfl | exact Or.inr (Or.inl rfl) | exact Or.inr (Or.inr rfl)) (hd:(x == ("__debug__":Str))=false:=by decide)
    (hcd:(x == ("__classdict__":Str))=false:=by decide):PE X (.Name x pos) (qm i):=Dh hN hv hd hcd
end
theorem dY {A B:Prop} (h:B):if false=true then A else B:=by
  rw [if_neg bU]
  exact h
theorem eC {A B:Prop} (h:A):if true=true then A else B:=by
  rw [if_pos rfl]
  exact h
theorem gH {c A B:Prop} [Decidable c] (h1:c->A) (h2:¬ c->B):if c then A else B:=by
  by_cases h:c
  · rw [if_pos h]
    exact h1 h
  · rw [if_neg h]
    exact h2 h
def cF (H H':Hp):Prop:=∀ b o,H b=some o->H' b=some o
theorem cF.refl (H:Hp):cF H H:=fun _ _ h=>h
theorem cF.trans {H H1 H2:Hp} (a:cF H H1) (b:cF H1 H2):cF H H2:=fun c o h=>b c o (a c o h)
theorem cF.free {H H':Hp} (e:cF H H') {l:ae} (h:H' l=Option.none):H l=Option.none:=by
  cases q:H l with
  | none=>rfl
  | some o =>
    rw [e l o q] at h
    cases h
end L2
namespace L2
open PySem PySem.Spec PyProof.Rows
section
variable {κ:Type} [DecidableEq κ]
def kX (kvs:List (κ×V)) (k:κ):Option V:=(kvs.find? fun kv=>decide (kv.1=k)).map (·.2)
def jt (kvs:List (κ×V)) (k:κ) (v:V):List (κ×V):=
  if (kvs.any fun kv=>decide (kv.1=k))=true then kvs.map (fun kv=>if kv.1=k then (kv.1,v) else kv) else kvs++[(k,v)]
theorem mQ {p:κ×V} {r:List (κ×V)} {k:κ} (e:p.1=k):kX (p :: r) k=some p.2:=by simp [kX,jg,e]
theorem mR {p:κ×V} {r:List (κ×V)} {k:κ} (e:¬ p.1=k):kX (p :: r) k=kX r k:=by simp [kX,jg,e]
theorem lC (k:κ):∀ kvs:List (κ×V),(kvs.any fun kv=>decide (kv.1=k))=(kX kvs k).isSome
  | []=>rfl
  | p :: r=>by
    rw [jT]
    by_cases e:p.1=k
    · simp only [mQ e,decide_eq_true e,Bool.true_or,Option.isSome_some]
    · rw [mR e,decide_eq_false e,Bool.false_or]; exact lC k r
theorem mT (kvs:List (κ×V)) (k:κ) (v:V):(jt kvs k v).length<=kvs.length + 1:=by
  unfold jt
  split
  · rw [ai]; omega
  · rw [ay,bX,jh]; omega
theorem ny.isSome_eq {o:Option V} {u:Option af} (r:ny o u):o.isSome=u.isSome:=by
  cases o with
  | none=>cases u with
    | none=>rfl
    | some _=>exact (show False from r).elim
  | some _=>cases u with
    | none=>exact (show False from r).elim
    | some _=>rfl
theorem KV.val {kvs:List (κ×V)} {vs:List (κ×af)} (r:KV kvs vs) (k:κ):ny (kX kvs k) (kz vs k):=by
  unfold KV at r
  induction r with
  | nil=>exact True.intro
  | @cons p q ps qs h t ih =>
    obtain ⟨h1,h2⟩:=h
    by_cases e:p.1=k
    · have e':q.1=k:=h1.symm.trans e
      have b:kz (q :: qs) k=some q.2:=by simp [kz,jg,e']
      rw [mQ e,b]; exact h2
    · have e':¬ q.1=k:=fun z=>e (h1.trans z)
      have b:kz (q :: qs) k=kz qs k:=by simp [kz,jg,e']
      rw [mR e,b]; exact ih
theorem KV.any {kvs:List (κ×V)} {vs:List (κ×af)} (r:KV kvs vs) (k:κ):(kvs.any fun kv=>decide (kv.1=k))=vs.any fun kv=>decide (kv.1=k):=by
  unfold KV at r
  induction r with
  | nil=>rfl
  | cons h t ih=>rw [jT,jT,ih,h.1]
theorem KV.repl {kvs:List (κ×V)} {vs:List (κ×af)} (r:KV kvs vs) (k:κ) {y:V} {u:af} (ry:RelV y u) :
    KV (kvs.map fun kv=>if kv.1=k then (kv.1,y) else kv) (vs.map fun kv=>if kv.1=k then (kv.1,u) else kv):=by
  unfold KV at r |-
  induction r with
  | nil=>exact .nil
  | @cons p q ps qs h t ih =>
    rw [dN,dN]
    refine .cons ?_ ih
    obtain ⟨h1,h2⟩:=h
    by_cases e:p.1=k
    · rw [if_pos e,if_pos (h1.symm.trans e)]; exact ⟨h1,ry⟩
    · rw [if_neg e,if_neg (fun z=>e (h1.trans z))]; exact ⟨h1,h2⟩
theorem KV.put {kvs:List (κ×V)} {vs:List (κ×af)} (r:KV kvs vs) (k:κ) {y:V} {u:af} (ry:RelV y u):KV (jt kvs k y) (stored vs k u):=by
  unfold jt stored
  rw [r.any k]
  by_cases e:(vs.any fun kv=>decide (kv.1=k))=true
  · rw [if_pos e,if_pos e]; exact r.repl k ry
  · rw [if_neg e,if_neg e]; exact dB r ⟨rfl,ry⟩
theorem KV.length {kvs:List (κ×V)} {vs:List (κ×af)} (r:KV kvs vs):kvs.length=vs.length:=bL r
end
theorem uH {P:aX} {w:cz} {k:Key} {u:af} (r:RelV (kV k) u):(fg P w).is k u=true:=by
  cases k with
  | inl i=>obtain ⟨t,e⟩:=(show ∃ t,u=Value.int i t from r); subst e; exact uy P w i t
  | inr x=>obtain ⟨t,e⟩:=(show ∃ t,u=Value.str x t from r); subst e; exact uz P w x t
theorem sJ {P:aX} {w:cz}:∀ {ks:List Key} {us:List af},dQ (ks.map kV) us->ItemsAre (fg P w) ks us
  | [],_,r=>by rw [vF] at r; cases r; exact .nil
  | k :: ks,_,r=>by
    rw [dN] at r
    cases r with
    | cons h t=>exact .cons (uH h) (sJ t)
abbrev KT (H:Hp):List (List Key×V)->List (List Key×ae×af)->Prop:=bJ fun p q=>p.1=q.1/\H q.2.1=some (.tup (p.1.map kV))/\RelV p.2 q.2.2
theorem KT.val {H:Hp} {kvs:List (List Key×V)} {xs:List (List Key×ae×af)} (r:KT H kvs xs) (k:List Key):ny (kX kvs k) ((wc xs k).map (·.2)):=by
  induction r with
  | nil=>exact True.intro
  | @cons p q ps qs h t ih =>
    obtain ⟨h1,_,h2⟩:=h
    by_cases e:p.1=k
    · have e':q.1=k:=h1.symm.trans e
      have b:wc (q :: qs) k=some q.2:=by simp [wc,jg,e']
      rw [mQ e,b]; exact h2
    · have e':¬ q.1=k:=fun z=>e (h1.trans z)
      have b:wc (q :: qs) k=wc qs k:=by simp [wc,jg,e']
      rw [mR e,b]; exact ih
theorem KT.repl {H:Hp} {kvs:List (List Key×V)} {xs:List (List Key×ae×af)} (r:KT H kvs xs) (k:List Key) {y:V} {u:af} (ry:RelV y u) :
    KT H (kvs.map fun kv=>if kv.1=k then (kv.1,y) else kv) (xs.map (putAt k u)):=by
  induction r with
  | nil=>exact .nil
  | @cons p q ps qs h t ih =>
    rw [dN,dN]
    refine .cons ?_ ih
    obtain ⟨h1,h2,h3⟩:=h
    unfold putAt
    by_cases e:p.1=k
    · rw [if_pos e,if_pos (h1.symm.trans e)]; exact ⟨h1,h2,ry⟩
    · rw [if_neg e,if_neg (fun z=>e (h1.trans z))]; exact ⟨h1,h2,h3⟩
theorem KT.put {H:Hp} {kvs:List (List Key×V)} {xs:List (List Key×ae×af)} (r:KT H kvs xs) (k:List Key) {b:ae} {y:V} {u:af} (hb:H b=some (.tup (k.map kV))) (ry:RelV y u) :
    KT H (jt kvs k y) (storedH xs k b u):=by
  have e:(kvs.any fun kv=>decide (kv.1=k))=(wc xs k).isSome:=by
    rw [lC,(r.val k).isSome_eq,oP]
  unfold jt storedH
  rw [e]
  by_cases q:(wc xs k).isSome=true
  · rw [if_pos q,if_pos q]; exact r.repl k ry
  · rw [if_neg q,if_neg q]; exact dB r ⟨rfl,hb,ry⟩
theorem KT.keeps {H H':Hp} {kvs:List (List Key×V)} {xs:List (List Key×ae×af)} (r:KT H kvs xs) (ht:∀ b ys,H b=some (.tup ys)->H' b=some (.tup ys)):KT H' kvs xs:=
  Paired.mapP r fun _ _ z=>⟨z.1,ht _ _ z.2.1,z.2.2⟩
section
variable {P:aX} {w:cz} {H:Hp} {h:cR} {a:ae}
theorem Cy {u:HO} (ok:HOk P w H h) (e:Rd H a u):eP P w H h a u:=e.ok ok
theorem xj {kvs:List (Key×V)} (ok:HOk P w H h) (e:Rd H a (.dK kvs)):kvs.length<=aE/\(a == eB)=false/\∃ vs,KV kvs vs/\h.DictOf (fg P w) a vs:=
  show eP P w H h a (.dK kvs) from Cy ok e
theorem zH {kvs:List (Key×V)} (ok:HOk P w H h) (e:H a=some (.dK kvs)):kvs.length<=aE/\(a == eB)=false/\∃ vs,KV kvs vs/\h.DictOf (fg P w) a vs:=xj ok (.inl e)
theorem tO {ks:List Key} (ok:HOk P w H h) (e:H a=some (.tup (ks.map kV))):(tj (fg P w)).is h ks a:=by
  obtain ⟨_,its,r,o,h1,h2,n,h3⟩:=(show eP P w H h a (.tup (ks.map kV)) from ok a _ e)
  exact ⟨o,its.toArray,n,h1,h2,h3,by simpa using sJ r⟩
theorem xk {kvs:List (List Key×V)} (ok:HOk P w H h) (e:Rd H a (.dT kvs)):kvs.length<=aE/\(a == eB)=false /\
    ∃ xs,KT H kvs xs/\h.DictOfH (tj (fg P w)) a xs:=by
  obtain ⟨z,y,xs,r,o,es,ep,h1,h2,h3,h4,h5⟩:=(show eP P w H h a (.dT kvs) from Cy ok e)
  refine ⟨z,y,xs,r,o,es,ep,h1,h2,h3,h4,fun x hx=>?_,h5⟩
  have all:∀ {l:List (List Key×V)} {m:List (List Key×ae×af)},KT H l m->∀ x∈m,(tj (fg P w)).is h x.1 x.2.1:=by
    intro l m q
    induction q with
    | nil=>intro x hx; exact nomatch hx
    | @cons p q ps qs hq t ih =>
      intro x hx
      rcases az.mp hx with e | hx
      · subst e
        exact tO ok (by rw [<- hq.1]; exact hq.2.1)
      · exact ih x hx
  exact all r x hx
theorem dt_of {kvs:List (List Key×V)} (ok:HOk P w H h) (e:H a=some (.dT kvs)):kvs.length<=aE/\(a == eB)=false /\
    ∃ xs,KT H kvs xs/\h.DictOfH (tj (fg P w)) a xs:=xk ok (.inl e)
end
def kd (H:Hp) (a:ae) (y:V) (r:Option V):Prop:=
  (∃ kvs k,Rd H a (.dK kvs)/\y=kV k/\r=kX kvs k)\/∃ kvs k b,Rd H a (.dT kvs)/\y=.ref b/\H b=some (.tup (k.map kV))/\r=kX kvs k
def kY (H:Hp) (a:ae) (y v:V) (H':Hp):Prop:=
  (∃ kvs k,H a=some (.dK kvs)/\y=kV k/\kvs.length < aE/\H'=upd H a (.dK (jt kvs k v))) \/
  ∃ kvs k b,H a=some (.dT kvs)/\y=.ref b/\H b=some (.tup (k.map kV))/\kvs.length < aE/\H'=upd H a (.dT (jt kvs k v))
theorem kd.k {H:Hp} {a:ae} {kvs:List (Key×V)} {k:Key} (e:H a=some (.dK kvs)):kd H a (kV k) (kX kvs k):=.inl ⟨kvs,k,.inl e,rfl,rfl⟩
theorem kY.k {H:Hp} {a:ae} {kvs:List (Key×V)} {k:Key} {v:V} (e:H a=some (.dK kvs)) (hl:kvs.length < aE):kY H a (kV k) v (upd H a (.dK (jt kvs k v))):=.inl ⟨kvs,k,e,rfl,hl,rfl⟩
section
variable {X:Cx} {pins:List (ae×Obj)} {σ:St} {H:Hp} {s:ax} {a:ae} {y v:V} {u r:af} {o:Option V} {A:cO} {E:af->ax->Prop}
theorem Inv.big (I:Inv X pins σ H s):eB < s.heap.objs.size:=by
  have h:aH < s.heap.objs.size:=(I.mod.glob.keeps I.bk).lt
  exact Nat.lt_trans (by decide) h
theorem yt {Q:af->ax->Prop} (hu:A.units + 1 < gp) (I:Inv X pins σ H s) (g:kd H a y (some v)) (ry:RelV y u) (h:∀ w' s',Inv X pins σ H s'->RelV v w'->Q w' s') :
    b8 (cm X.prog X.w) A (rJ (.ref a) u) Q E s:=by
  rcases g with ⟨kvs,k,e,ey,l⟩ | ⟨kvs,k,b,e,ey,eb,l⟩
  · subst ey
    obtain ⟨z,hd,vs,rel,dd⟩:=xj I.hok e
    obtain ⟨w',hw,rw'⟩:=ny.some_of (v:=v) (o:=kz vs k) (by rw [l]; exact rel.val k)
    exact wpAny_getItem_of (uH ry) dd.mapOf hw (h w' _ (I.tok _) rw')
  · subst ey
    cases (show u=Value.ref b from ry)
    obtain ⟨z,hd,xs,rel,dd⟩:=xk I.hok e
    obtain ⟨w',hw,rw'⟩:=ny.some_of (v:=v) (o:=(wc xs k).map (·.2)) (by rw [l]; exact rel.val k)
    obtain ⟨p,hp,hp2⟩:=Option.map_eq_some_iff.mp hw
    refine wpAny_getItem_heap (qH hu) (tO I.hok eb) dd hp ?_
    rw [hp2]
    exact h w' _ (I.tok _) rw'
theorem d_in {Q:af->ax->Prop} (hu:A.units + 1 < gp) (I:Inv X pins σ H s) (g:kd H a y o) (ry:RelV y u) (h:∀ s',Inv X pins σ H s'->Q (.bool o.isSome) s') :
    b8 (cm X.prog X.w) A (fX .In u (.ref a)) Q E s:=by
  rcases g with ⟨kvs,k,e,ey,l⟩ | ⟨kvs,k,b,e,ey,eb,l⟩
  · subst ey
    obtain ⟨z,hd,vs,rel,dd⟩:=xj I.hok e
    refine wpAny_in_of (uH ry) hd dd.mapOf ?_
    rw [<- (rel.val k).isSome_eq,<- l]
    exact h _ (I.tok _)
  · subst ey
    cases (show u=Value.ref b from ry)
    obtain ⟨z,hd,xs,rel,dd⟩:=xk I.hok e
    refine wpAny_in_heap (qH hu) (tO I.hok eb) hd dd ?_
    have q:=(rel.val k).isSome_eq
    rw [oP] at q
    rw [<- q,<- l]
    exact h _ (I.tok _)
theorem p7 {h':cR} {t':Nat} {ob:HO} (I:Inv X pins σ H s) (mu:Mut (H a)) (hs:pH a s.heap h') (he:∃ q,h'.get? a=some q) (new:eP X.prog X.w (upd H a ob) h' a ob) :
    Inv X pins σ (upd H a ob) {s with heap:=h',toks:=t'}:=
  I.write (x:=a) (e:=a) mu (.inl rfl) (fun b q hb z=>(hs.2 b hb).trans z) he new
theorem qI {P:aX} {w:cz} {H':Hp} {h':cR} {kvs:List (Key×V)} {vs:List (Key×af)} (z:kvs.length<=aE) (hd:(a == eB)=false) (rel:KV kvs vs) (dd:h'.DictOf (fg P w) a vs) :
    eP P w H' h' a (.dK kvs):=⟨z,hd,vs,rel,dd⟩
theorem yu {H':Hp} {Q:Unit->ax->Prop} (hu:A.units + 1 < gp) (I:Inv X pins σ H s) (g:kY H a y v H') (ry:RelV y u) (rv:RelV v r) (h:∀ s',Inv X pins σ H' s'->Q () s') :
    b8 (cm X.prog X.w) A (setItem (.ref a) u r) Q E s:=by
  rcases g with ⟨kvs,k,e,ey,l,eH⟩ | ⟨kvs,k,b,e,ey,eb,l,eH⟩
  · subst ey eH
    obtain ⟨z,hd,vs,rel,dd⟩:=zH I.hok e
    have hz:vs.length<=aE:=by rw [<- rel.length]; exact z
    have hl:(jt kvs k v).length<=aE:=by have:=mT kvs k v; omega
    refine wpAny_setItem_pairs (hsz:=hz) (uH ry) dd fun h' dd' hs=>h _ ?_
    have he:∃ q,h'.get? a=some q:=let ⟨q,_,_,hq,_⟩:=dd'; ⟨q,hq⟩
    exact p7 I (by rw [e]; exact True.intro) hs he (qI hl hd (rel.put k rv) dd')
  · subst ey eH
    cases (show u=Value.ref b from ry)
    obtain ⟨z,hd,xs,rel,dd⟩:=dt_of I.hok e
    have hz:xs.length<=aE:=by rw [<- bL rel]; exact z
    have hl:(jt kvs k v).length<=aE:=by have:=mT kvs k v; omega
    refine wpAny_setItem_heap (hsz:=hz) (qH hu) (tO I.hok eb) dd fun h' dd' hs=>h _ ?_
    obtain ⟨q,es,ep,hq,h2,h3,h4,_,h5⟩:=dd'
    refine p7 I (by rw [e]; exact True.intro) hs ⟨q,hq⟩ ⟨hl,hd,_,(rel.put k eb rv).keeps fun c ys ec=>?_,q,es,ep,hq,h2,h3,h4,h5⟩
    rw [aY (gJ ec e (fun z=>nomatch z))]
    exact ec
end
section
variable {X:Cx} {pins:List (ae×Obj)} {σ:St} {H:Hp} {s:ax} {a:ae} {kvs:List (Key×V)} {k:Key} {u:af} {A:cO} {E:af->ax->Prop}
theorem Bo {Q:af->ax->Prop} (I:Inv X pins σ H s) (e:H a=some (.dK kvs)) (h:∀ s',Inv X pins σ (upd H a (.dK [])) s'->Q .none s'):b8 (cm X.prog X.w) A (A9 (.builtin "dict.clear") [.ref a]) Q E s:=by
  obtain ⟨z,hd,vs,rel,dd⟩:=zH I.hok e
  refine lD sL dd.typeIs PySem.F.entry_dict_clear (PySem.F.args_dict_clear_1 _) (meets_dict_clear (fg X.prog X.w) a) ⟨vs,dd,by rw [<- rel.length]; exact z,fun h' dd' hs=>h _ ?_⟩
  have he:∃ q,h'.get? a=some q:=let ⟨q,_,_,hq,_⟩:=dd'; ⟨q,hq⟩
  exact p7 (t':=s.toks) I (by rw [e]; exact True.intro) hs he (qI (bV _) hd .nil dd')
end
def NoSl (i:cZ):Prop:=∀ ov iv,uu i false ov iv=operate [ov,iv] (rJ ov iv)
theorem Bp {prog:aX} {w:cz} {A:cO} {E:af->ax->Prop} {s:ax} {env:Env} {value slice:cZ} {pos:Pos} {T id:String} {Q:af->ax->Prop}
    (hl:Dy (.type T) "__getitem__"=pure (some (.builtin id))) (hs:NoSl slice)
    (h:b8 (cm prog w) A (gj value env) (fun o s₁=>b8 (cm prog w) A (gj slice env) (fun i s₂=>s₂.TypeIs o T/\b8 (cm prog w) A (rJ o i) Q E s₂) E s₁) E s) :
    b8 (cm prog w) A (gj (.Subscript value slice pos) env) Q E s:=by
  refine vT (fh h (fun o s₁ h₁=>fh h₁ (fun i s₂ h₂=>?_) fun _ _ x=>x) fun _ _ x=>x)
  obtain ⟨hT,h₂⟩:=h₂
  unfold p4
  refine aF ?_
  rw [getitemInPython_of_ne hT.not_modules]
  refine aF (wpAny_specialOf hT hl ?_)
  have fin:b8 (cm prog w) A (uu slice false o i) (fun r s₃=>b8 (cm prog w) A (letTemporaryGo value o r >>= fun _=>pure r) Q E s₃) E s₂:=by
    rw [hs o i]
    exact wpAny_operating (fh h₂ (fun r s₃ h₃=>aF (wpAny_letTemporaryGo (cg h₃))) fun _ _ x=>x)
  first
    | exact cg (aF fin)
    | exact aF (cg (aF fin))
    | exact aF fin
theorem uI {X:Cx} {pins:List (ae×Obj)} {σ:St} {H:Hp} {s:ax} {a:ae} {y:V} {o:Option V} (I:Inv X pins σ H s) (g:kd H a y o):s.TypeIs (.ref a) "dict":=by
  rcases g with ⟨kvs,k,e,_,_⟩ | ⟨kvs,k,b,e,_,_,_⟩
  · obtain ⟨_,_,vs,_,dd⟩:=xj I.hok e
    exact dd.typeIs
  · obtain ⟨_,_,xs,_,dd⟩:=xk I.hok e
    exact dd.typeIs
def tDGet (td ty:TE):TE:=fun σ H Q=>td σ H fun x H1=>ty σ H1 fun y H2=>∃ a v,x=.ref a/\kd H2 a y (some v)/\Q v H2
def tDIn (ty td:TE):TE:=fun σ H Q=>ty σ H fun y H1=>td σ H1 fun x H2=>∃ a o,x=.ref a/\kd H2 a y o/\Q (.bl o.isSome) H2
def sDPut (td ty tv:TE):TS:=fun D σ H=>tv σ H fun v H1=>td σ H1 fun x H2=>ty σ H2 fun y H3=>∃ a H4,x=.ref a/\kY H3 a y v H4/\D.nx σ H4
section
variable {X:Cx} {o i e value:cZ} {pos pos' tpos:Pos} {td ty tv:TE}
theorem gs (hu:X.A.units + 1 < gp) (ho:PE X o td) (hi:PE X i ty) (hs:NoSl i):PE X (.Subscript o i pos) (tDGet td ty):=by
  intro pins s σ H Q I h
  refine Bp PySem.F.slot_dict_getitem.lookup hs (thn (ho pins s σ H _ I h) fun u s1 ⟨x,H1,I1,rx,q1⟩=>thn (hi pins s1 σ H1 _ I1 q1) fun iv s2 ⟨y,H2,I2,ry,a,v,ex,g,q2⟩=>?_)
  subst ex
  obtain rfl:u=Value.ref a:=rx
  exact ⟨uI I2 g,yt hu I2 g ry fun w' s3 I3 rw'=>⟨v,H2,I3,rw',q2⟩⟩
theorem wg (hu:X.A.units + 1 < gp) (hi:PE X i ty) (ho:PE X o td):PC X .In i o (tDIn ty td):=by
  intro pins s σ H Q I h
  refine thn (hi pins s σ H _ I h) fun iv s1 ⟨y,H1,I1,ry,q1⟩=>thn (ho pins s1 σ H1 _ I1 q1) fun u s2 ⟨x,H2,I2,rx,a,ov,ex,g,q2⟩=>?_
  subst ex
  obtain rfl:u=Value.ref a:=rx
  exact d_in hu I2 g ry fun s3 I3=>⟨.bl ov.isSome,H2,I3,rfl,q2⟩
theorem gu (hu:X.A.units + 1 < gp) (ho:PE X o td) (hi:PE X i ty) (hv:PE X value tv) (hs:tH value (some (.Subscript o i pos')) pos.line X.env=pure false) :
    PS X (.Assign [.Subscript o i pos'] value pos) (sDPut td ty tv):=by
  intro pins s σ H D I h
  refine wpAny_Assign_Subscript (thn (hv pins s σ H _ I h) fun r s1 ⟨v,H1,I1,rv,q1⟩=>thn (ho pins s1 σ H1 _ I1 q1) fun u s2 ⟨x,H2,I2,rx,q2⟩=>thn (hi pins s2 σ H2 _ I2 q2) fun iv s3 ⟨y,H3,I3,ry,a,H4,ex,g,q3⟩=>?_) hs
  subst ex
  obtain rfl:u=Value.ref a:=rx
  exact yu hu I3 g ry rv fun s4 I4=>⟨σ,H4,I4,q3⟩
end
theorem uJ {P:aX} {w:cz} {H:Hp} (h:cR) (hb:eB < h.objs.size):eP P w H (h.push {cls:=.type "dict",data:=.dict #[]}) h.objs.size (.dK []):=
  ⟨bV _,beq_eq_false_iff_ne.mpr (eS (cA hb)),[],.nil,Heap.DictOf.new h⟩
def DK:TE:=fun _ H Q=>∀ p,H p=none->Q (.ref p) (upd H p (.dK []))
section
variable {X:Cx} {pos:Pos}
theorem jn:PE X (.Dict [] [] pos) DK:=fun pins s σ H Q I h =>
  wpAny_Dict_empty ⟨.ref s.heap.objs.size,_,I.laid (a:=s.heap.objs.size) (o:=.dK []) (t':=s.toks) (fun _ _ q=>aU _ q) (aS _) (uJ s.heap I.big),rfl,h _ (I.hok.fresh (aS _))⟩
end
def wj:List (TE×TE)->St->Hp->(List (V×V)->Hp->Prop)->Prop
  | [],_,H,Q=>Q [] H
  | (tk,tv) :: r,σ,H,Q=>tk σ H fun x H1=>tv σ H1 fun y H2=>wj r σ H2 fun ps H3=>Q ((x,y) :: ps) H3
abbrev VV:List (V×V)->List (af×af)->Prop:=bJ fun p q=>RelV p.1 q.1/\RelV p.2 q.2
def PPs (X:Cx) (pos:Pos) (keys:List (Option cZ)) (values:List cZ) (trs:List (TE×TE)):Prop:=
  ∀ (pins:List (ae×Obj)) (s:ax) (σ:St) (H:Hp) (Q:List (V×V)->Hp->Prop),Inv X pins σ H s->wj trs σ H Q ->
    b8 (cm X.prog X.w) X.A (evalPairs (pairTrees keys values X.env pos)) (fun vs s'=>∃ ps H',Inv X pins σ H' s'/\VV ps vs/\Q ps H') X.xe s
theorem Bq {X:Cx} {pos:Pos}:PPs X pos [] [] []:=fun pins s σ H Q I h=>pairTrees_nil_walk ⟨[],H,I,.nil,h⟩
theorem qJ {X:Cx} {pos:Pos} {k v:cZ} {ks:List (Option cZ)} {vs:List cZ} {tk tv:TE} {trs:List (TE×TE)} (hk:PE X k tk) (hv:PE X v tv) (hr:PPs X pos ks vs trs) :
    PPs X pos (some k :: ks) (v :: vs) ((tk,tv) :: trs):=fun pins s σ H Q I h =>
  pairTrees_cons_walk (thn (hk pins s σ H _ I h) fun u s1 ⟨x,H1,I1,rx,q1⟩=>thn (hv pins s1 σ H1 _ I1 q1) fun w2 s2 ⟨y,H2,I2,ry,q2⟩ =>
    thn (hr pins s2 σ H2 _ I2 q2) fun ws s3 ⟨ps,H3,I3,rel,q3⟩=>⟨(x,y) :: ps,H3,I3,.cons ⟨rx,ry⟩ rel,q3⟩)
def o7 (kvs more:List (Key×V)):List (Key×V):=more.foldl (fun acc kv=>jt acc kv.1 kv.2) kvs
theorem KV.merge:∀ {more:List (Key×V)} {rs:List (Key×af)} {kvs:List (Key×V)} {vs:List (Key×af)},KV more rs->KV kvs vs->KV (o7 kvs more) (merged vs rs):=by
  intro more rs kvs vs r
  unfold KV at r
  induction r generalizing kvs vs with
  | nil=>intro q; exact q
  | @cons p q ps qs h t ih =>
    intro r0
    have e:KV (jt kvs p.1 p.2) (stored vs q.1 q.2):=by
      have:=r0.put p.1 h.2
      rw [<- h.1]; exact this
    exact ih e
theorem nL:∀ (more kvs:List (Key×V)),(o7 kvs more).length<=kvs.length + more.length
  | [],kvs=>by show kvs.length<=kvs.length + 0; omega
  | p :: r,kvs=>by
    have h1:=nL r (jt kvs p.1 p.2)
    have h2:=mT kvs p.1 p.2
    show (o7 (jt kvs p.1 p.2) r).length<=_
    rw [bX]; omega
theorem qK {P:aX} {w:cz}:∀ {kvs:List (Key×V)} {ws:List (af×af)},VV (kvs.map fun kv=>(kV kv.1,kv.2)) ws->∃ rs,Carries (fg P w) ws rs/\KV kvs rs
  | [],_,r=>by rw [vF] at r; cases r; exact ⟨[],True.intro,.nil⟩
  | p :: kvs,_,r=>by
    rw [dN] at r
    cases r with
    | @cons a b as bs h t =>
      obtain ⟨rs,c,q⟩:=qK (P:=P) (w:=w) t
      obtain ⟨b1,b2⟩:=b
      exact ⟨(p.1,b2) :: rs,⟨uH h.1,rfl,c⟩,.cons ⟨rfl,h.2⟩ q⟩
def tDisp (trs:List (TE×TE)):TE:=fun σ H Q=>∀ p,H p=none->wj trs σ (upd H p (.dK [])) fun ps H2=>H2 p=some (.dK [])/\∃ kvs:List (Key×V),ps=kvs.map (fun kv=>(kV kv.1,kv.2))/\kvs.length<=15/\Q (.ref p) (upd H2 p (.dK (o7 [] kvs)))
theorem Br {X:Cx} {pos:Pos} {keys:List (Option cZ)} {values:List cZ} {trs:List (TE×TE)} (h:PPs X pos keys values trs) (hall:keys.all (·.isSome)=true) (hl:keys.length=values.length) (h0:keys≠[])
    (h15:keys.length<=15):PE X (.Dict keys values pos) (tDisp trs):=by
  intro pins s σ H Q I q
  have hn:=I.hok.fresh (aS s.heap.objs.size)
  have I1:=I.laid (a:=s.heap.objs.size) (o:=.dK []) (h':=s.heap.push {cls:=.type "dict",data:=.dict #[]}) (t':=s.toks) (fun _ _ q=>aU _ q) (aS _) (uJ s.heap I.big)
  refine wpAny_Dict_walk (knd:=fg X.prog X.w) hall hl h0 h15 (thn (h pins _ σ _ _ I1 (q _ hn)) fun ws s2 ⟨ps,H2,I2,rel,e,kvs,ep,lk,q2⟩=>?_)
  subst ep
  obtain ⟨rs,c,rk⟩:=qK (P:=X.prog) (w:=X.w) rel
  obtain ⟨z,hd,vs0,r0,dd⟩:=zH I2.hok e
  cases r0
  refine ⟨rs,c,dd,fun h' dd' hs=>⟨.ref s.heap.objs.size,_,?_,rfl,q2⟩⟩
  have hz:(o7 [] kvs).length<=aE:=by
    have h1:=nL kvs []
    rw [jh] at h1
    rw [uk]; omega
  have he:∃ q,h'.get? s.heap.objs.size=some q:=let ⟨q,_,_,hq,_⟩:=dd'; ⟨q,hq⟩
  exact p7 I2 (by rw [e]; exact True.intro) hs he (qI hz hd (rk.merge .nil) dd')
section
variable {X:Cx} {pins:List (ae×Obj)} {σ:St} {H:Hp} {s:ax} {a:ae} {y d:V} {u r:af} {o:Option V} {A:cO} {E:af->ax->Prop}
end
section
variable {X:Cx} {o e f:cZ} {apos cpos:Pos} {td ty tx:TE}
end
section
variable {X:Cx} {pins:List (ae×Obj)} {σ:St} {H:Hp} {s:ax} {a:ae} {kvs:List (Key×V)} {A:cO} {E:af->ax->Prop}
end
section
variable {X:Cx} {pins:List (ae×Obj)} {σ:St} {H:Hp} {s:ax} {a:ae} {y:V} {u:af} {A:cO} {E:af->ax->Prop}
end
end L2
namespace L2
open PySem PySem.Spec PyProof.Rows
section
variable {X:Cx}
end
section
variable {κ:Type} [DecidableEq κ]
end
end L2
set_option maxHeartbeats 4000000
namespace L2
open PySem PySem.Spec PyProof.Rows
theorem eP.has {P:aX} {w:cz} {H:Hp} {h:cR} {a:ae} {o:HO} (x:eP P w H h a o):∃ ob,h.get? a=some ob:=by
  cases o with
  | lst xs=>obtain ⟨_,_,_,_,e⟩:=x; exact ⟨_,e⟩
  | tup xs=>obtain ⟨_,_,_,ob,e,_⟩:=x; exact ⟨_,e⟩
  | dK kvs=>obtain ⟨_,_,_,_,o,_,_,e,_⟩:=x; exact ⟨_,e⟩
  | dT kvs=>obtain ⟨_,_,_,_,o,_,_,e,_⟩:=x; exact ⟨_,e⟩
  | set S n=>obtain ⟨o,_,_,_,e,_⟩:=x; exact ⟨_,e⟩
  | ins C dx fs=>obtain ⟨_,_,_,e,_⟩:=x; exact ⟨_,e⟩
  | own y=>exact x
  | xd fs=>obtain ⟨_,⟨_,_,_,e,_⟩,_⟩:=x; exact ⟨_,e⟩
  | rng lo hi=>obtain ⟨_,_,_,e⟩:=x; exact ⟨_,e⟩
  | frz ob u=>obtain ⟨e,_⟩:=x; exact ⟨_,e⟩
  | tbl ps=>exact ⟨_,(show h.get? a=some _ from x)⟩
  | met f y=>exact ⟨_,(show h.get? a=some _ from x)⟩
  | ext φ=>obtain ⟨_,e,_⟩:=x; exact e
theorem HOk.has {P:aX} {w:cz} {H:Hp} {h:cR} (x:HOk P w H h) {b:ae} (n:H b≠none):∃ ob,h.get? b=some ob:=by
  cases z:H b with
  | none=>exact absurd z n
  | some u=>exact (x b u z).has
def FlD (B:cR) (l:List Env) (e:ae) (cls fl:af) (h:cR):Prop:=
  B.StaysIn h/\B.get? e=none/\h.FunFrames B l/\∃ oe vs T oT ts,h.get? e=some oe/\oe.cls=cls/\oe.dict=none/\oe.data=.fields vs/\vs[1]?=some (.ref T)/\B.get? T=none/\T≠e/\h.get? T=some oT/\oT.data=.fields ts/\ts[3]?=some fl
theorem yv (o:Obj) (f:Array af->Array af):(o.mapFields f).dict=o.dict:=by
  obtain ⟨c,d,dt,sl⟩:=o
  cases dt <;> rfl
section
variable {M:A7} {A:cO} {E:af->ax->Prop} {s:ax} {B:cR} {env:Env} {outer l:List Env} {L e:ae} {cls fl:af} {Q:Unit->ax->Prop}
theorem uK {oe:Obj} {vs:Array af} {head:af} {nx:Bool} (hfr:A.frames=some (env :: outer)) (hl:s.heap.FunFrames B (env :: outer)) (hf:env.frame=some L) (he:s.heap.get? e=some oe) (hB:B.StaysIn s.heap) (hn:B.get? e=none)
    (hd:oe.data=.fields vs) (hz:1 < vs.size) (hdc:oe.dict=none) (k:∀ h',FlD B (env :: outer) e oe.cls (oV L) h'->s.heap.UpToSlots h'->Q () {s with heap:=h'}) :
    b8 M A (do let a <- frameOf env; let pl <- entryPlaceOf L nx; let b <- tP head a .none (oV L) .none pl; setField (.ref e) 1 b) Q E s:=by
  have ef:e∉(env :: outer).filterMap (·.frame):=fun hm=>by
    obtain ⟨_,o,ho,q⟩:=hl.mem hm
    rw [he] at ho
    cases ho
    exact q vs hd
  refine aF (wpAny_frameOf_fun hfr hl hf fun h1 g1=>aF (wpAny_entryPlaceOf fun pl hpl=>?_))
  unfold tP newFields
  refine aF (E3 ?_ (hpl.sizeOk5 _ _ _ _ _))
  have e1:h1.get? e=some oe:=(g1.2.1 e ef).trans he
  have b1:B.StaysIn h1:=fun b o z=>(g1.2.1 b fun hm=>by rw [(hl.mem hm).1] at z; cases z).trans (hB b o z)
  have ne:h1.objs.size≠e:=vJ (bO e1)
  generalize hob:({cls:=.type "traceback",dict:=none,data:=.fields ([head,.ref L,.none,oV L,.none]++(if pl.isEmpty then cV 6 Value.none else pl)).toArray}:Obj)=ob
  have e2:(h1.push ob).get? e=some oe:=aU _ e1
  have t2:(h1.push ob).get? h1.objs.size=some ob:=cQ h1 (by rw [<- hob]; rfl)
  refine wx e2 hd hz (k _ ?_ ?_)
  · have d3:=o8 hd (·.setIfInBounds 1 (Value.ref h1.objs.size))
    have keep:∀ b o,b≠e->h1.get? b=some o->((h1.push ob).update e (oQ (·.setIfInBounds 1 (Value.ref h1.objs.size)))).get? b=some o:=fun b o q z=>by
      rw [fb _ _ (eS q)]
      exact aU _ z
    refine ⟨fun b o z=>keep b o (fun q=>by rw [q,hn] at z; cases z) (b1 b o z),hn,hl.of_keeps fun b o z q=>?_,_,_,h1.objs.size,ob,_,m6 _ e2 (xl d3),Obj.cls_mapFields _ _,(yv _ _).trans hdc,d3,by simp [hz],b1.fresh,ne,?_,by rw [<- hob],?_⟩
    · obtain ⟨sl,w⟩:=g1.2.2 b o z
      exact ⟨_,keep b _ (fun y=>by rw [y,he] at z; cases z; exact q vs hd) w,rfl⟩
    · rw [fb _ _ (eS ne)]
      exact t2
    · first | (simp; done) | (rcases hpl with rfl | ⟨_,_,_,_,_,_,_,rfl⟩ <;> simp)
  · intro b o z q
    obtain ⟨sl,w⟩:=g1.2.2 b o z
    refine ⟨sl,?_⟩
    rw [fb _ _ (fun y=>by rw [<- y,he] at z; cases z; exact q vs hd)]
    exact aU _ w
theorem p8 {T:ae} {oT:Obj} {ts:Array af} {h:cR} (hT:h.get? T=some oT) (hdT:oT.data=.fields ts) {b:ae} {o:Obj} (hb:h.get? b=some o) (q:∀ vs,o.data≠.fields vs):b≠T:=fun y=>by
  rw [y,hT] at hb
  cases hb
  exact q ts hdT
theorem xm (hfr:A.frames=some (env :: outer)) (hf:env.frame=some L) (x:FlD B (env :: outer) e cls .none s.heap) (k:∀ h',FlD B (env :: outer) e cls (oV L) h'->s.heap.UpToSlots h'->Q () {s with heap:=h'}) :
    b8 M A (zd (.ref e) env) Q E s:=by
  obtain ⟨hB,hn,hl,oe,vs,T,oT,ts,he,rfl,hdc,hd,h1,nT,Te,hT,dT,h3⟩:=x
  unfold zd
  simp only [hf]
  refine aF (uw he hd h1 ?_)
  rw [if_pos (show (Value.ref T != Value.none)=true from by simp)]
  refine aF (uw hT dT h3 ?_)
  rw [if_neg (show ¬ ((Value.none == oV L)=true) from by simp [oV])]
  refine aF (wx hT dT (kC.mp h3).1 ?_)
  have ot:∀ b,b≠T->(s.heap.update T (oQ (·.setIfInBounds 3 Value.none))).get? b=s.heap.get? b:=fun b hb=>fb _ _ (eS hb)
  refine uK (s:={s with heap:=s.heap.update T (oQ (·.setIfInBounds 3 Value.none))}) hfr (hl.of_keeps fun b o z q=>⟨o,(ot b (p8 hT dT z q)).trans z,rfl⟩) hf ((ot e (eS Te)).trans he)
    (fun b o z=>(ot b fun y=>by rw [y,nT] at z; cases z).trans (hB b o z)) hn hd (kC.mp h1).1 hdc fun h' y1 y2=>k h' y1 fun b o z q=>y2 b o ((ot b (p8 hT dT z q)).trans z) q
theorem oB (x:FlD B l e cls fl s.heap) (k:∀ h',FlD B l e cls .none h'->s.heap.UpToSlots h'->Q () {s with heap:=h'}):b8 M A (setFlight (.ref e) none) Q E s:=by
  obtain ⟨hB,hn,hl,oe,vs,T,oT,ts,he,hc,hdc,hd,h1,nT,Te,hT,dT,h3⟩:=x
  have z3:3 < ts.size:=(kC.mp h3).1
  have ot:∀ b,b≠T->(s.heap.update T (oQ (·.setIfInBounds 3 ((none:Option ae).elim Value.none fun f=>oV f)))).get? b=s.heap.get? b:=fun b hb=>fb _ _ (eS hb)
  unfold setFlight
  refine aF (uw he hd h1 ?_)
  rw [if_pos (show (Value.ref T != Value.none)=true from by simp)]
  refine wx hT dT z3 (k _ ⟨fun b o z=>(ot b fun y=>by rw [y,nT] at z; cases z).trans (hB b o z),hn,hl.of_keeps fun b o z q=>⟨o,(ot b (p8 hT dT z q)).trans z,rfl⟩,oe,vs,T,_,_,(ot e (eS Te)).trans he,hc,hdc,hd,h1,nT,Te,m6 _ hT (xl (o8 dT _)),o8 dT _,by simp [z3]⟩
    fun b o z q=>⟨o.slots,(ot b (p8 hT dT z q)).trans z⟩)
theorem FlD.tail (x:FlD B (env :: outer) e cls fl s.heap):FlD B outer e cls fl s.heap:=by
  obtain ⟨a,b,⟨_,_,c⟩,d⟩:=x
  exact ⟨a,b,c,d⟩
theorem FlD.there {h:cR} (x:FlD B l e cls fl h):∃ ob,h.get? e=some ob/\ob.cls=cls:=by
  obtain ⟨_,_,_,oe,_,_,_,_,he,hc,_⟩:=x
  exact ⟨oe,he,hc⟩
theorem yw (hfr:A.frames=some (env :: outer)) (hf:env.frame=some L) (x:FlD B (env :: outer) e cls .none s.heap) (k:∀ h',FlD B outer e cls .none h'->s.heap.UpToSlots h'->Q () {s with heap:=h'}):b8 M A (vD env (.ref e)) Q E s:=by
  unfold vD
  refine aF (xm hfr hf x fun h1 x1 u1=>oB (s:={s with heap:=h1}) x1 fun h2 x2 u2=>k h2 (FlD.tail (s:={s with heap:=h2}) x2) (u1.trans u2))
theorem Bs {h:cR} {args:List af} (hfr:A.frames=some (env :: outer)) (hf:env.frame=some L) (hB:B.StaysIn h) (hl:h.FunFrames B (env :: outer)) (x:Cz h s.heap e cls args)
    (k:∀ h',FlD B outer e cls .none h'->s.heap.UpToSlots h'->Q () {s with heap:=h'}):b8 M A (vD env (.ref e)) Q E s:=by
  obtain ⟨t,he,htn,ht⟩:=x.there
  have en:B.get? e=none:=by
    cases q:B.get? e with
    | none=>rfl
    | some o=>have z:=hB e o q; rw [x.new] at z; cases z
  unfold vD zd
  simp only [hf]
  refine aF (aF (uw (x:=Value.none) he rfl rfl ?_))
  rw [if_neg (show ¬ ((Value.none != Value.none)=true) by decide)]
  exact uK hfr (hl.of_keeps fun b o z _=>⟨o,x.keeps b o z,rfl⟩) hf he (fun b o z=>x.keeps b o (hB b o z)) en rfl (show 1 < 6 by decide) rfl fun h1 x1 u1=>oB (s:={s with heap:=h1}) x1 fun h2 x2 u2=>k h2 (FlD.tail (s:={s with heap:=h2}) x2) (u1.trans u2)
end
def Fly (B:cR) (stk:List Env) (ea C:ae) (h:cR):Prop:=FlD B stk ea (.ref C) .none h
def CXo (P:aX) (w:cz):CXT:=fun outer H s E e s' =>
  ∃ (ea C:ae) (H':Hp) (B:cR),e=.ref ea/\E (.ref C) none H'/\s'.os=s.os/\mn s'.gens/\Un (frs outer) [] H H' s.heap s'.heap/\HOk P w H' s'.heap/\Fly B outer ea C s'.heap /\
    ∀ b o,(H' b≠none\/∃ o',s.heap.get? b=some o')->b∉frs outer->s'.heap.get? b=some o->B.get? b=some o
theorem Un.left {fs stk:List ae} {H₀ H:Hp} {h₀ h h' B:cR} (u:Un fs [] H₀ H h₀ h) (hB:B.StaysIn h') (cov:∀ b o,(H b≠none\/∃ o',h₀.get? b=some o')->b∉stk->h.get? b=some o->B.get? b=some o)
    (hst:∀ b o,h₀.get? b=some o->b∈stk->b∈fs) (sl:∀ b∈fs,∀ o,h.get? b=some o->∃ sl,h'.get? b=some {o with slots:=sl}):Un fs [] H₀ H h₀ h' where
  keep:=fun b o e n hb hx=>hB b o (cov b o (.inr ⟨o,e⟩) (fun z=>hb (hst b o e z)) (u.keep b o e n hb hx))
  slot:=fun b o e n hb hx=>by
    obtain ⟨s1,e1⟩:=u.slot b o e n hb hx
    obtain ⟨s2,e2⟩:=sl b hb _ e1
    exact ⟨s2,e2⟩
  free:=u.free
  there:=fun b o e hx=>by
    obtain ⟨o',e'⟩:=u.there b o e hx
    by_cases hb:b∈stk
    · obtain ⟨s2,e2⟩:=sl b (hst b o e hb) _ e'
      exact ⟨_,e2⟩
    · exact ⟨o',hB b o' (cov b o' (.inr ⟨o,e⟩) hb e')⟩
  tups:=u.tups
  frzs:=u.frzs
  tbls:=u.tbls
theorem HOk.left {P:aX} {w:cz} {H:Hp} {h h' B:cR} (ok:HOk P w H h) (hB:B.StaysIn h') (cov:∀ b o,H b≠none->h.get? b=some o->B.get? b=some o):HOk P w H h':=fun a o e =>
  (ok a o e).stay (fun b u hb q=>hB b u (cov b u (by
    rcases hb with z | z
    · rw [z,e]; simp
    · rw [z]; simp) q)) (fun _ q=>q) (fun _ _ q=>q)
section
variable {X:Cx} {pins:List (ae×Obj)} {σ:St} {H:Hp} {s:ax} {E E':XK}
theorem Inv.oldfs (I:Inv X pins σ H s):∀ b o,X.s₀.heap.get? b=some o->b∈frs X.stack->b∈X.fs:=fun b o e hb=>by
  rcases az.mp (I.stkSub b hb) with z | z
  · exact absurd (bP (bO e) I.ok.above) (by rw [z]; exact ij _)
  · exact z
theorem Inv.ntr (I:Inv X pins σ H s):∀ b,H b≠none->b∉frs X.stack:=fun b hn z=>hn (I.stkFree b z)
theorem Inv.slotsOf (I:Inv X pins σ H s) {h':cR} (sm:s.heap.UpToSlots h'):∀ b∈X.fs,∀ o,s.heap.get? b=some o->∃ sl,h'.get? b=some {o with slots:=sl}:=fun b hb o e=>by
  obtain ⟨_,o',ho',hd⟩:=I.funs.mem hb
  rw [e] at ho'
  cases ho'
  exact sm b o e hd
structure pM (X:Cx) (E:XK):Prop where
  stk:X.stack=X.env :: X.outer
  fr:X.env.frame=some X.env.locals
  ex:X.ex=[]
  xe:X.xe=fun e s'=>b8 (cm X.prog X.w) X.A (vD X.env e) (fun _ s''=>CXo X.prog X.w X.outer X.H₀ X.s₀ E e s'') (fun e' s''=>CXo X.prog X.w X.outer X.H₀ X.s₀ E e' s'') s'
theorem eg {P:aX} {w:cz} {K:aj} {mg:Str->Option af} {base:cR} {N:List Str} {qual:Str} {scope:lA} {f:ae} {cd:af} {A:cO} {outer:List Env} :
    pM (uE (CXo P w) P w K mg base N qual scope f cd A outer s H E) E:=⟨rfl,rfl,rfl,rfl⟩
theorem pM.raises (hb:pM X E) (I:Inv X pins σ H s) {h':cR} {e C:ae} {vs:List af} (hx:Cz s.heap h' e (.ref C) vs) (q:E (.ref C) none H):X.xe (.ref e) {s with heap:=h'}:=by
  rw [hb.xe]
  have hfr:X.A.frames=some (X.env :: X.outer):=by rw [I.ok.frames,hb.stk]
  have hin:∀ env∈X.stack,∀ a,env.frame=some a->a∈frs X.stack:=fun env he a ha=>oO.mpr ⟨env,he,ha⟩
  have fl:s.heap.FunFrames (lS s.heap (frs X.stack)) (X.env :: X.outer):=by
    have z:=PySem.W.funFrames_hide I.stack hin
    rw [hb.stk] at z |-
    exact z
  have ub:Un X.fs [] X.H₀ H X.s₀.heap s.heap:=by
    have z:=I.base
    rw [hb.ex] at z
    exact z
  have keepB:∀ b o,b∉frs X.stack->s.heap.get? b=some o->(lS s.heap (frs X.stack)).get? b=some o:=fun b o n e=>vx _ e n
  refine Bs (B:=lS s.heap (frs X.stack)) (h:=s.heap) hfr hb.fr (fun b o z=>vH _ z) fl hx fun h'' x1 x4=>?_
  have sm:s.heap.UpToSlots h'':=(E4 hx.keeps).trans x4
  refine ⟨e,C,H,_,rfl,q,I.os,I.bare,ub.left (stk:=frs X.stack) x1.1 (fun b o _ n e=>keepB b o n e) I.oldfs (I.slotsOf sm),I.hok.left x1.1 (fun b o n e=>keepB b o (I.ntr b n) e),x1,?_⟩
  intro b o c n e1
  have nb:b∉frs X.stack:=by
    rcases c with c | ⟨o',c⟩
    · exact I.ntr b c
    · exact fun z=>n (I.oldfs b o' c z)
  obtain ⟨o1,e2⟩:∃ o1,s.heap.get? b=some o1:=by
    rcases c with c | ⟨o',c⟩
    · exact I.hok.has c
    · exact ub.there b o' c (by simp)
  have e3:h''.get? b=some o1:=x1.1 b o1 (keepB b o1 nb e2)
  have e4:h''.get? b=some o:=e1
  rw [e3] at e4
  cases e4
  exact keepB b _ nb e2
theorem pM.passes (hb:pM X E) (hE:∀ c d H,E' c d H->E c d H):lK (CXo X.prog X.w) X E':=fun pins σ H s e s' I h=>by
  obtain ⟨ea,C,H',B,rfl,q,os,bare,un,hok,fl,cov⟩:=h
  have J:Inv X pins σ H' s':=I.call' (ch:=[]) os un hok bare (fun b z=>absurd z (by simp))
  rw [hb.xe]
  have hfr:X.A.frames=some (X.env :: X.outer):=by rw [I.ok.frames,hb.stk]
  have ub:Un X.fs [] X.H₀ H' X.s₀.heap s'.heap:=by
    have z:=J.base
    rw [hb.ex] at z
    exact z
  have ui:Un X.fs [] X.H₀ H X.s₀.heap s.heap:=by
    have z:=I.base
    rw [hb.ex] at z
    exact z
  have cov1:∀ b o,(H' b≠none\/∃ o',X.s₀.heap.get? b=some o')->b∉frs X.stack->s'.heap.get? b=some o->B.get? b=some o:=fun b o c n e =>
    cov b o (c.imp_right fun ⟨o',z⟩=>ui.there b o' z (by simp)) n e
  have fl':FlD B (X.env :: X.outer) ea (.ref C) .none s'.heap:=by
    rw [<- hb.stk]
    exact fl
  refine yw hfr hb.fr fl' fun h'' x1 x2=>?_
  refine ⟨ea,C,H',B,rfl,hE _ _ _ q,J.os,J.bare,ub.left (stk:=frs X.stack) x1.1 cov1 J.oldfs (J.slotsOf x2),J.hok.left x1.1 (fun b o n e=>cov1 b o (.inl n) (J.ntr b n) e),x1,?_⟩
  intro b o c n e1
  have nb:b∉frs X.stack:=by
    rcases c with c | ⟨o',c⟩
    · exact J.ntr b c
    · exact fun z=>n (J.oldfs b o' c z)
  obtain ⟨o1,e2⟩:∃ o1,s'.heap.get? b=some o1:=by
    rcases c with c | ⟨o',c⟩
    · exact J.hok.has c
    · exact ub.there b o' c (by simp)
  have e3:h''.get? b=some o1:=x1.1 b o1 (cov1 b o1 c nb e2)
  have e4:h''.get? b=some o:=e1
  rw [e3] at e4
  cases e4
  exact cov1 b _ c nb e2
end
section
variable {X:Cx} {E:XK} {x:Str} {C:ae} {np cpos pos:Pos} {e₀:cZ} {rest:List cZ} {ta:TA} {K:aj} {h:cR}
theorem Bt {bmB:List af} {newId:String} (X:K.In h) (q:dI K C bmB newId=true) :
    ∃ bm N nm q bs hdct sn sub ab col dd k0 k1 k2 k3 k5 mN,h.get? C=some (excClassObj nm q C N bs bm hdct sn sub ab col dd k0 k1 k2 k3 k5 newId)/\h.Ns N mN/\mN "__init__"=none/\OwnTail h bmB bm:=by
  unfold dI at q
  split at q
  · rename_i dd cd sl ho
    split at q
    · rename_i C' bm k0 k1 k2 k3 n k5 hm hs
      simp only [gf,beq_iff_eq,Bool.not_eq_true'] at q
      obtain ⟨⟨⟨⟨⟨rfl,rfl⟩,hdel⟩,ht⟩,hok⟩,hni⟩:=q
      obtain ⟨nm,bs,mro,ns,qn,hd,sn,sub,ab,col,del⟩:=cd
      dsimp only at hm hdel hok hni
      subst hm hdel
      have e:sl=#[k0,k1,k2,k3,some (.builtin n),k5]:=by
        obtain ⟨l⟩:=sl
        have hs':l=[k0,k1,k2,k3,some (.builtin n),k5]:=hs
        rw [hs']
      subst e
      exact ⟨bm,ns,nm,qn,bs,hd,sn,sub,ab,col,dd,k0,k1,k2,k3,k5,_,X _ _ ho,.of_isNs (PySem.W.isNs_of_in X hok),PySem.W.nsMap_none_of_in X hok hni,PySem.W.tail_of_in X ht⟩
    · cases q
  · cases q
def nF:List af:=[.type "ValueError",.type "Exception",.type "BaseException",.type "object"]
def DQ (C:ae) (E:XK) (ta:TA):TS:=fun _ σ H=>ta σ H fun vs H1=>vs.length<=aE/\E (.ref C) none H1
theorem ke (hb:pM X E) (hc:X.calm=true) (hg:Gl X x) (hm:X.mg x=some (.ref C)) (hx:dI X.K C nF "ValueError.__new__"=true) (ha:PA X (e₀ :: rest) ta)
    (hd:(x == ("__debug__":Str))=false:=by decide) (he:cW (e₀ :: rest) X.env=(false,gj e₀ X.env) :: cW rest X.env:=by rfl) (hpl:(jP cpos (cW rest X.env)).any (·.1)=false:=by rfl) :
    PS X (.Raise (some (.Call (.Name x np) (e₀ :: rest) [] cpos)) none pos) (DQ C E ta):=by
  intro pins s σ H D I h
  obtain ⟨bm,N,nm,q,bs,hdct,sn,sub,ab,col,dd,k0,k1,k2,k3,k5,mN,hC,hN,hni,T⟩:=Bt I.ok.mod.kin hx
  have base:nF.contains (.type "BaseException")=true:=F.excBase_ValueError.hasBase
  refine wpAny_Raise_call_subT (C:=C) (nm:=nm) (q:=q) (N:=N) (bs:=bs) (bm:=bm) (hdct:=hdct) (sn:=sn) (sub:=sub) (ab:=ab) (col:=col) (dd:=dd) (k0:=k0) (k1:=k1) (k2:=k2) (k3:=k3) (k5:=k5)
    F.excBase_ValueError (mN:=mN) (T.hasType base) (I.ok.hd hc) (by rw [he]; show (false || (jP cpos (cW rest X.env)).any (·.1))=false; rw [hpl]; rfl) hni (m5 I hg hm ⟨rfl,?_⟩ hd)
  have h1:=ha cpos pins s σ H _ I h
  rw [he] at h1 |-
  refine vV (fh h1 (fun us s2 z=>?_) fun _ _ y=>y)
  obtain ⟨vs,H1,I1,r,hl,q1⟩:=z
  exact ⟨rfl,by rw [<- r.length]; exact hl,I1.bk _ _ hC,hN.keeps I1.bk,T.keeps I1.bk,fun h' e hm=>hb.raises I1 hm q1⟩
end
section
variable {X:Cx} {pins:List (ae×Obj)} {σ:St} {H:Hp} {s:ax} {T:ae->St->Hp->Prop}
def tQ (X:Cx) (pins:List (ae×Obj)) (H:Hp) (B h:cR):Prop:=
  ∀ b o,(H b≠none\/(b∉X.ex/\∃ o',X.s₀.heap.get? b=some o')\/∃ p∈X.pn++pins,p.1=b)->b∉frs X.stack->h.get? b=some o->B.get? b=some o
def tryW (X:Cx) (pins:List (ae×Obj)) (T:ae->St->Hp->Prop):af->ax->Prop:=fun e s' =>
  ∃ ea C B σ H,e=.ref ea/\Inv X pins σ H s'/\Fly B X.stack ea C s'.heap/\tQ X pins H B s'.heap/\T C σ H
abbrev Cx.tr (X:Cx) (pins:List (ae×Obj)) (T:ae->St->Hp->Prop):Cx:={X with xe:=tryW X pins T,pn:=X.pn++pins}
theorem Inv.tr (I:Inv X pins σ H s) (T:ae->St->Hp->Prop):Inv (X.tr pins T) [] σ H s:=
  ⟨⟨I.ok.mod,I.ok.kind,I.ok.glob,I.ok.blt,I.ok.above,I.ok.inj,I.ok.has,I.ok.cab,I.ok.hd,I.ok.frames,I.ok.stk,I.ok.exf,I.ok.bs,I.ok.bsz,I.ok.noex,I.ok.exfs,I.ok.funs,I.ok.frf⟩,I.os,I.bare,I.base,I.loc,I.cell,I.free,I.freeC,
    fun p hp=>I.pin p (by simpa using hp),I.hok,I.len⟩
theorem Inv.untr {pins':List (ae×Obj)} (I:Inv (X.tr pins T) pins' σ H s):Inv X pins σ H s:=
  ⟨⟨I.ok.mod,I.ok.kind,I.ok.glob,I.ok.blt,I.ok.above,I.ok.inj,I.ok.has,I.ok.cab,I.ok.hd,I.ok.frames,I.ok.stk,I.ok.exf,I.ok.bs,I.ok.bsz,I.ok.noex,I.ok.exfs,I.ok.funs,I.ok.frf⟩,I.os,I.bare,I.base,I.loc,I.cell,I.free,I.freeC,
    fun p hp=>I.pin p (dC _ hp),I.hok,I.len⟩
theorem xn {h h':cR} {c:ae} {v:Option af} (x:h.IsCell c v) (sm:h.UpToSlots h'):h'.IsCell c v:=by
  obtain ⟨o,ho,hd⟩:=x
  obtain ⟨sl,e⟩:=sm c o ho (fun vs q=>by rw [hd] at q; cases q)
  exact ⟨_,e,hd⟩
theorem Inv.landed {B h':cR} (I:Inv X pins σ H s) (hB:B.StaysIn h') (cov:tQ X pins H B s.heap) (sm:s.heap.UpToSlots h'):Inv X pins σ H {s with heap:=h'}:=by
  refine ⟨I.ok,I.os,I.bare,⟨fun b o e n hb hx=>?_,fun b o e n hb hx=>?_,I.base.free,fun b o e hx=>?_,I.base.tups,I.base.frzs,I.base.tbls⟩,?_,fun x c e=>?_,I.free,I.freeC,fun p hp=>?_,I.hok.left hB (fun b o n e=>cov b o (.inl n) (I.ntr b n) e),I.len⟩
  · exact hB b o (cov b o (.inr (.inl ⟨hx,o,e⟩)) (fun z=>hb (I.oldfs b o e z)) (I.base.keep b o e n hb hx))
  · obtain ⟨s1,e1⟩:=I.base.slot b o e n hb hx
    obtain ⟨s2,e2⟩:=I.slotsOf sm b hb _ e1
    exact ⟨s2,e2⟩
  · obtain ⟨o',e'⟩:=I.base.there b o e hx
    by_cases hb:b∈frs X.stack
    · obtain ⟨s2,e2⟩:=I.slotsOf sm b (I.oldfs b o e hb) _ e'
      exact ⟨_,e2⟩
    · exact ⟨o',hB b o' (cov b o' (.inr (.inl ⟨hx,o,e⟩)) hb e')⟩
  · obtain ⟨m,hn,hl⟩:=I.loc
    refine ⟨m,sm.ns hn,fun i x v e1 e2 e3=>?_⟩
    obtain ⟨u,r,l⟩:=hl i x v e1 e2 e3
    refine ⟨u,r,?_⟩
    rcases l with l | ⟨k,c,e,l⟩
    · exact .inl l
    · exact .inr ⟨k,c,e,xn l sm⟩
  · obtain ⟨v,q⟩:=I.cell x c e
    exact ⟨v,xn q sm⟩
  · obtain ⟨e,n,l,f,d⟩:=I.pin p hp
    exact ⟨hB _ _ (cov p.1 p.2 (.inr (.inr ⟨p,hp,rfl⟩)) (fun z=>(az.mp (I.stkSub _ z)).elim l f) e),n,l,f,d⟩
theorem tQ.land {B h':cR} (I:Inv X pins σ H s) (hB:B.StaysIn h') (cov:tQ X pins H B s.heap):tQ X pins H B h':=fun b o c n e=>by
  obtain ⟨o1,e1⟩:∃ o1,s.heap.get? b=some o1:=by
    rcases c with c | ⟨hx,o',c⟩ | ⟨p,hp,rfl⟩
    · exact I.hok.has c
    · exact I.base.there b o' c hx
    · exact ⟨_,(I.pin p hp).1⟩
  have e2:=hB b o1 (cov b o1 c n e1)
  rw [e] at e2
  cases e2
  exact cov b _ c n e1
abbrev Cx.hdl (X:Cx) (ea:ae):Cx:={X with A:=X.A.mark (some (.ref ea)),calm:=false,xe:=fun _ _=>False}
theorem Inv.hdl (I:Inv X pins σ H s) (ea:ae):Inv (X.hdl ea) pins σ H s:=
  ⟨⟨I.ok.mod,I.ok.kind,I.ok.glob,I.ok.blt,I.ok.above,I.ok.inj,I.ok.has,I.ok.cab,fun z=>A0 z,I.ok.frames,I.ok.stk,I.ok.exf,I.ok.bs,I.ok.bsz,I.ok.noex,I.ok.exfs,I.ok.funs,I.ok.frf⟩,I.os,I.bare,I.base,I.loc,I.cell,I.free,I.freeC,
    I.pin,I.hok,I.len⟩
theorem Inv.unhdl {ea:ae} (ok:X.Ok) (I:Inv (X.hdl ea) pins σ H s):Inv X pins σ H s:=⟨ok,I.os,I.bare,I.base,I.loc,I.cell,I.free,I.freeC,I.pin,I.hok,I.len⟩
abbrev TH:=ae->TS
def PHs (X:Cx) (hs:List p9) (th:TH):Prop:=
  ∀ (pins:List (ae×Obj)) (s:ax) (σ:St) (H:Hp) (D:lB) (ea C:ae) (B:cR),Inv X pins σ H s->Fly B X.stack ea C s.heap->tQ X pins H B s.heap->th C D σ H ->
    b8 (cm X.prog X.w) X.A (handleBy (.ref ea) X.env hs) (SP X pins D) X.xe s
def thNil:TH:=fun _ _ _ _=>False
theorem xo:PHs X [] thNil:=fun _ _ _ _ _ _ _ _ _ _ _ h=>h.elim
def tTry (T:ae->St->Hp->Prop) (tb:TS) (th:TH):TS:=fun D σ H=>tb D σ H/\∀ C σ' H',σ'.length=σ.length->T C σ' H'->th C D σ' H'
theorem zI {body:List dU} {h₀:p9} {hs:List p9} {pos:Pos} {tb:TS} {th:TH} (T:ae->St->Hp->Prop) (hb:∀ pins,PSs (X.tr pins T) body tb) (hh:PHs X (h₀ :: hs) th)
    (hst:X.stack=X.env :: X.outer:=by rfl) (hfr:X.env.frame=some X.env.locals:=by rfl):PS X (.Try body (h₀ :: hs) [] [] pos) (tTry T tb th):=by
  intro pins s σ H D I h
  obtain ⟨h1,h2⟩:=h
  refine wpAny_Try_except (fh (hb pins [] s σ H D (I.tr T) h1) (fun f s1 q=>?_) (fun e s1 q=>?_))
  · cases f with
    | next=>obtain ⟨σ',H',J,q⟩:=q; exact kT ⟨σ',H',J.untr,q⟩
    | ret v=>obtain ⟨v,σ',H',J,r,q⟩:=q; exact ⟨v,σ',H',J.untr,r,q⟩
    | brk=>obtain ⟨σ',H',J,q⟩:=q; exact ⟨σ',H',J.untr,q⟩
    | cont=>obtain ⟨σ',H',J,q⟩:=q; exact ⟨σ',H',J.untr,q⟩
  · obtain ⟨ea,C,B,σ',H',rfl,J,fl,cov,t⟩:=q
    have fl1:FlD B (X.env :: X.outer) ea (.ref C) .none s1.heap:=by
      rw [<- hst]
      exact fl
    refine xm (by rw [J.ok.frames,hst]) hfr fl1 fun h4 x4 s4=>?_
    refine oB x4 fun h5 fl5 s5=>?_
    have J5:=J.landed fl5.1 cov (s4.trans s5)
    rw [<- hst] at fl5
    exact hh pins _ σ' H' D ea C B J5 fl5 (tQ.land J fl5.1 cov) (h2 C σ' H' (by rw [J.len,I.len]) t)
def xp (CX:CXT) (X:Cx) (E:St->XK):Prop:=∀ (pins:List (ae×Obj)) (σ:St) (H:Hp) (s:ax) (e:af) (s':ax),Inv X pins σ H s->CX X.stack H s (E σ) e s'->X.xe e s'
def tryE (T:ae->St->Hp->Prop):St->XK:=fun σ c _ H=>∃ C,c=.ref C/\T C σ H
theorem qL:xp (CXo X.prog X.w) (X.tr pins T) (tryE T):=fun pins' σ H s e s' I h=>by
  obtain ⟨ea,C,H',B,rfl,⟨C',hC,q⟩,os,bare,un,hok,fl,cov⟩:=h
  cases hC
  have J:Inv (X.tr pins T) pins' σ H' s':=I.call' (ch:=[]) os un hok bare (fun b z=>absurd z (by simp))
  refine ⟨ea,C,B,σ,H',rfl,J.untr,fl,fun b o c n e=>cov b o ?_ n e,q⟩
  rcases c with c | ⟨c1,o',c2⟩ | ⟨p,hp,rfl⟩
  · exact .inl c
  · exact .inr (I.base.there b o' c2 c1)
  · exact .inr ⟨_,(I.pin p (dC _ hp)).1⟩
def DR (sp:Sp) (E:St->XK) (t:TA):TE:=fun σ H Q=>t σ H fun vs H1=>sp vs H1 Q (E σ)
variable {CX:CXT} {k:Nat} {f:ae} {fd:cH} {ps:List Str} {sp:Sp} {E:St->XK} {x:Str} {p pos:Pos} {e:cZ} {es:List cZ} {t:TA}
theorem uL (F:bZ X.prog X.w X.K X.mg X.base CX k f fd ps sp) (hr:eN k X.A) (hg:Gl X x) (hm:X.mg x=some (.ref f)) (hk:aC X.K (.ref f)=true) (hb:Binds X.K fd ps []) (hx:xp CX X E) (ha:PA X (e :: es) t)
    (hdb:(x == ("__debug__":Str))=false:=by decide) (he:cW (e :: es) X.env=(false,gj e X.env) :: cW es X.env:=by rfl) (hpl:(jP pos (cW es X.env)).any (·.1)=false:=by rfl) :
    PE X (.Call (.Name x p) (e :: es) [] pos) (DR sp E t):=by
  intro pins s σ H Q I h
  refine js (m5 I hg hm ?_ hdb)
  refine ka (h₀:=X.base) I.ok.mod.kin hk (thn (ha pos pins s σ H _ I h) fun us s1 z=>?_) he hpl
  obtain ⟨vs,H1,I1,r,q⟩:=z
  refine ⟨I1.kIn,?_⟩
  have hl:(us++[]).length=ps.length:=by
    rw [dj,<- r.length]
    exact F.len _ _ _ _ q
  have hb1:=hb s1 us I1.kIn hl
  rw [dj] at hb1
  refine qD (nY (F.run X.A X.stack s1 H1 ⟨us,[]⟩ us vs Q (E σ) hr I1.env0 hb1 r q) fun r s' hq=>?_)
  cases r with
  | error e=>exact hx pins σ H1 s1 e s' I1 hq
  | ok fl =>
    cases fl with
    | ret u=>exact I1.after hq
    | next=>exact dX hq
    | brk=>exact dX hq
    | cont=>exact dX hq
end
theorem Fun.okX {P:aX} {w:cz} {K:aj} {mg:Str->Option af} {base:cR} {x qual:Str} {st:dU} {f:ae} {fd:cH} {N ps:List Str} {k:Nat} {sp:Sp} (F:Fun K x qual st f fd) (S:cD N ps (aB st)) (len:∀ vs H Q E,sp vs H Q E->vs.length=ps.length)
    (hbody:∀ (cdv:af) (A:cO) (outer:List Env) (s:ax) (H:Hp) (vs:List V) (Q:VK) (E:XK),eN k (A.deeper (o5 qual (aB st) s.heap.objs.size f cdv))->sp vs H Q E ->
      ∃ t,PSs (uE (CXo P w) P w K mg base N qual (aB st) f cdv A outer s H E) (cq st) t/\t {nx:=fun _ H'=>Q .non H',rt:=Q} (start N vs) H):bZ P w K mg base (CXo P w) (k + 1) f fd ps sp:=by
  obtain ⟨oc,od,kV,doc,pm,an,cdv,ct,osl,rfl,lk,hcd⟩:=F.ex
  exact Cw lk hcd S len fun A outer s H vs Q E hr hsp=>hbody cdv A outer s H vs Q E hr hsp
end L2
namespace L2
open PySem PySem.Spec PyProof.Rows
theorem tR {prog:aX} {w:cz} {A:cO} {R:Dw->ax->Prop} {s:ax} {elt target iter:cZ} {ifs:List cZ} {scope:lA} {pos:Pos} {it acc:af} {env:Env} (J:Nat->ax->Prop)
    (turn:∀ n s,J n s->b8 (cm prog w) A (pyNext it) (fun r s1=>match r with
      | none=>R (.ok .next) s1
      | some v=>b8 (cm prog w) A (om target it v) (fun _ s2=>b8 (cm prog w) A (tI target env v) (fun _ s3 =>
          b8 (cm prog w) A (forIn ifs true fun c r=>if r=true then do let ok <- zi c env (gj c env); pure (ForInStep.yield ok) else pure (ForInStep.yield r)) (fun ok s4 =>
            if ok=true then b8 (cm prog w) A (gj elt env) (fun x s5=>b8 (cm prog w) A (A9 (.builtin "list.append") [acc,x]) (fun _ s6=>∃ m,m < n/\J m s6) (fun _ _=>False) s5) (fun _ _=>False) s4
            else ∃ m,m < n/\J m s4) (fun _ _=>False) s3) (fun _ _=>False) s2) (fun _ _=>False) s1) (fun _ _=>False) s)
    (n:Nat) (h:J n s):nX (cm prog w) A (.compLoop (.ListComp elt [⟨target,iter,ifs,0⟩] scope pos) 0 it acc env) R s:=by
  refine codeAny_loop rfl J (fun n s hI=>?_) n h
  show b8 _ A ((compTurn (.ListComp elt [⟨target,iter,ifs,0⟩] scope pos) 0 it acc env).onRaise
    (fun x=>do zd x env; theTreesLotGoes x)) _ _ s
  refine wpAny_noted ?_
  rw [compTurn_list]
  refine aF (yg (aF (fh (turn n s hI) (fun r s1 h1=>?_) fun _ _ z=>z.elim)))
  cases r with
  | none=>exact cg h1
  | some v =>
    refine aF (fh h1 (fun _ s2 h2=>?_) fun _ _ z=>z.elim)
    refine aF (fh h2 (fun _ s3 h3=>?_) fun _ _ z=>z.elim)
    refine aF (fh h3 (fun ok s4 h4=>?_) fun _ _ z=>z.elim)
    cases ok with
    | false=>exact cg ⟨rfl,h4⟩
    | true =>
      refine aF (aF (fh h4 (fun x s5 h5=>?_) fun _ _ z=>z.elim))
      exact aF (fh h5 (fun _ s6 h6=>cg (cg ⟨rfl,h6⟩)) fun _ _ z=>z.elim)
theorem uM {env:Env}:∀ {names:List (Str×jS)} {x:Str},
    (names.map fun (n,k)=>if (k == NameKind.free && env.scope.kind == .function && env.kindOf n == some .cell) then (n,NameKind.cell) else (n,k)).lookup x=some .local->names.lookup x=some .local
  | [],_,h=>by simp at h
  | (n,k) :: r,x,h=>by
    have ih:=@uM env r x
    rw [dN] at h
    dsimp only at h
    by_cases hc:(k == NameKind.free && env.scope.kind == .function && env.kindOf n == some .cell)=true
    · rw [if_pos hc] at h
      cases hx:x == n with
      | true=>simp [cL,hx] at h
      | false =>
        simp only [cL,hx] at h |-
        exact ih h
    · rw [if_neg hc] at h
      cases hx:x == n with
      | true =>
        simp only [cL,hx] at h |-
        exact h
      | false =>
        simp only [cL,hx] at h |-
        exact ih h
theorem tS {env:Env}:∀ {names:List (Str×jS)} {x:Str},
    ((names.map fun (n,k)=>if (k == NameKind.free && env.scope.kind == .function && env.kindOf n == some .cell) then (n,NameKind.cell) else (n,k)).lookup x=some .cell \/
     (names.map fun (n,k)=>if (k == NameKind.free && env.scope.kind == .function && env.kindOf n == some .cell) then (n,NameKind.cell) else (n,k)).lookup x=some .free)->names.lookup x=some .cell\/names.lookup x=some .free
  | [],_,h=>by simp at h
  | (n,k) :: r,x,h=>by
    have ih:=@tS env r x
    rw [dN] at h
    dsimp only at h
    by_cases hc:(k == NameKind.free && env.scope.kind == .function && env.kindOf n == some .cell)=true
    · rw [if_pos hc] at h
      have hk:k=.free:=by
        have z:=(nP.mp (nP.mp hc).1).1
        exact eq_of_beq z
      cases hx:x == n with
      | true =>
        simp only [cL,hx]
        rw [hk]
        exact .inr rfl
      | false =>
        simp only [cL,hx] at h |-
        exact ih h
    · rw [if_neg hc] at h
      cases hx:x == n with
      | true =>
        simp only [cL,hx] at h |-
        exact h
      | false =>
        simp only [cL,hx] at h |-
        exact ih h
def mU (env:Env):List (Str×jS)->List (Str×ae)->List (Str×ae)
  | [],cs=>cs
  | (n,k) :: r,cs=>mU env r (if k=.free then (match env.cells.lookup n with | some c=>(n,c) :: cs | none=>cs) else cs)
theorem uN {env:Env}:∀ (names:List (Str×jS)) (cs:List (Str×ae)),(∀ y∈names,y.2=.free->∃ c,env.cells.lookup y.1=some c) ->
    (forIn names cs fun x r=>(do
      if (x.2 == NameKind.free)=true then do
        let c <- cellOf env x.1
        pure (ForInStep.yield ((x.1,c) :: r))
      else pure (ForInStep.yield r):Sem (ForInStep (List (Str×ae)))))=(pure (mU env names cs):Sem (List (Str×ae)))
  | [],cs,_=>rfl
  | (n,k) :: r,cs,h=>by
    have ih:=fun cs'=>uN r cs' (fun y hy=>h y (aa _ hy))
    rw [List.forIn_cons]
    by_cases hk:k=.free
    · subst hk
      obtain ⟨c,hc⟩:=h _ aA rfl
      have e1:cellOf env n=pure c:=by
        unfold cellOf
        rw [show env.cells.lookup n=some c from hc]
      have e2:mU env ((n,.free) :: r) cs=mU env r ((n,c) :: cs):=by
        show mU env r (if NameKind.free=.free then (match env.cells.lookup n with | some c=>(n,c) :: cs | none=>cs) else cs)=_
        rw [if_pos rfl,show env.cells.lookup n=some c from hc]
      rw [e2,<- ih]
      simp [e1]
    · have e2:mU env ((n,k) :: r) cs=mU env r cs:=by
        show mU env r (if k=.free then _ else cs)=_
        rw [if_neg hk]
      rw [e2,<- ih]
      have e3:(k == NameKind.free)=false:=by
        cases k <;> first | rfl | exact absurd rfl hk
      simp [e3]
theorem uO {env:Env}:∀ {names:List (Str×jS)} {cs:List (Str×ae)} {n:Str} {c:ae},(∀ n c,cs.lookup n=some c->env.cells.lookup n=some c)->(mU env names cs).lookup n=some c->env.cells.lookup n=some c
  | [],_,_,_,h,e=>h _ _ e
  | (m,k) :: r,cs,n,c,h,e=>by
    refine uO (names:=r) (fun n' c' e'=>?_) e
    by_cases hk:k=.free
    · rw [if_pos hk] at e'
      cases hm:env.cells.lookup m with
      | none =>
        rw [hm] at e'
        exact h _ _ e'
      | some d =>
        rw [hm] at e'
        dsimp only at e'
        rw [cL] at e'
        split at e'
        · rename_i z
          rw [eq_of_beq z,hm]
          exact e'
        · exact h _ _ e'
    · rw [if_neg hk] at e'
      exact h _ _ e'
theorem sM {env:Env}:∀ (names:List (Str×jS)) (cs:List (Str×ae)) (n:Str),(∃ c,cs.lookup n=some c)->∃ c,(mU env names cs).lookup n=some c
  | [],_,_,h=>h
  | (m,k) :: r,cs,n,h=>by
    refine sM r _ n ?_
    by_cases hk:k=.free
    · rw [if_pos hk]
      cases hm:env.cells.lookup m with
      | none=>exact h
      | some d =>
        dsimp only
        rw [cL]
        split
        · exact ⟨_,rfl⟩
        · exact h
    · rw [if_neg hk]
      exact h
theorem uP {env:Env}:∀ {names:List (Str×jS)} {cs:List (Str×ae)} {n:Str},(n,NameKind.free)∈names->(∃ c,env.cells.lookup n=some c)->∃ c,(mU env names cs).lookup n=some c
  | [],_,_,h,_=>by cases h
  | (m,k) :: r,cs,n,h,hc=>by
    rcases az.mp h with e | e
    · obtain ⟨e1,e2⟩:=Prod.mk.inj e
      subst e1 e2
      obtain ⟨c,hc⟩:=hc
      refine sM r _ n ⟨c,?_⟩
      rw [if_pos rfl,hc]
      dsimp only
      rw [cL,beq_self_eq_true]
    · exact uP (names:=r) e hc
structure iP (X:Cx) (scope:lA) (NN:List Str):Prop where
  nocell:∀ y∈scope.names,y.2≠.cell
  kind:scope.kind=.function
  names:∀ y∈scope.names,y.2=.local->scope.names.lookup y.1=some .local
  far:∀ y∈scope.names,y.2=.free->X.env.kindOf y.1=some .cell\/X.env.kindOf y.1=some .free
  len:NN.length=X.N.length
  apart:∀ (i:Nat) (n:Str),NN[i]?=some n->scope.names.lookup n≠some .local/\(X.N[i]?=some n\/scope.names.lookup n=none)
theorem iP.closed {X:Cx} {scope:lA} (hf:∀ y∈scope.names,y.2≠.free) (hc:∀ y∈scope.names,y.2≠.cell) (hk:scope.kind=.function) (hn:∀ y∈scope.names,y.2=.local->scope.names.lookup y.1=some .local)
    (ha:∀ n∈X.N,scope.names.lookup n≠some .local):iP X scope X.N where
  nocell:=hc
  kind:=hk
  names:=hn
  far:=fun y hy e=>absurd e (hf y hy)
  len:=rfl
  apart:=fun i n e=>⟨ha n (cy e),.inl e⟩
theorem iP.open {X:Cx} {scope:lA} {NN N:List Str} {sc:lA} (hN:X.N=N) (hsc:X.env.scope=sc) (hc:∀ y∈scope.names,y.2≠.cell) (hk:scope.kind=.function) (hn:∀ y∈scope.names,y.2=.local->scope.names.lookup y.1=some .local)
    (hf:∀ y∈scope.names,y.2=.free->sc.names.lookup y.1=some .cell) (hl:NN.length=N.length) (ha:∀ p∈NN.zip N,scope.names.lookup p.1≠some .local/\(p.2=p.1\/scope.names.lookup p.1=none)):iP X scope NN where
  nocell:=hc
  kind:=hk
  names:=hn
  far:=fun y hy e=>.inl (by have z:=hf y hy e; rw [<- hsc] at z; exact z)
  len:=by rw [hN]; exact hl
  apart:=fun i n e=>by
    have lt:i < N.length:=by rw [<- hl]; exact (aL.mp e).1
    have e2:N[i]?=some N[i]:=cC lt
    have z:=ha (n,N[i]) (cy (i:=i) (by rw [List.getElem?_zip_eq_some]; exact ⟨e,e2⟩))
    refine ⟨z.1,?_⟩
    rcases z.2 with z | z
    · left
      rw [hN,e2]
      exact congrArg some z
    · exact .inr z
abbrev cxC (X:Cx) (scope:lA) (NL:List Str) (fp:List ae) (s₂:ax) (H₂:Hp) (C:ae):Cx:=
  {X with N:=NL,s₀:=s₂,H₀:=H₂,env:=compEnvC scope (mU X.env scope.names []) C X.env,outer:=X.stack,ex:=fp,fn:=fun _=>false,pn:=[],xe:=fun _ _=>False}
def PTs (X:Cx) (ifs:List cZ) (t:TT):Prop:=
  ∀ (pins:List (ae×Obj)) (s:ax) (σ:St) (H:Hp) (Q:Bool->Hp->Prop),Inv X pins σ H s->t σ H Q ->
    b8 (cm X.prog X.w) X.A (forIn ifs true fun c r=>if r=true then do let ok <- zi c X.env (gj c X.env); pure (ForInStep.yield ok) else pure (ForInStep.yield r)) (TP X pins σ Q) X.xe s
def wy:TT:=fun _ H Q=>Q true H
theorem m7 {X:Cx}:PTs X [] wy:=fun pins s σ H Q I h=>wpAny_tests_nil ⟨H,I,h⟩
theorem xq {X:Cx} {c:cZ} {t:TT} (h:PT X c t):PTs X [c] t:=fun pins s σ H Q I q=>wpAny_tests_one (h pins s σ H Q I q)
def qM (n:Nat) (wi:TI) (g:TG) (tc:TT) (te:TE):TE:=fun σ H Q=>wi σ H fun J H1=>∃ W:Nat->Nat->List V->Hp->Prop,(∃ m,W 0 m [] H1)/\∀ i m ys H,W i m ys H->ys.length < aE /\
  ((J.stop i H/\∀ p,H p=none->Q (.ref p) (upd H p (.lst ys))) \/
   (J.go i H/\∃ N:List V->Hp->Prop,(∀ ys' H',N ys' H'->∃ m',m' < m/\W (i + 1) m' ys' H')/\∀ x H',J.yld i H x H'->g x (cV n none++σ) H' fun σ2 H2=>σ2.drop n=σ/\tc σ2 H2 fun b H3 =>
      if b=true then te σ2 H3 fun y H4=>N (ys++[y]) H4 else N ys H3))
section
variable {X:Cx}
theorem uQ {σ σ2:St} {n:Nat} (h:σ2.drop n=σ) (i:Nat) (v:V) (e:(cV n none++σ)[i]?=some (some v)):σ2[i]?=some (some v):=by
  by_cases hi:i < n
  · rw [gA (by simpa using hi),lU,if_pos hi] at e
    cases e
  · rw [e9 (by simpa using hi),jL] at e
    rw [<- h,List.getElem?_drop] at e
    rw [show n + (i - n)=i by omega] at e
    exact e
theorem uR {elt target iter:cZ} {ifs:List cZ} {scope:lA} {NN:List Str} {pos pos':Pos} {wi:TI} {g:TG} {tc:TT} {te:TE} {use:Option (af->Sem Unit)} {Qv:af->ax->Prop} (own:List Str) (ok:iP X scope NN) (hc:X.calm=true) (hi:PI X target iter wi)
    (hg:∀ fp s₂ H₂ C,PG (cxC X scope (own++NN) fp s₂ H₂ C) target g) (ht:∀ fp s₂ H₂ C,PTs (cxC X scope (own++NN) fp s₂ H₂ C) ifs tc) (he:∀ fp s₂ H₂ C,PE (cxC X scope (own++NN) fp s₂ H₂ C) elt te)
    (hs:∀ x,mr iter X.env x=pure x) {pins:List (ae×Obj)} {s:ax} {σ:St} {H:Hp} {Q:VK} (I:Inv X pins σ H s) (h:qM own.length wi g tc te σ H Q)
    (hfin:∀ (s4:ax) (C D:ae) (H':Hp) (m:Str->Option af),s4.heap.Ns C m->Inv X pins σ H' s4->H' C=none->C≠X.env.locals->X.s₀.heap.objs.size<=C->(∀ x c,X.env.cells.lookup x=some c->c≠C)->(∀ p∈X.pn++pins,p.1≠C)->Q (.ref D) H' ->
      compPost (cm X.prog X.w) X.A X.xe use Qv (.ref D) C (.ok .next) s4) :
    b8 (cm X.prog X.w) X.A (comprehension (.ListComp elt [⟨target,iter,ifs,0⟩] scope pos) scope X.env pos' (newList []) false (gj iter X.env) use) Qv X.xe s:=by
  have hfr:∀ y∈scope.names,y.2=.free->∃ c,X.env.cells.lookup y.1=some c:=fun y hy e=>I.ok.has _ (ok.far y hy e)
  have okclos:closureFor scope X.env=pure (mU X.env scope.names []):=by
    unfold closureFor
    rw [<- uN scope.names [] hfr]
    simp
  have oksub:∀ n c,(mU X.env scope.names []).lookup n=some c->X.env.cells.lookup n=some c:=fun n c e=>uO (fun n c e=>by simp at e) e
  have okfar:∀ n,(scope.names.lookup n=some .cell\/scope.names.lookup n=some .free)->(∃ c,(mU X.env scope.names []).lookup n=some c)/\(X.env.kindOf n=some .cell\/X.env.kindOf n=some .free):=fun n e=>by
    rcases e with e | e
    · exact absurd rfl (ok.nocell _ (fJ e))
    · have m:=fJ e
      exact ⟨uP m (hfr _ m rfl),ok.far _ m rfl⟩
  refine wpAny_comprehension_free (use:=use) rfl hs okclos ok.kind ok.names (thn (hi pins s σ H _ I h) fun xv s1 h1=>thn h1 fun itv s2 h2=>?_)
  obtain ⟨it,fp,tn,J,H2,e,I2,T,st2,f2,W,⟨m0,w0⟩,turn⟩:=h2
  subst e
  have fpLt:∀ b∈fp,b < s2.heap.objs.size:=fun b hb=>by
    obtain ⟨o,e,_⟩:=T.obj _ _ st2 b hb
    exact bO e
  refine E3 (wpAny_newFunctionEnv ok.nocell (by intro y hy; simp at hy) (fun h1 hns hsb=>?_) ok.kind)
  dsimp only at hns hsb |-
  generalize hP:s2.heap.push {cls:=.type "list",dict:=none,data:=.seq ([]:List af).toArray}=P at hns hsb |-
  have hC:P.objs.size=s2.heap.objs.size + 1:=by rw [<- hP,rY]
  have hDC:s2.heap.objs.size≠P.objs.size:=by rw [hC]; exact cA (lZ _)
  have leC:s2.heap.objs.size<=P.objs.size:=by rw [hC]; exact lI _
  have old:∀ b o,s2.heap.get? b=some o->h1.get? b=some o:=fun b o e =>
    hsb.extBut b o (by rw [hC]; exact cA (A1 (bO e))) (aU _ (hP ▸ aU _ e))
  have accAt:h1.get? s2.heap.objs.size=some {cls:=.type "list",data:=.seq ([]:List af).toArray 0}:=hsb.extBut _ _ hDC (aU _ (hP ▸ cQ _ rfl))
  -- the block's context is well made
  have okC:(cxC X scope (own++NN) fp s2 H2 P.objs.size).Ok:=by
    refine ⟨I.ok.mod,ok.kind,I.ok.glob,I.ok.blt,by show s2.heap.objs.size<=P.objs.size; omega,fun y z c a b=>I.ok.inj y z c (oksub _ _ a) (oksub _ _ b),fun y hy=>(okfar y (tS hy)).1,fun y c z _=>A0 z,I.ok.hd,I.ok.frames,.inl rfl,
      fun b hb=>⟨fun z=>?_,fun y c e=>(f2 b hb).2.2.2.2.1 y c (oksub _ _ e)⟩,I2.bs,cU I.ok.bsz I2.sz,fun b o e hb=>?_,fun b hb z=>?_,I2.stack,I2.stkFree⟩
    · exact cA (bP (fpLt b hb) leC) z
    · rcases (f2 b hb).2.2.2.1 with q | q
      · exact I.ok.noex b o e q
      · exact absurd (bP (bO e) (cU I.ok.bsz q)) (ij _)
    · rcases az.mp (I2.stkSub b z) with q | q
      · exact (f2 b hb).2.1 q
      · exact (f2 b hb).2.2.1 q
  have fpOk:∀ {H':Hp} {o:Obj},(∀ b∈fp,H' b=none)->∀ b∈fp,vI (cxC X scope (own++NN) fp s2 H2 P.objs.size) [(s2.heap.objs.size,o)] H' b:=fun {H' o} hn b hb=>by
    have lt:=fpLt b hb
    refine ⟨hn b hb,fun z=>?_,fun z=>okC.exfs b hb z,.inl hb,fun y c e=>(okC.exf b hb).2 y c e,fun p hp z=>?_⟩
    · exact cA (bP lt leC) z
    · have hp':p=(s2.heap.objs.size,o):=by simpa using hp
      subst hp'
      exact cA lt (Eq.symm z)
  have cellNe:∀ y c,(mU X.env scope.names []).lookup y=some c->c < s2.heap.objs.size:=fun y c e=>by
    obtain ⟨v,q⟩:=I2.cell y c (oksub _ _ e)
    exact q.lt
  have start:Inv (cxC X scope (own++NN) fp s2 H2 P.objs.size) [] (cV own.length none++σ) H2 {s2 with heap:=h1,toks:=s2.toks + ([]:List (Str×af)).length}:=by
    refine ⟨okC,rfl,I2.bare,Un.kept old,⟨_,hns,fun i y v e1 e2 e3=>?_⟩,fun y c e=>?_,I2.hok.fresh (by show s2.heap.objs.size<=P.objs.size; omega),fun y c e=>I2.freeC y c (oksub _ _ e),fun p hp=>absurd (show p∈([]:List (ae×Obj)) from by simpa using hp) (by simp),I2.hok.kept old,?_⟩
    · by_cases hi:i < own.length
      · rw [gA (by simpa using hi),lU,if_pos hi] at e2
        cases e2
      · have e1n:NN[i - own.length]?=some y:=by
          have z:(own++NN)[i]?=some y:=e1
          rw [e9 (by omega)] at z
          exact z
        rw [e9 (by simpa using hi),jL] at e2
        obtain ⟨ap1,ap2⟩:=ok.apart _ y e1n
        rcases e3 with e3 | e3
        · exact absurd (uM e3) ap1
        · obtain ⟨⟨c,hcl⟩,kc⟩:=okfar y (tS e3)
          have e1':X.N[i - own.length]?=some y:=by
            rcases ap2 with z | z
            · exact z
            · rcases tS e3 with q | q <;> (rw [z] at q; cases q)
          obtain ⟨m,hn,hl⟩:=I2.loc
          obtain ⟨u,r,l⟩:=hl (i - own.length) y v e1' e2 (.inr kc)
          refine ⟨u,r,.inr ⟨e3,c,hcl,?_⟩⟩
          rcases l with ⟨l,_⟩ | ⟨_,c',e',q⟩
          · rcases kc with kc | kc <;> (rw [l] at kc; cases kc)
          · rw [oksub _ _ hcl] at e'
            cases e'
            exact q.keeps old
    · obtain ⟨v,q⟩:=I2.cell y c (oksub _ _ e)
      exact ⟨v,q.keeps old⟩
    · show (cV own.length none++σ).length=(own++NN).length
      rw [ay,ay,jL,I2.len,ok.len]
  have nDC:s2.heap.objs.size≠P.objs.size:=hDC
  have nDf:s2.heap.objs.size∉frs X.stack:=fun z=>by
    rcases az.mp (I2.stkSub _ z) with q | q
    · exact cA I2.lt (Eq.symm q)
    · exact I2.nofs (aS _) q
  have loop:∀ s₃:ax,s₃={s2 with heap:=h1,toks:=s2.toks + ([]:List (Str×af)).length} ->
      nX (cm X.prog X.w) X.A (.compLoop (.ListComp elt [⟨target,iter,ifs,0⟩] scope pos) 0 (.ref it) (.ref s2.heap.objs.size) (compEnvC scope (mU X.env scope.names []) P.objs.size X.env))
        (compPost (cm X.prog X.w) X.A X.xe use Qv (.ref s2.heap.objs.size) P.objs.size) s₃:=by
    rintro s₃ rfl
    refine tR (fun n s'=>∃ (i:Nat) (ys:List V) (H':Hp) (its:List af) (k:Nat),Inv (cxC X scope (own++NN) fp s2 H2 P.objs.size) [] (cV own.length none++σ) H' s'/\tn i s'.heap/\(∀ b∈fp,H' b=none)/\H' s2.heap.objs.size=none/\dQ ys its /\
      s'.heap.get? s2.heap.objs.size=some {cls:=.type "list",data:=.seq its.toArray k}/\W i n ys H') ?_ m0
      ⟨0,[],H2,[],0,start,T.keep _ _ _ st2 (fun b _ o e=>old b o e),fun b hb=>(f2 b hb).1,I2.hok.fresh (aS _),.nil,accAt,w0⟩
    rintro n s3 ⟨i,ys,H3,its,k,I3,st3,fr3,nD,rv,hD,w3⟩
    have Ip:Inv (cxC X scope (own++NN) fp s2 H2 P.objs.size) [(s2.heap.objs.size,{cls:=.type "list",data:=.seq its.toArray k})] (cV own.length none++σ) H3 s3:=I3.pins_of fun p hp=>by
      have hp':p=(s2.heap.objs.size,{cls:=.type "list",data:=.seq its.toArray k}):=by simpa using hp
      subst hp'
      exact ⟨hD,nD,nDC,nDf,fun v z=>by cases z⟩
    obtain ⟨hl,hw⟩:=turn i n ys H3 w3
    rcases hw with ⟨stop,fin⟩ | ⟨go,N,hN,step⟩
    · refine thn (T.done (cxC X scope (own++NN) fp s2 H2 P.objs.size) rfl rfl rfl hc i _ s3 _ H3 _ Ip (fpOk fr3) st3 stop) fun r s4 z=>?_
      obtain ⟨hr,I4⟩:=z
      subst hr
      obtain ⟨m,hn,_⟩:=I4.loc
      have hD4:s4.heap.get? s2.heap.objs.size=some {cls:=.type "list",data:=.seq its.toArray k}:=(I4.pin _ (bK _ aA)).1
      obtain ⟨h',eh'⟩:∃ h',h'=s4.heap:=⟨_,rfl⟩
      have sb':∀ b o,b≠P.objs.size->s4.heap.get? b=some o->h'.get? b=some o:=fun b o hb e=>by rw [eh']; exact e
      have oldNe:∀ b o,s2.heap.get? b=some o->b≠P.objs.size/\b≠s2.heap.objs.size:=fun b o e=>by
        have lt:=bO e
        exact ⟨cA (bP lt leC),cA lt⟩
      have trNe:∀ b u,H3 b=some u->b≠P.objs.size/\b≠s2.heap.objs.size:=fun b u e=>by
        refine ⟨fun z=>?_,fun z=>?_⟩
        · have q:H3 P.objs.size=none:=I4.free
          rw [<- z,e] at q
          cases q
        · rw [z,nD] at e
          cases e
      have un:Un (frs X.stack) fp H2 (upd H3 s2.heap.objs.size (.lst ys)) s2.heap h':=by
        have B:=I4.base
        refine ⟨fun b o e q hb hx=>sb' b o (oldNe b o e).1 (B.keep b o e q hb hx),fun b o e q hb hx=>?_,fun b o e q hx=>?_,fun b o e hx=>?_,fun b xs e=>?_,fun b o u e=>?_,fun b ps e=>?_⟩
        · obtain ⟨sl,e1⟩:=B.slot b o e q hb hx
          exact ⟨sl,sb' _ _ (oldNe b o e).1 e1⟩
        · rw [aY (oldNe b o e).2]
          exact B.free b o e q hx
        · obtain ⟨o',e1⟩:=B.there b o e hx
          exact ⟨o',sb' _ _ (oldNe b o e).1 e1⟩
        · have q:=B.tups b xs e
          rw [aY (trNe _ _ q).2]
          exact q
        · have q:=B.frzs b o u e
          rw [aY (trNe _ _ q).2]
          exact q
        · obtain ⟨more,q⟩:=B.tbls b ps e
          refine ⟨more,?_⟩
          rw [aY (trNe _ _ q).2]
          exact q
      have hok:HOk X.prog X.w (upd H3 s2.heap.objs.size (.lst ys)) h':=fun b u e=>by
        by_cases hb:b=s2.heap.objs.size
        · subst hb
          rw [ao] at e
          cases e
          exact ⟨kA hl,its,k,rv,sb' _ _ nDC hD4⟩
        · rw [aY hb] at e
          refine (I4.hok b u e).stay (fun c v hc q=>sb' c v ?_ q) (fun c q=>?_) fun c xs q=>?_
          · rcases hc with z | z
            · rw [z]
              exact (trNe _ _ e).1
            · exact (trNe _ _ z).1
          · rw [aY (trNe _ _ q).2]
            exact q
          · rw [aY (trNe _ _ q).2]
            exact q
      have J:=I2.call' (s':={s4 with heap:=h'}) (ch:=fp) I4.os un hok I4.bare fun b hb=>⟨(f2 b hb).2.2.2.1,(f2 b hb).2.1,(f2 b hb).2.2.2.2.1,(f2 b hb).2.2.2.2.2⟩
      subst eh'
      refine hfin s4 P.objs.size s2.heap.objs.size (upd H3 s2.heap.objs.size (.lst ys)) m hn J ?_ ?_ ?_ (fun y c e=>?_) (fun q hq=>?_) (fin _ nD)
      · rw [aY nDC.symm]
        exact I4.free
      · exact vJ (bP I2.lt leC)
      · exact cU I2.sz leC
      · obtain ⟨v,z⟩:=I2.cell y c e
        exact cA (bP z.lt leC)
      · exact cA (bP (bO (I2.pin q hq).1) leC)
    · refine thn (T.item (cxC X scope (own++NN) fp s2 H2 P.objs.size) rfl rfl rfl hc i _ s3 _ H3 _ Ip (fpOk fr3) st3 go) fun r s4 z=>?_
      obtain ⟨u,hr,h4⟩:=z
      subst hr
      refine thn h4 fun _ s5 z=>?_
      obtain ⟨x,H5,I5,r5,y5,st5,fr5⟩:=z
      have I5':=I5.pinned (fpOk fr5) (T.obj _ _ st5)
      refine thn (hg fp s2 H2 P.objs.size _ s5 _ H5 x u _ I5' r5 (step x H5 y5)) fun _ s6 z=>?_
      obtain ⟨σ6,H6,I6,hσ,q6⟩:=z
      refine thn (ht fp s2 H2 P.objs.size _ s6 σ6 H6 _ I6 q6) fun okb s7 z=>?_
      obtain ⟨H7,I7,q7⟩:=z
      have pinD:∀ {H8:Hp} {s8:ax},Inv (cxC X scope (own++NN) fp s2 H2 P.objs.size) ([(s2.heap.objs.size,{cls:=.type "list",data:=.seq its.toArray k})]++oW fp s5.heap) σ6 H8 s8 ->
          s8.heap.get? s2.heap.objs.size=some {cls:=.type "list",data:=.seq its.toArray k}/\H8 s2.heap.objs.size=none:=fun I8=>by
        have z:=I8.pin (s2.heap.objs.size,{cls:=.type "list",data:=.seq its.toArray k}) (bK _ (dC _ aA))
        exact ⟨z.1,z.2.1⟩
      have pinF:∀ {H8:Hp} {s8:ax},Inv (cxC X scope (own++NN) fp s2 H2 P.objs.size) ([(s2.heap.objs.size,{cls:=.type "list",data:=.seq its.toArray k})]++oW fp s5.heap) σ6 H8 s8 ->
          tn (i + 1) s8.heap/\∀ b∈fp,H8 b=none:=fun {H8 s8} I8=>by
        refine ⟨T.keep _ _ _ st5 fun b hb o e=>(I8.pin (b,o) (bK _ (bK _ (lJ hb e)))).1,fun b hb=>?_⟩
        obtain ⟨o,e,_⟩:=T.obj _ _ st5 b hb
        exact (I8.pin (b,o) (bK _ (bK _ (lJ hb e)))).2.1
      have len6:(cV own.length none++σ).length=σ6.length:=by rw [I6.len,start.len]
      cases okb with
      | false =>
        have q7':N ys H7:=q7
        obtain ⟨m',lt,w'⟩:=hN _ _ q7'
        obtain ⟨d1,d2⟩:=pinD I7
        obtain ⟨p1,p2⟩:=pinF I7
        have J7:Inv (cxC X scope (own++NN) fp s2 H2 P.objs.size) [] σ6 H7 s7:=I7.pins_of (fun p hp=>absurd hp (by simp))
        exact ⟨m',lt,i + 1,ys,H7,its,k,J7.weak len6 (uQ hσ),p1,p2,d2,rv,d1,w'⟩
      | true =>
        refine thn (he fp s2 H2 P.objs.size _ s7 σ6 H7 _ I7 q7) fun v8 s8 z=>?_
        obtain ⟨y,H8,I8,r8,n8⟩:=z
        obtain ⟨m',lt,w'⟩:=hN _ _ n8
        obtain ⟨d1,d2⟩:=pinD I8
        obtain ⟨p1,p2⟩:=pinF I8
        refine append_at (hsz:=by rw [bg,<- rv.length]; exact kA hl) d1 fun h9 sb hD9=>?_
        have J8:Inv (cxC X scope (own++NN) fp s2 H2 P.objs.size) [] σ6 H8 s8:=I8.pins_of (fun p hp=>absurd hp (by simp))
        have J9:Inv (cxC X scope (own++NN) fp s2 H2 P.objs.size) [] σ6 H8 {s8 with heap:=h9}:=J8.turned (t':=s8.toks) (it:=s2.heap.objs.size) (fun b o hb e=>sb.extBut b o hb e) d2 nDC (.inr (aS _)) (fun y c e=>cA (cellNe y c e)) (fun p hp=>absurd hp (by simp))
        refine ⟨m',lt,i + 1,ys++[y],H8,its++[v8],k + 1,J9.weak len6 (uQ hσ),T.keep _ _ _ p1 (fun b hb o e=>sb.extBut b o (cA (fpLt b hb)) e),p2,d2,rv.append (.cons r8 .nil),?_,w'⟩
        show h9.get? _=_
        rw [hD9,List.push_toArray]
  exact codeAny_compStart_list (loop _ rfl) (T.self X.A 0 _ _ _ (T.keep _ _ _ st2 (fun b _ o e=>old b o e)) (loop _ rfl))
theorem m8 {elt target iter:cZ} {ifs:List cZ} {scope:lA} {NN:List Str} {pos:Pos} {wi:TI} {g:TG} {tc:TT} {te:TE} (own:List Str) (ok:iP X scope NN) (hc:X.calm=true) (hi:PI X target iter wi)
    (hg:∀ fp s₂ H₂ C,PG (cxC X scope (own++NN) fp s₂ H₂ C) target g) (ht:∀ fp s₂ H₂ C,PTs (cxC X scope (own++NN) fp s₂ H₂ C) ifs tc) (he:∀ fp s₂ H₂ C,PE (cxC X scope (own++NN) fp s₂ H₂ C) elt te)
    (hs:∀ x,mr iter X.env x=pure x:=by intro _; rfl):PE X (.ListComp elt [⟨target,iter,ifs,0⟩] scope pos) (qM own.length wi g tc te):=by
  intro pins s σ H Q I h
  rw [eval_ListComp]
  refine uR (use:=none) own ok hc hi hg ht he hs I h fun s4 C D H' m hn J n1 n2 n3 n4 n5 q=>?_
  exact ⟨m,hn,fun h' sb=>⟨.ref D,H',J.turned (t':=s4.toks) (it:=C) (fun b o hb e=>sb.extBut b o hb e) n1 n2 (.inr n3) n4 n5,rfl,q⟩⟩
theorem xr {elt target iter:cZ} {ifs:List cZ} {scope:lA} {NN:List Str} {pos pos' spos:Pos} {wi:TI} {g:TG} {tc:TT} {te:TE} {i:Nat} {x:Str} (own:List Str) (ok:iP X scope NN) (hc:X.calm=true) (hN:X.N.Nodup) (hx0:X.N[i]?=some x) (hx:Loc X.env.scope x) (hi:PI X target iter wi)
    (hg:∀ fp s₂ H₂ C,PG (cxC X scope (own++NN) fp s₂ H₂ C) target g) (ht:∀ fp s₂ H₂ C,PTs (cxC X scope (own++NN) fp s₂ H₂ C) ifs tc) (he:∀ fp s₂ H₂ C,PE (cxC X scope (own++NN) fp s₂ H₂ C) elt te)
    (hs:∀ x,mr iter X.env x=pure x:=by intro _; rfl) (hf:X.fn x=true\/X.env.scope.names.lookup x=some .local:=by first | exact .inl rfl | exact .inr rfl | assumption)
    (hsw:tH (.ListComp elt [⟨target,iter,ifs,0⟩] scope pos) (some (.Name x pos')) spos.line X.env=pure true:=by rfl):PS X (.Assign [.Name x pos'] (.ListComp elt [⟨target,iter,ifs,0⟩] scope pos) spos) (A8 (qM own.length wi g tc te) (w6 i)):=by
  intro pins s σ H D I h
  rw [exec_Assign_Name_used _ _ _ _ hsw]
  refine aF (yg (aF ?_))
  show b8 _ X.A (do let _ <- comprehension (.ListComp elt [⟨target,iter,ifs,0⟩] scope pos) scope X.env _ (newList []) false (gj iter X.env) (some (tI (.Name x pos') X.env))) _ _ s
  refine aF (fh (uR (use:=some (tI (.Name x pos') X.env)) (Qv:=fun _ s'=>SP X pins D .next s') own ok hc hi hg ht he hs I h fun s4 C DD H' m hn J n1 n2 n3 n4 n5 q=>?_) (fun _ s' hq=>cg (cg hq)) fun _ _ e=>e)
  show b8 _ X.A (tI (.Name x pos') X.env (.ref DD)) _ _ s4
  refine EZ (rV J hN hx0 hx (show RelV (.ref DD) (.ref DD) from rfl) (fun s' J' z=>?_) hf)
  obtain ⟨a,sb,ha⟩:=z
  have na:C≠a:=by
    rcases ha with ha | ha
    · rw [ha]
      exact n2
    · exact (n4 x a ha).symm
  refine ⟨m,hn.at' fun o e=>sb.extBut C o na e,fun h' sb2=>⟨_,H',J'.turned (t':=s'.toks) (it:=C) (fun b o hb e=>sb2.extBut b o hb e) n1 n2 (.inr n3) n4 n5,q⟩⟩
end
section
variable {K:aj} {a:ae} {xs:List V} {n:Nat} {g:TG} {tc:TT} {te:TE} {σ:St} {H:Hp} {Q:VK}
theorem lE (Pv:Nat->List V->Hp->Prop) (h0:Pv 0 [] H) (hl:∀ i ys H,i<=xs.length->Pv i ys H->SqL K H a xs/\ys.length < aE)
    (hs:∀ i x ys H,xs[i]?=some x->Pv i ys H->g x (cV n none++σ) H fun σ2 H2=>σ2.drop n=σ/\tc σ2 H2 fun b H3=>if b=true then te σ2 H3 fun y H4=>Pv (i + 1) (ys++[y]) H4 else Pv (i + 1) ys H3)
    (hd:∀ ys H,Pv xs.length ys H->∀ p,H p=none->Q (.ref p) (upd H p (.lst ys))) :
    ∃ W:Nat->Nat->List V->Hp->Prop,(∃ m,W 0 m [] H)/\∀ i m ys H,W i m ys H->ys.length < aE/\(((Itl K a).stop i H/\∀ p,H p=none->Q (.ref p) (upd H p (.lst ys))) \/
      ((Itl K a).go i H/\∃ N:List V->Hp->Prop,(∀ ys' H',N ys' H'->∃ m',m' < m/\W (i + 1) m' ys' H')/\∀ x H',(Itl K a).yld i H x H'->g x (cV n none++σ) H' fun σ2 H2=>σ2.drop n=σ/\tc σ2 H2 fun b H3 =>
        if b=true then te σ2 H3 fun y H4=>N (ys++[y]) H4 else N ys H3)):=by
  refine ⟨fun i m ys H=>m=xs.length - i/\i<=xs.length/\Pv i ys H,⟨xs.length,by simp,bV _,h0⟩,?_⟩
  rintro i m ys H ⟨rfl,hi,p⟩
  obtain ⟨q,z⟩:=hl i ys H hi p
  refine ⟨z,?_⟩
  by_cases hlt:i < xs.length
  · refine .inr ⟨⟨xs,xs[i],q,by simp [hlt]⟩,Pv (i + 1),fun ys' H' p'=>⟨xs.length - (i + 1),by omega,rfl,hlt,p'⟩,fun x H' y=>?_⟩
    obtain ⟨e,y⟩:=y
    subst e
    exact hs i x ys _ (y xs q) p
  · have e:i=xs.length:=by omega
    subst e
    exact .inl ⟨⟨xs,q,aS _⟩,hd ys H p⟩
theorem zJ (Pv:Nat->List V->Hp->Prop) (h0:Pv 0 [] H) (hl:∀ i ys H,i<=xs.length->Pv i ys H->SqT K H a xs/\ys.length < aE)
    (hs:∀ i x ys H,xs[i]?=some x->Pv i ys H->g x (cV n none++σ) H fun σ2 H2=>σ2.drop n=σ/\tc σ2 H2 fun b H3=>if b=true then te σ2 H3 fun y H4=>Pv (i + 1) (ys++[y]) H4 else Pv (i + 1) ys H3)
    (hd:∀ ys H,Pv xs.length ys H->∀ p,H p=none->Q (.ref p) (upd H p (.lst ys))) :
    ∃ W:Nat->Nat->List V->Hp->Prop,(∃ m,W 0 m [] H)/\∀ i m ys H,W i m ys H->ys.length < aE/\(((Itt K a).stop i H/\∀ p,H p=none->Q (.ref p) (upd H p (.lst ys))) \/
      ((Itt K a).go i H/\∃ N:List V->Hp->Prop,(∀ ys' H',N ys' H'->∃ m',m' < m/\W (i + 1) m' ys' H')/\∀ x H',(Itt K a).yld i H x H'->g x (cV n none++σ) H' fun σ2 H2=>σ2.drop n=σ/\tc σ2 H2 fun b H3 =>
        if b=true then te σ2 H3 fun y H4=>N (ys++[y]) H4 else N ys H3)):=by
  refine ⟨fun i m ys H=>m=xs.length - i/\i<=xs.length/\Pv i ys H,⟨xs.length,by simp,bV _,h0⟩,?_⟩
  rintro i m ys H ⟨rfl,hi,p⟩
  obtain ⟨q,z⟩:=hl i ys H hi p
  refine ⟨z,?_⟩
  by_cases hlt:i < xs.length
  · refine .inr ⟨⟨xs,xs[i],q,by simp [hlt]⟩,Pv (i + 1),fun ys' H' p'=>⟨xs.length - (i + 1),by omega,rfl,hlt,p'⟩,fun x H' y=>?_⟩
    obtain ⟨e,y⟩:=y
    subst e
    exact hs i x ys _ (y xs q) p
  · have e:i=xs.length:=by omega
    subst e
    exact .inl ⟨⟨xs,q,aS _⟩,hd ys H p⟩
end
end L2
namespace PySem
section
variable {prog:aX} {w:cz} {A:cO} {E:af->ax->Prop} {s:ax}
variable {K:Type} [DecidableEq K] {knd:KeyKind prog w K}
end
end PySem
namespace L2
open PySem PySem.Spec PyProof.Rows
section
variable {X:Cx}
theorem sN {n:Nat} (h:n < 2 ^ 64):n.log2 < 9000:=by
  by_cases z:n=0
  · subst z
    decide
  · exact Nat.lt_trans ((Nat.log2_lt z).mpr h) (by decide)
def CA (_ j:Int):Prop:=0 < j/\j < 2 ^ 64
theorem qN:OpR X (iA .FloorDiv) (rI CA fun i j=>.int (i / j)):=opI fun i j _ _ _ _ _ hc q=>by
  have h1:(0:Int) < j:=hc.1
  have h2:j < 2 ^ 64:=hc.2
  have h3:j.natAbs < 2 ^ 64:=by omega
  exact floordiv_int (by omega) (by rw [Int.fdiv_eq_ediv_of_nonneg i (by omega)]; exact q) (.inl (rO (sN h3)))
def CDivM (_ j:Int):Prop:=j≠0/\j.natAbs < 2 ^ 64
theorem uS:OpR X (iA .FloorDiv) (rI CDivM fun i j=>.int (i.fdiv j)):=opI fun _ _ _ _ _ _ _ hc q=>floordiv_int hc.1 q (.inl (rO (sN hc.2)))
theorem Bu:OpR X (iA .Mult) (rI IntMulOk fun i j=>.int (i * j)):=opI fun _ _ _ _ _ _ _ hc q=>mul_int q hc
theorem dO:kJ X (.builtin "isinstance") (fun xs H Q=>∃ x n t b,xs=[x,.ty n]/\oz X.K H x t/\aq X.K t (.type n)=some b/\Q (.bl b) H):=by
  intro pins s σ H xs us Q I r h
  obtain ⟨x,n,t,b,rfl,ty,e,q⟩:=h
  obtain ⟨u,w',rfl,rx,rt⟩:=vals2 r
  cases (show w'=Value.type n from rt)
  exact r6 I rx ty e fun tk=>⟨.bl b,H,I.tok _,rfl,q⟩
theorem tT:kJ X (.builtin "isinstance") (fun xs H Q=>∃ x C t b,xs=[x,.ref C]/\oz X.K H x t/\aq X.K t (.ref C)=some b/\Q (.bl b) H):=by
  intro pins s σ H xs us Q I r h
  obtain ⟨x,C,t,b,rfl,ty,e,q⟩:=h
  obtain ⟨u,w',rfl,rx,rt⟩:=vals2 r
  cases (show w'=Value.ref C from rt)
  exact r6 I rx ty e fun tk=>⟨.bl b,H,I.tok _,rfl,q⟩
def Bv (H:Hp):List (Key×V)->List V->Prop:=bJ fun (p:Key×V) x=>∃ a,x=V.ref a/\H a=some (.tup [kV p.1,p.2])
end
end L2
namespace Att
open PySem PySem.W PySem.Calls PyProof.Rows
theorem weight_mem:∀ (xs:List WData) (x:WData),x∈xs->kg x<=qO xs
  | [],_,h=>by cases h
  | y :: r,x,h=>by
    unfold qO
    rcases az.mp h with e | e
    · subst e
      omega
    · have:=weight_mem r x e
      omega
theorem bits_of_lay {ns:List Int} (h:WData.layableAll [WData.list (ns.map WData.int)]=true):∀ n∈ns,eU n<=1048576:=fun n hn=>by
  have h1:(WData.list (ns.map WData.int)).layable=true:=(layW_cons h).1
  unfold WData.layable at h1
  have h2:kg (WData.list (ns.map WData.int))<=2 ^ 20:=of_decide_eq_true (nP.mp h1).2
  have h3:=weight_mem (ns.map WData.int) (WData.int n) (cG.mpr ⟨n,hn,rfl⟩)
  have h4:kg (WData.list (ns.map WData.int))=qO (ns.map WData.int):=by
    rw [kg]
  have h5:kg (WData.int n)=eU n:=by
    rw [kg]
    rfl
  have e:(2:Nat) ^ 20=1048576:=by decide
  omega
theorem attach_callB {l:OpenLaw} {n:Nat} {q:aX} {loose:List Str} {XP:(Str->Option af)->cR->Prop} {YP:cz->cR->Prop} {d:DefRec}
    (hn:l.most=some n) (hdf:d.params.defaults=[])
    (A9:∀ (w:cz) (s₀ s₁:ax) (mg mb:Str->Option af) (fa:ae) (a:ae) (vs:List af) (ns:List Int),
      Ground q loose [] XP w s₀ mg mb s₁.heap->YP w s₁.heap->mg d.name=some (.ref fa) ->
      s₁.heap.get? a=some {cls:=.type "list",data:=.seq vs.toArray}->zF vs ns->ns.length<=n->(∀ x∈ns,eU x<=1048576)->s₁.gens=#[] ->
      nX (cm l.prog w) rN (.call (.ref fa) ⟨[.ref a],[]⟩) (fun r s'=>r=.ok (.ret (.bool true))/\OldK s₁.heap s'.heap/\s'.os=s₁.os/\mn s'.gens) s₁) :
    WalkO q loose XP YP l.row.toRowW d [] (fun f vs=>yy f vs):=by
  intro w s₀ s₁ mg mb G Y fa o pm cd doc dV kV ho hd hcd hD hmg hg args vals as hpre hlay hrd hwl hlo
  obtain rfl:dV=.none:=Dflts.none hD hdf
  obtain rfl:kV=.none:=Dflts.noKw hD
  obtain ⟨a,vs,ns,rfl,rfl,hobj,hints,hlen⟩:=script_of hn hpre hwl
  refine enter_call (nY (A9 w s₀ s₁ mg mb fa a vs ns G Y hmg hobj hints hlen (bits_of_lay hlay) hg) fun r s' hq=>?_)
  obtain ⟨rfl,h2,h3,h4⟩:=hq
  exact ⟨.inl ⟨.bool true,.bool true,[],rfl,fun _=>rfl,.bool true,post_true l _,fun _=>⟨List.Pairwise.nil,fun _ hm=>(nomatch hm)⟩⟩,h2,h3,h4⟩
end Att
namespace L2
open PySem PySem.Spec PyProof.Rows
theorem walk_ofB {l:pU} {n k:Nat} {q:aX} {loose:List Str} {XP:(Str->Option af)->cR->Prop} {YP:cz->cR->Prop} {d:DefRec} {K:Params->aj} {CX:cz->CXT} {sp:cz->Sp} {x:Str}
    (hn:l.most=some n) (hn2:n<=aE) (hdf:d.params.defaults=[]) (hr:eN k rN)
    (hY:∀ (w:cz) (h:cR),YP w h->(K w.params).In h)
    (F:∀ (w:cz) (mg:Str->Option af) (fa:ae) (h:cR),(K w.params).In h->h.Ns aH mg->mg d.name=some (.ref fa) ->
      ∃ fd:cH,(∀ (s:ax) (u:af),vB s fd ⟨[u],[]⟩ [(x,u)]) /\
        ∀ base:cR,(K w.params).In base->base.Ns aH mg->bZ l.prog w (K w.params) mg base (CX w) k fa fd [x] (sp w))
    (hsp:∀ (w:cz) (H:Hp) (a:ae) (ns:List Int),ns.length<=n->(∀ x∈ns,eU x<=1048576)->SqL (K w.params) H a (ns.map V.int)->sp w [.ref a] H (fun v _=>v=.bl true) fun _ _ _=>False)
    (hCX:∀ (w:cz) (H:Hp) (s:ax) (e:af) (s':ax),CX w [] H s (fun _ _ _=>False) e s'->False) :
    A2 q loose XP YP l.row.toRowW d [] (fun f vs=>yy f vs):=by
  refine Att.attach_callB hn hdf fun w s₀ s₁ mg mb fa a vs ns G Y hmg hobj hints hlen hbits hg=>?_
  have KX:=hY w _ Y
  obtain ⟨fd,hb,hF⟩:=F w mg fa _ KX G.T.g hmg
  exact zG KX G.T.g G.T.b G.T.builtins G.T.nolimit hg hobj hints (cU hlen hn2) hr hF hb (fun H hO hS=>hsp w H a ns hlen hbits hS) fun H e s'=>hCX w H s₁ e s'
end L2
namespace PySem
open SeqAt MeetsSeq MeetsSeq2 MeetsSeq3 SeqRoads2
open AutoSeq1 (wpAny_loadPart')
def kj (prog:aX) (w:cz) (A:cO) (s:ax) (y x:af):Prop:=
  ∀ (E:af->ax->Prop) (Q:Bool->ax->Prop),Q true s->b8 (cm prog w) A (eqBool y x) Q E s
def RcIn (prog:aX) (w:cz) (A:cO) (s:ax) (y x:af):Prop:=
  ∀ (E:af->ax->Prop) (Q:af->ax->Prop),Q (.bool true) s->b8 (cm prog w) A (richCompare .Eq y x) Q E s
section
variable {prog:aX} {w:cz} {A:cO} {s:ax}
theorem kj.of_at {y x:af} (h:EqAt A s y x true):kj prog w A s y x:=fun E Q q=>h prog w E Q q
theorem kj.self (v:af):kj prog w A s v v:=kj.of_at (EqAt.same v)
theorem kj.refs {l b:ae} (h:RcIn prog w A s (.ref l) (.ref b)):kj prog w A s (.ref l) (.ref b):=by
  by_cases e:l=b
  · rw [e]
    exact kj.self _
  · intro E Q q
    unfold eqBool
    refine gT (wpAny_ite_split (fun z=>?_) (fun _=>?_))
    · exact absurd (by have z':=eq_of_beq z; injection z') e
    · exact aF (h E _ (gR q))
theorem Bw (l b:ae) (xs ys:Array af) (n m:Nat) (dd de:Option ae) (sl sm:Array (Option af)) (hsz:xs.size=ys.size):∀ k i:Nat,xs.size - i=k ->
    E5 prog w (pN.«list.__eq__.loop» ⟨[.ref l,.ref b,oV i,oV 2],[]⟩) (fun A R s =>
      s.heap.get? l=some {cls:=.type "list",dict:=dd,data:=.seq xs n,slots:=sl}/\s.heap.get? b=some {cls:=.type "list",dict:=de,data:=.seq ys m,slots:=sm} /\
      (∀ j (h1:j < xs.size) (h2:j < ys.size),kj prog w A.in1 s xs[j] ys[j])/\R (.ok (.ret (.bool true))) s):=by
  intro k
  induction k with
  | zero =>
    intro i hk A R s q
    obtain ⟨hp,g,d,tk,os⟩:=s
    obtain ⟨q1,q2,q3,q4⟩:=q
    have a1:xs[((i:Nat):Int).toNat]?=none:=by simp; omega
    have a2:ys[((i:Nat):Int).toNat]?=none:=by simp; omega
    wp_walk using gQ q1,gQ q2
    rw [a1,a2]
    wp_walk using gQ q1,gQ q2
    show R (.ok (.ret (.bool (xs.size == ys.size)))) _
    rw [hsz,beq_self_eq_true]
    exact q4
  | succ k ih =>
    intro i hk A R s q
    obtain ⟨hp,g,d,tk,os⟩:=s
    obtain ⟨q1,q2,q3,q4⟩:=q
    have l1:i < xs.size:=by omega
    have l2:i < ys.size:=by omega
    have a1:xs[((i:Nat):Int).toNat]?=some xs[i]:=by simp [l1]
    have a2:ys[((i:Nat):Int).toNat]?=some ys[i]:=by simp [l2]
    have e1:((i:Int) + 1)=((i + 1:Nat):Int):=by push_cast; rfl
    wp_walk using gQ q1,gQ q2
    rw [a1,a2]
    refine aF (q3 i l1 l2 _ _ ?_)
    wp_walk
    rw [e1]
    refine ⟨plainId_quiet plain_eq_loop _,codeAny_builtin entry_eq_loop ?_⟩
    rw [vG plain_eq_loop _]
    exact ih (i + 1) (by omega) A R _ ⟨q1,q2,q3,q4⟩
theorem Bx (l b:ae) (xs ys:Array af) (n m:Nat) (dd de:Option ae) (sl sm:Array (Option af)) (hsz:xs.size=ys.size) :
    E5 prog w (pN.«list.__eq__» ⟨[.ref l,.ref b],[]⟩) (fun A R s =>
      s.heap.get? l=some {cls:=.type "list",dict:=dd,data:=.seq xs n,slots:=sl}/\s.heap.get? b=some {cls:=.type "list",dict:=de,data:=.seq ys m,slots:=sm} /\
      (∀ j (h1:j < xs.size) (h2:j < ys.size),kj prog w A.in1 s xs[j] ys[j])/\R (.ok (.ret (.bool true))) s):=by
  intro A R s q
  obtain ⟨hp,g,d,tk,os⟩:=s
  obtain ⟨q1,q2,q3,q4⟩:=q
  have f1:=AutoSeq1.sub_list_list
  have f2:¬ (xs.size != ys.size)=true:=by simp [hsz]
  wp_walk using gQ q1,gQ q2
  refine ⟨plainId_quiet plain_eq_loop _,codeAny_builtin entry_eq_loop ?_⟩
  rw [vG plain_eq_loop _]
  exact Bw l b xs ys n m dd de sl sm hsz _ 0 rfl A R _ ⟨q1,q2,q3,q4⟩
theorem RcIn.lists {l b:ae} {xs ys:Array af} (hl:s.heap.IsList l xs) (hb:s.heap.IsList b ys) (hsz:xs.size=ys.size) (hu:A.units < gp)
    (he:∀ j (h1:j < xs.size) (h2:j < ys.size),kj prog w A.in1 s xs[j] ys[j]):RcIn prog w A s (.ref l) (.ref b):=fun E Q q=>by
  obtain ⟨⟨c1,dd,t1,sl⟩,o1,rfl,n,rfl⟩:=id hl
  obtain ⟨⟨c2,de,t2,sm⟩,o2,rfl,m,rfl⟩:=id hb
  refine lF (op:=.Eq) ⟨_,o1,rfl⟩ ⟨_,o2,rfl⟩ F.slot_list_eq (lD F.slot_list_eq ⟨_,o1,rfl⟩ F.entry_list_eq (F.args_list_eq_2 _ _) (Bx l b xs ys n m dd de sl sm hsz) ⟨o1,o2,he,?_⟩) hu
  exact ⟨fun z=>(nomatch z),q⟩
variable {K:Type} [DecidableEq K] {knd:KeyKind prog w K}
theorem pairs_at {es:List DictEntry} {kvs:List (K×af)} (h:Pairs knd es kvs):∀ {i:Nat} {e:DictEntry},es[i]?=some e->∃ kv,kvs[i]?=some kv/\knd.is kv.1 e.key=true/\e.val=kv.2:=by
  induction h with
  | nil =>
    intro i e q
    simp at q
  | cons a b _ ih =>
    intro i e q
    cases i with
    | zero =>
      simp at q
      subst q
      exact ⟨_,rfl,a,b⟩
    | succ i =>
      obtain ⟨kv,z⟩:=ih (i:=i) (by simpa using q)
      exact ⟨kv,by simpa using z.1,z.2⟩
theorem uT {nm:String} {d b:ae} {kvs kws:List (K×af)} {Q:Bool->ax->Prop} {E:af->ax->Prop} (hd:(d == eB)=false) (hb:(b == eB)=false) (m1:s.heap.DictOf knd d kvs) (m2:s.heap.DictOf knd b kws)
    (hl:kvs.length=kws.length) (he:∀ kv∈kvs,∃ v',kz kws kv.1=some v'/\kj prog w A s kv.2 v') (q:Q true s):b8 (cm prog w) A (qc nm d b) Q E s:=by
  obtain ⟨o1,es,ep,h1,x1,t1,k1,p1,n1⟩:=id m1
  obtain ⟨o2,fs,fp,h2,x2,t2,k2,p2,n2⟩:=id m2
  have z1:es.size=kvs.length:=by rw [<- p1.length,j6]
  have z2:fs.size=kws.length:=by rw [<- p2.length,j6]
  unfold qc
  unfold Builtin.Dict.showsAll
  rw [if_neg (by rw [hd]; exact bU),if_neg (by rw [hb]; exact bU)]
  refine aF (cg (aF (cg ?_)))
  refine aF (mw h1 t1 (aF (mw h2 t2 ?_)))
  rw [if_neg (by rw [z1,z2,hl]; simp)]
  refine aF (wpAny_dictEpoch h1 t1 (aF ?_))
  rw [CC]
  simp only [CH,Nat.sub_zero,zK,Nat.div_one]
  refine wpAny_forIn_list _ (fun rest r s'=>s'=s/\r.1=none/\∃ i,rest=List.range' i (es.size - i)/\i<=es.size) _ ?_ ?_ _ _ ⟨rfl,rfl,0,by simp,bV _⟩
  · rintro x rest ⟨r1,r2⟩ s' ⟨rfl,e1,i,hr,hi⟩
    have lt:i < es.size:=by
      rcases Nat.lt_or_ge i es.size with z | z
      · exact z
      · rw [Nat.sub_eq_zero_of_le z] at hr
        simp at hr
    obtain ⟨rfl,hrest⟩:x=i/\rest=List.range' (i + 1) (es.size - (i + 1)):=by
      rw [show es.size - i=(es.size - (i + 1)) + 1 by omega,List.range'_succ] at hr
      injection hr with a1 a2
      exact ⟨a1,a2⟩
    obtain ⟨kv,y1,y2,y3⟩:=pairs_at p1 (i:=x) (e:=es[x]) (by simp [lt])
    obtain ⟨kk,y4,y5⟩:=k1 es[x] (Array.getElem_mem lt)
    have y6:kk=kv.1:=knd.inj _ _ _ y4 y2
    subst y6
    obtain ⟨v',g1,g2⟩:=he kv (cy y1)
    obtain ⟨o3,fs',fp',a1,_,a2,a3,hf⟩:=m2.mapOf
    rw [h2] at a1
    cases a1
    rw [t2] at a2
    cases a2
    rw [<- hf kv.1,findBy_of_findIdx?] at g1
    refine aF (mw h1 t1 ?_)
    rw [Array.getElem?_eq_getElem lt]
    dsimp only
    refine aF (gT (aF ?_))
    rw [y5]
    refine wpAny_dictFind_of y2 h2 t2 k2 ?_
    cases hj:fs.findIdx? fun e=>knd.is kv.1 e.key with
    | none =>
      rw [hj] at g1
      cases g1
    | some j =>
      rw [hj] at g1
      dsimp only at g1 |-
      refine aF (mw h2 t2 ?_)
      cases hx:fs[j]? with
      | none =>
        simp [hx] at g1
      | some fe =>
        have g3:fe.val=v':=by simpa [hx] using g1
        dsimp only
        refine gT ?_
        rw [y3,g3]
        refine g2 _ _ ?_
        rw [if_neg (by decide)]
        refine aF (wpAny_dictEpoch h1 t1 ?_)
        rw [if_neg (by simp)]
        exact cg ⟨rfl,rfl,x + 1,hrest,lt⟩
  · rintro ⟨r1,r2⟩ s' ⟨rfl,e1,_⟩
    have e1:r1=none:=e1
    subst e1
    exact cg q
theorem yz (d b:ae) (hd:(d == eB)=false) (hb:(b == eB)=false) :
    E5 prog w (pN.«dict.__eq__» ⟨[.ref d,.ref b],[]⟩) (fun A R s=>∃ kvs kws,s.heap.DictOf knd d kvs/\s.heap.DictOf knd b kws/\kvs.length=kws.length /\
      (∀ kv∈kvs,∃ v',kz kws kv.1=some v'/\kj prog w A.in1 s kv.2 v')/\R (.ok (.ret (.bool true))) s):=
  .of_wp fun A R s h=>by
    obtain ⟨kvs,kws,m1,m2,hl,he,q⟩:=h
    unfold pN.«dict.__eq__»
    show b8 _ _ (ic "__eq__" ⟨[.ref d,.ref b],[]⟩ >>= _) _ _ s
    refine aF ?_
    unfold ic
    unfold pV
    rw [if_neg (by decide)]
    refine aF (cg ?_)
    show b8 _ _ (pure (Value.ref d,Value.ref b)) _ _ s
    refine cg ?_
    dsimp only
    refine aF (wpAny_isInstance m2.typeIs CI ?_)
    rw [if_neg (by decide)]
    refine aF (cg (aF (cg (aF (uT hd hb m1 m2 hl he ?_)))))
    exact cg ⟨_,rfl,q⟩
theorem RcIn.dicts {d b:ae} {kvs kws:List (K×af)} (hd:(d == eB)=false) (hb:(b == eB)=false) (m1:s.heap.DictOf knd d kvs) (m2:s.heap.DictOf knd b kws) (hl:kvs.length=kws.length) (hu:A.units < gp)
    (he:∀ kv∈kvs,∃ v',kz kws kv.1=some v'/\kj prog w A.in1 s kv.2 v'):RcIn prog w A s (.ref d) (.ref b):=fun E Q q =>
  lF (op:=.Eq) m1.typeIs m2.typeIs F.slot_dict_eq (lD F.slot_dict_eq m1.typeIs F.entry_dict_eq (F.args_dict_eq_2 _ _) (yz (knd:=knd) d b hd hb) ⟨kvs,kws,m1,m2,hl,he,⟨fun z=>(nomatch z),q⟩⟩) hu
end
end PySem
namespace L2
open PySem PySem.Spec PyProof.Rows PySem.SeqAt
def sc0:V->Prop
  | .int _=>True
  | .str _=>True
  | .bl _=>True
  | .non=>True
  | _=>False
def TEq (H:Hp):Nat->V->V->Prop
  | 0,x,y=>sc0 x/\x=y
  | n + 1,x,y=>(sc0 x/\x=y)\/(∃ p q xs ys,x=.ref p/\y=.ref q/\H p=some (.lst xs)/\H q=some (.lst ys)/\bJ (TEq H n) xs ys) \/
      ∃ p q xs ys,x=.ref p/\y=.ref q/\H p=some (.tup xs)/\H q=some (.tup ys)/\bJ (TEq H n) xs ys
def DEq (H:Hp):Nat->V->V->Prop
  | 0,x,y=>∃ n,n<=20/\TEq H n x y
  | n + 1,x,y=>(∃ n,n<=20/\TEq H n x y)\/(∃ p q xs ys,x=.ref p/\y=.ref q/\H p=some (.lst xs)/\H q=some (.lst ys)/\bJ (DEq H n) xs ys) \/
      ∃ p q kvs kws,x=.ref p/\y=.ref q/\H p=some (.dK kvs)/\H q=some (.dK kws)/\bJ (fun (a b:Key×V)=>a.1=b.1/\DEq H n a.2 b.2) kvs kws
section
variable {P:aX} {w:cz} {H:Hp} {s:ax}
theorem o9 {R:V->V->Prop}:∀ {xs ys:List V} {us vs:List af},bJ R xs ys->dQ xs us->dQ ys vs->us.length=vs.length/\∀ j (h1:j < us.length) (h2:j < vs.length),∃ x y,R x y/\RelV x us[j]/\RelV y vs[j]:=by
  intro xs ys us vs p
  induction p generalizing us vs with
  | nil =>
    intro a b
    cases a
    cases b
    exact ⟨rfl,fun j h1=>absurd h1 (CJ _)⟩
  | cons r rs ih =>
    intro a b
    cases a with
    | cons a as =>
    cases b with
    | cons b bs =>
    obtain ⟨e,z⟩:=ih as bs
    refine ⟨by rw [bX,bX,e],fun j h1 h2=>?_⟩
    cases j with
    | zero=>exact ⟨_,_,r,a,b⟩
    | succ j=>exact z j (wA h1) (wA h2)
theorem xt {A:cO} {x:V} {u v:af} (h:sc0 x) (ru:RelV x u) (rv:RelV x v):EqAt A s u v true:=by
  cases x with
  | non=>cases ru; cases rv; exact EqAt.same _
  | bl b=>cases ru; cases rv; exact EqAt.same _
  | int i =>
    obtain ⟨t,rfl⟩:=ru
    obtain ⟨t',rfl⟩:=rv
    have z:=EqAt.int_int (A:=A) (s:=s) i t i t'
    rw [beq_self_eq_true] at z
    exact z
  | str i =>
    obtain ⟨t,rfl⟩:=ru
    obtain ⟨t',rfl⟩:=rv
    have z:=EqAt.str_str (A:=A) (s:=s) i t i t'
    rw [beq_self_eq_true] at z
    exact z
  | byt b=>exact h.elim
  | flt b=>exact h.elim
  | ref a=>exact h.elim
  | ty a=>exact h.elim
theorem m9 (ok:HOk P w H s.heap) {p:ae} {xs:List V} (h:H p=some (.lst xs)):∃ us:List af,dQ xs us/\s.heap.IsList p us.toArray:=by
  obtain ⟨_,us,n,r,e⟩:=(show eP P w H s.heap p (.lst xs) from ok p _ h)
  exact ⟨us,r,_,e,rfl,n,rfl⟩
theorem uU (ok:HOk P w H s.heap) {p:ae} {xs:List V} (h:H p=some (.tup xs)):∃ us:List af,dQ xs us/\s.heap.IsTuple p us.toArray:=by
  obtain ⟨_,us,r,o,e,c,n,d⟩:=(show eP P w H s.heap p (.tup xs) from ok p _ h)
  exact ⟨us,r,o,e,c,n,d⟩
theorem uV (n:Nat):((List.range n).all fun _=>true)=true:=by simp
theorem uW (ok:HOk P w H s.heap) {R:V->V->Prop} {A:cO} {p q:ae} {xs ys:List V} (hu:A.units < gp) (h1:H p=some (.lst xs)) (h2:H q=some (.lst ys)) (r:bJ R xs ys)
    (he:∀ x y u v,R x y->RelV x u->RelV y v->EqAt A.in1 s u v true):RcAt A s (.ref p) (.ref q) true:=by
  obtain ⟨us,r1,i1⟩:=m9 ok h1
  obtain ⟨vs,r2,i2⟩:=m9 ok h2
  obtain ⟨e,z⟩:=o9 r r1 r2
  have k:=RcAt.lists (e:=fun _=>true) i1 i2 (by simpa using e) hu (fun j a b=>by
    obtain ⟨x,y,rr,rx,ry⟩:=z j (by simpa using a) (by simpa using b)
    simpa using he _ _ _ _ rr rx ry)
  rw [uV] at k
  exact k
theorem xu (ok:HOk P w H s.heap) {R:V->V->Prop} {A:cO} {p q:ae} {xs ys:List V} (hu:A.units < gp) (h1:H p=some (.tup xs)) (h2:H q=some (.tup ys)) (r:bJ R xs ys)
    (he:∀ x y u v,R x y->RelV x u->RelV y v->EqAt A.in1 s u v true):RcAt A s (.ref p) (.ref q) true:=by
  obtain ⟨us,r1,i1⟩:=uU ok h1
  obtain ⟨vs,r2,i2⟩:=uU ok h2
  obtain ⟨e,z⟩:=o9 r r1 r2
  have k:=RcAt.tuples (e:=fun _=>true) i1 i2 hu (fun j a b=>by
    obtain ⟨x,y,rr,rx,ry⟩:=z j (by simpa using a) (by simpa using b)
    simpa using he _ _ _ _ rr rx ry)
  rw [uV,Bool.true_and,bg,bg,e,beq_self_eq_true] at k
  exact k
theorem EqAt.of_rc {A:cO} {l b:ae} (h:RcAt A s (.ref l) (.ref b) true):EqAt A s (.ref l) (.ref b) true:=by
  by_cases e:l=b
  · rw [e]
    exact EqAt.same _
  · exact EqAt.of_refs e h
theorem pe (ok:HOk P w H s.heap):∀ {n:Nat} {A:cO} {x y:V} {u v:af},A.units + n < gp->TEq H n x y->RelV x u->RelV y v->EqAt A s u v true
  | 0,A,x,y,u,v,hu,h,ru,rv=>by
    obtain ⟨h1,rfl⟩:=h
    exact xt h1 ru rv
  | n + 1,A,x,y,u,v,hu,h,ru,rv=>by
    have hin:A.in1.units + n < gp:=by
      show A.units + 1 + n < gp
      omega
    rcases h with ⟨h1,rfl⟩ | ⟨p,q,xs,ys,rfl,rfl,h1,h2,r⟩ | ⟨p,q,xs,ys,rfl,rfl,h1,h2,r⟩
    · exact xt h1 ru rv
    · cases ru
      cases rv
      exact EqAt.of_rc (uW ok (by omega) h1 h2 r fun _ _ _ _ z a b=>pe ok hin z a b)
    · cases ru
      cases rv
      exact EqAt.of_rc (xu ok (by omega) h1 h2 r fun _ _ _ _ z a b=>pe ok hin z a b)
theorem qP (ok:HOk P w H s.heap) {R:V->V->Prop} {A:cO} {p q:ae} {xs ys:List V} (hu:A.units < gp) (h1:H p=some (.lst xs)) (h2:H q=some (.lst ys)) (r:bJ R xs ys)
    (he:∀ x y u v,R x y->RelV x u->RelV y v->kj P w A.in1 s u v):RcIn P w A s (.ref p) (.ref q):=by
  obtain ⟨us,r1,i1⟩:=m9 ok h1
  obtain ⟨vs,r2,i2⟩:=m9 ok h2
  obtain ⟨e,z⟩:=o9 r r1 r2
  exact RcIn.lists i1 i2 (by simpa using e) hu (fun j a b=>by
    obtain ⟨x,y,rr,rx,ry⟩:=z j (by simpa using a) (by simpa using b)
    simpa using he _ _ _ _ rr rx ry)
theorem xw {κ:Type} {R:κ×V->κ×V->Prop}:∀ {kvs kws:List (κ×V)} {us vs:List (κ×af)},bJ R kvs kws->KV kvs us->KV kws vs->us.length=vs.length/\∀ (i:Nat) (q:κ×af),us[i]?=some q->∃ q' a b,vs[i]?=some q'/\R a b/\a.1=q.1/\b.1=q'.1/\RelV a.2 q.2/\RelV b.2 q'.2:=by
  intro kvs kws us vs p
  induction p generalizing us vs with
  | nil =>
    intro a b
    cases a
    cases b
    exact ⟨rfl,fun i q h=>by simp at h⟩
  | cons r rs ih =>
    intro a b
    cases a with
    | cons a as =>
    cases b with
    | cons b bs =>
    obtain ⟨e,z⟩:=ih as bs
    refine ⟨by rw [bX,bX,e],fun i q h=>?_⟩
    cases i with
    | zero =>
      simp at h
      subst h
      exact ⟨_,_,_,rfl,r,a.1,b.1,a.2,b.2⟩
    | succ i =>
      obtain ⟨q',x,y,h1,h2⟩:=z i q (by simpa using h)
      exact ⟨q',x,y,by simpa using h1,h2⟩
theorem qQ (ok:HOk P w H s.heap) {R:V->V->Prop} {A:cO} {p q:ae} {kvs kws:List (Key×V)} (hu:A.units < gp) (h1:H p=some (.dK kvs)) (h2:H q=some (.dK kws)) (r:bJ (fun (a b:Key×V)=>a.1=b.1/\R a.2 b.2) kvs kws)
    (he:∀ x y u v,R x y->RelV x u->RelV y v->kj P w A.in1 s u v):RcIn P w A s (.ref p) (.ref q):=by
  obtain ⟨_,n1,us,k1,m1⟩:=(show eP P w H s.heap p (.dK kvs) from ok p _ h1)
  obtain ⟨_,n2,vs,k2,m2⟩:=(show eP P w H s.heap q (.dK kws) from ok q _ h2)
  obtain ⟨e,z⟩:=xw r k1 k2
  refine RcIn.dicts n1 n2 m1 m2 e hu fun kv hkv=>?_
  obtain ⟨i,hi⟩:=dh hkv
  obtain ⟨q',a,b,g1,⟨g2,g3⟩,g4,g5,g6,g7⟩:=z i kv hi
  obtain ⟨_,_,_,_,_,_,_,_,nd⟩:=id m2
  have g8:vs[i]?=some (kv.1,q'.2):=by
    rw [g1,<- g4,g2,g5]
  exact ⟨q'.2,valueAt_of_get nd g8,he _ _ _ _ g3 g6 g7⟩
theorem qR (ok:HOk P w H s.heap):∀ {n:Nat} {A:cO} {x y:V} {u v:af},A.units + n + 20 < gp->DEq H n x y->RelV x u->RelV y v->kj P w A s u v
  | 0,A,x,y,u,v,hu,h,ru,rv=>by
    obtain ⟨m,h0,h1⟩:=h
    exact kj.of_at (pe ok (by omega) h1 ru rv)
  | n + 1,A,x,y,u,v,hu,h,ru,rv=>by
    have hin:A.in1.units + n + 20 < gp:=by
      show A.units + 1 + n + 20 < gp
      omega
    rcases h with ⟨m,h0,h1⟩ | ⟨p,q,xs,ys,rfl,rfl,h1,h2,r⟩ | ⟨p,q,kvs,kws,rfl,rfl,h1,h2,r⟩
    · exact kj.of_at (pe ok (by omega) h1 ru rv)
    · cases ru
      cases rv
      exact kj.refs (qP ok (by omega) h1 h2 r fun _ _ _ _ z a b=>qR ok hin z a b)
    · cases ru
      cases rv
      exact kj.refs (qQ ok (by omega) h1 h2 r fun _ _ _ _ z a b=>qR ok hin z a b)
end
section
variable {X:Cx}
theorem DV (hu:X.A.units + 50 < gp):OpR X (fX .Eq) (fun x y H Q=>∃ n p q,n<=20/\x=.ref p/\y=.ref q/\DEq H n x y/\Q (.bl true) H):=by
  intro pins s σ H x y v u Q I rx ry h
  obtain ⟨n,p,q,hn,rfl,rfl,d,k⟩:=h
  cases rx
  cases ry
  have fin:EP X pins σ Q (.bool true) s:=⟨.bl true,H,I,rfl,k⟩
  have hu1:X.A.units < gp:=by omega
  have main:RcIn X.prog X.w X.A s (.ref p) (.ref q):=by
    have hin:∀ m,m<=20->X.A.in1.units + m < gp:=fun m hm=>by
      show X.A.units + 1 + m < gp
      omega
    have tq:∀ m,m<=20->TEq H m (.ref p) (.ref q)->RcIn X.prog X.w X.A s (.ref p) (.ref q):=fun m hm t=>by
      cases m with
      | zero=>exact t.1.elim
      | succ m =>
        rcases t with ⟨h1,_⟩ | ⟨p',q',xs,ys,e1,e2,h1,h2,r⟩ | ⟨p',q',xs,ys,e1,e2,h1,h2,r⟩
        · exact h1.elim
        · cases e1
          cases e2
          intro E Q' k'
          exact uW I.hok hu1 h1 h2 r (fun _ _ _ _ z a b=>pe I.hok (hin m (by omega)) z a b) X.prog X.w E Q' k'
        · cases e1
          cases e2
          intro E Q' k'
          exact xu I.hok hu1 h1 h2 r (fun _ _ _ _ z a b=>pe I.hok (hin m (by omega)) z a b) X.prog X.w E Q' k'
    cases n with
    | zero =>
      obtain ⟨m,hm,t⟩:=d
      exact tq m hm t
    | succ n =>
      have hin2:X.A.in1.units + n + 20 < gp:=by
        show X.A.units + 1 + n + 20 < gp
        omega
      rcases d with ⟨m,hm,t⟩ | ⟨p',q',xs,ys,e1,e2,h1,h2,r⟩ | ⟨p',q',kvs,kws,e1,e2,h1,h2,r⟩
      · exact tq m hm t
      · cases e1
        cases e2
        exact qP I.hok hu1 h1 h2 r fun _ _ _ _ z a b=>qR I.hok hin2 z a b
      · cases e1
        cases e2
        exact qQ I.hok hu1 h1 h2 r fun _ _ _ _ z a b=>qR I.hok hin2 z a b
  exact main _ _ fin
def DX:V->List V->Hp->VK->Prop:=fun x vs H Q=>∃ d kvs,x=.ref d/\vs=[]/\H d=some (.dK kvs)/\∀ p,H p=none->Q (.ref p) (upd H p (.dK kvs))
theorem uX:MtR X "dict.copy" DX:=by
  intro pins s σ H x vs v us Q I rx rv h
  obtain ⟨d,kvs,rfl,rfl,hd,q⟩:=h
  cases rx
  cases rv
  obtain ⟨hz,n1,ws,k1,m1⟩:=(show eP X.prog X.w H s.heap d (.dK kvs) from I.hok d _ hd)
  refine lD lN m1.typeIs PySem.F.entry_dict_copy (PySem.F.args_dict_copy_1 _) (meets_dict_copy (fg X.prog X.w) d n1) ⟨ws,m1,by rw [<- k1.length]; exact hz,fun h' hn _ kk=>?_⟩
  exact ⟨.ref s.heap.objs.size,_,I.laid (a:=s.heap.objs.size) (o:=.dK kvs) (t':=s.toks) kk (aS _) (qI hz (beq_eq_false_iff_ne.mpr (eS (cA I.big))) k1 hn),rfl,q _ (I.hok.fresh (aS _))⟩
theorem hu50 {A:cO} {k:Nat} (hr:eN k A):A.units + 50 < gp:=by
  have:=hr.un
  omega
end
end L2
namespace L2
open PySem PySem.Spec PyProof.Rows
section
variable {prog:aX} {w:cz} {A:cO} {E:af->ax->Prop} {s:ax}
end
section
variable {X:Cx}
end
end L2
namespace L2
open PySem PySem.Spec PyProof.Rows
structure nG (K:aj) (C:ae):Prop where
  ga:aD K (.ref C) "__getattribute__"=some (some (.builtin "BaseException.__getattribute__"))
  gh:aD K (.ref C) "__getattr__"=some none
  cl:aD K (.ref C) "__class__"=some (some (.builtin "object.__class__"))
  cn:kM K (.builtin "object.__class__") "__get__"=some (some (.builtin "getset_descriptor.__get__"))
  ck:lT K (.builtin "object.__class__")=some true
  ob:dE K C (.type "object")=some true
  be:dE K C (.type "BaseException")=some true
theorem nG.cs {K:aj} {C:ae} (c:nG K C):∃ cd,rP K C=some cd:=by
  obtain ⟨cd,a,_⟩:=Option.bind_eq_some_iff.mp c.ob
  exact ⟨cd,a⟩
theorem wB:Manifest.canonical "BaseException.__getattribute__"="object.__getattribute__":=by decide +kernel
section
variable {prog:aX} {w:cz} {A:cO} {E:af->ax->Prop} {s:ax} {K:aj} {x C:ae} {ox:Obj}
theorem zL {f:ae} {name:Str} {pl:Sem Bool} {Q:af×List af->ax->Prop} (X:K.In s.heap) (I:ji s.heap x ox C none) (c:nG K C) (hf:aD K (.ref C) name=some (some (.ref f))) (ht:zw K (.ref f)=some (.type "function"))
    (h:Q (.ref f,[.ref x]) s):b8 (cm prog w) A (nC (.ref x) name pl) Q E s:=by
  unfold nC specialOf
  refine aF (aF (I.type.here ((gr X c.ga).here ?_)))
  dsimp only
  rw [wB,if_neg (by decide)]
  refine aF (aF (I.type.here ((gr X c.gh).here ?_)))
  refine aF (aF (I.type.here ((gr X hf).here (aF ((PySem.W.looks_typeIn X ht).here ?_)))))
  rw [if_neg (by decide +kernel)]
  refine aF (vP I.at_ ?_)
  have hd:=I.dict
  cases e:ox.dict with
  | none=>exact aF (wpAny_rule (cg h))
  | some dx=>rw [e] at hd; exact hd.elim
theorem yA {nameV:af} {Q:Unit->ax->Prop} (X:K.In s.heap) (I:ji s.heap x ox C none) (c:nG K C) (h:Q () s):b8 (cm prog w) A (checkBuiltinCall "BaseException.__getattribute__" ⟨[.ref x,nameV],[]⟩) Q E s:=by
  obtain ⟨hh,g,d,t,os⟩:=s
  have hk:builtinKind "BaseException.__getattribute__"=some .slot:=by decide +kernel
  have hsplit:splitId "BaseException.__getattribute__"=some ("BaseException","__getattribute__"):=by decide +kernel
  have ha:=F.args_bexc_ga (.ref x) nameV
  have L0:=I.type (M:=cm prog w)
  have L1:=PySem.W.looks_mroIn (M:=cm prog w) X c.be
  simp only [checkBuiltinCall,hk,hsplit]
  refine aF ?_
  unfold isInstance
  refine aF (L0.at (L1.at ?_))
  repeat (first | assumption | wp_step)
theorem yB {Q:Option af->ax->Prop} (X:K.In s.heap) (I:ji s.heap x ox C none) (c:nG K C) (h:Q (some (.ref C)) {s with toks:=s.toks + 1}):b8 (cm prog w) A (getAttr? (.ref x) "__class__") Q E s:=by
  have L0:=I.type (M:=cm prog w)
  have L1:=gr (M:=cm prog w) X c.ga
  have L2':=gr (M:=cm prog w) X c.gh
  have hf:ze K C none "__class__"=some (.bind (.builtin "getset_descriptor.__get__") (.builtin "object.__class__")):=by
    obtain ⟨cd,hc⟩:=c.cs
    unfold ze
    rw [hc,zf,c.cl,zf]
    simp [c.cn,c.ck]
  have L3:=PySem.W.looks_find (M:=cm prog w) X I hf
  obtain ⟨hh,g,d,t,os⟩:=s
  unfold getAttr? getAttrBy? getAttrBy
  refine aF (wpAny_mkText (aF (wpAny_attempt (gT (aF (L0.at (aF (L1.at ?_))))))))
  dsimp only
  rw [if_neg (show ¬ ((onTheHeap (Value.ref C) && Value.builtin "BaseException.__getattribute__" == Value.builtin "object.__getattribute__")=true) by rw [show (Value.builtin "BaseException.__getattribute__" == Value.builtin "object.__getattribute__")=false by decide +kernel,Bool.and_false]; decide)]
  unfold getAttrByItsOwn hookBefore
  rw [if_pos (show onTheHeap (Value.ref C)=true from rfl)]
  refine aF (L2'.at (aF (wpAny_attempt (gT ?_))))
  unfold callGetattribute boundAndCalled
  rw [if_neg (show ¬ ((false && onTheHeap (Value.builtin "BaseException.__getattribute__"))=true) by decide),F.excAttr_ValueError.ga.bind]
  refine aF (cg (qD (codeAny_call_builtin F.excAttr_ValueError.ga.plain F.entry_bexc_ga (yA (s:=⟨hh,g,d,t + 1,os⟩) X I c ?_))))
  have fin:∀ (A':cO) (R:Dw->ax->Prop),R (.ok (.ret (.ref C))) ⟨hh,g,d,t + 1,os⟩->nX (cm prog w) A' (.call (.builtin "getset_descriptor.__get__") ⟨[.builtin "object.__class__",.ref x,.ref C],[]⟩) R ⟨hh,g,d,t + 1,os⟩:=fun A' R q=>PySem.W.class_get (s:=⟨hh,g,d,t + 1,os⟩) X I c.ob q
  unfold pN.«object.__getattribute__» slotArgs
  refine aF (cg ?_)
  refine aF (cg ?_)
  refine aF (L0.at (aF (L3.at ?_)))
  unfold A3
  refine aF (gT (qD (fin _ _ ?_)))
  refine cg ?_
  exact PySem.W.handed_on rfl (cg h)
theorem zM (c:nG K C):PySem.W.KitX K (.ref x) (.ref C) (fun h=>ji h x ox C none) where
  ty:=fun _ _ _ I=>I.type
  it:=fun _ _ X _=>by
    obtain ⟨cd,hc⟩:=c.cs
    unfold rP at hc
    split at hc
    · rename_i c' d' cd' sl' ho
      intro A' Q' E' s' k q
      unfold isType loadHead
      exact aF (vP (k _ _ (X _ _ ho)) (cg q))
    · cases hc
  ne:=fun h tp dd its n sl X htp=>by
    obtain ⟨cd,hc⟩:=c.cs
    refine Bool.eq_false_iff.mpr fun q=>?_
    have e:C=tp:=Value.ref.inj (beq_iff_eq.mp q)
    subst e
    unfold rP at hc
    split at hc
    · rename_i c' d' cd' sl' ho
      have z:=(X _ _ ho).symm.trans htp
      cases z
    · cases hc
  ca:=fun X I k=>yB X I c k
end
def XOk (a C:ae) (h:cR):Prop:=∃ ob,h.get? a=some ob/\ob.cls=.ref C/\ob.dict=none/\zN ob=true
def XO (a C:ae):HO:=.ext (XOk a C)
theorem XOk.obj {P:aX} {w:cz} {H:Hp} {h:cR} {a C:ae} (x:XOk a C h):eP P w H h a (XO a C):=by
  obtain ⟨ob,e,r⟩:=x
  refine ⟨⟨ob,e,r⟩,⟨ob,e⟩,fun h1 h2 y k=>?_⟩
  obtain ⟨o,e1,r1⟩:=y
  exact ⟨o,k o e1,r1⟩
theorem XOk.inst {h:cR} {a C:ae} (x:XOk a C h):∃ ox,ji h a ox C none:=by
  obtain ⟨ob,e,c,d,n⟩:=x
  exact ⟨ob,e,c,n,by rw [d]; trivial⟩
theorem zO {P:aX} {w:cz} {H:Hp} {h:cR} {a C:ae} (ok:HOk P w H h) (e:H a=some (XO a C)):XOk a C h:=(ok a _ e).1
section
variable {X:Cx} {pins:List (ae×Obj)} {σ:St} {H:Hp} {s:ax}
theorem j4:kJ X (.builtin "isinstance") (fun xs H Q=>∃ a C cv c b,xs=[.ref a,cv]/\RelV cv c/\(∀ u,RelV cv u->u=c)/\H a=some (XO a C)/\nG X.K C/\aq X.K (.ref C) c=some b/\Q (.bl b) H):=by
  intro pins s σ H xs us Q I r h
  obtain ⟨a,C,cv,c,b,rfl,_,hu,e,cl,k,q⟩:=h
  obtain ⟨u,w',rfl,rx,rt⟩:=vals2 r
  cases (show u=Value.ref a from rx)
  cases hu _ rt
  obtain ⟨ox,J⟩:=(zO I.hok e).inst
  exact eG (zM cl) I.kIn J k (fun z=>nomatch z) fun tk=>⟨.bl b,H,I.tok _,rfl,q⟩
end
section
variable {P:aX} {w:cz} {H:Hp} {h h':cR} {a:ae} {o:HO} {fs ex:List ae}
end
section
variable {X:Cx} {pins:List (ae×Obj)} {σ:St} {H:Hp} {s:ax} {C:ae} {x:Str} {p pos:Pos} {e:cZ} {es:List cZ} {t:TA}
end
section
variable {X:Cx} {CX:CXT} {k:Nat} {f C:ae} {fd:cH} {ps:List Str} {sp:Sp} {E:XK} {m:Str} {pos apos:Pos} {o:cZ} {ta:TE}
def DY (C:ae) (sp:Sp) (E:XK) (ta:TE):TE:=fun σ H Q=>ta σ H fun x H1=>∃ a,x=.ref a/\H1 a=some (XO a C)/\sp [.ref a] H1 Q E
theorem uY {pl:Sem Bool} (he:PE X o ta) (c:nG X.K C) (hm:kW X.K C m f) (F:bZ X.prog X.w X.K X.mg X.base CX k f fd ps sp) (hr:eN k X.A) (hb:Binds X.K fd ps []) (hx:lK CX X E)
    (ht:gj (.Call (.Attribute o m apos) [] [] pos) X.env=(do
      let ov <- gj o X.env
      vy apos.atName
      let (f,first) <- pI [ov] (nC ov m pl)
      callWith pos f first (jP pos (cW [] X.env)) (Bg pos (uo [] X.env))):=by rfl) :
    PE X (.Call (.Attribute o m apos) [] [] pos) (DY C sp E ta):=by
  intro pins s σ H Q I h
  refine md (pl:=pl) (thn (he pins s σ H _ I h) fun u s1 ⟨x,H1,I1,rx,a,ex,ea,q⟩=>?_) ht
  subst ex
  obtain rfl:u=Value.ref a:=rx
  obtain ⟨ox,J⟩:=(zO I1.hok ea).inst
  refine zL I1.kIn J c hm.at_ (beq_iff_eq.mp hm.fn) ?_
  exact vC (first:=[.ref a]) I1.kIn hm.kp (tJ (us:=[.ref a]) (vs:=[.ref a]) (dvs:=[]) (ds:=[]) F hr hb .nil hx I1 (.cons rfl .nil) q)
end
section
variable {X:Cx} {pins:List (ae×Obj)} {σ:St} {H:Hp} {s:ax}
theorem Inv.adopt {B:cR} {ea C:ae} {fl:af} (I:Inv X pins σ H s) (f:FlD B X.stack ea (.ref C) fl s.heap) (cov:tQ X pins H B s.heap):H ea=none/\Inv X pins σ (upd H ea (XO ea C)) s:=by
  obtain ⟨hB,hn,hl,oe,vs,T,oT,ts,he,hc,hdc,hd,_⟩:=f
  have nf:ea∉frs X.stack:=fun z=>by
    obtain ⟨_,o,ho,q⟩:=hl.mem z
    rw [he] at ho
    cases ho
    exact q vs hd
  have nb:∀ o,B.get? ea≠some o:=fun o z=>by rw [hn] at z; cases z
  have hz:H ea=none:=by
    cases z:H ea with
    | none=>rfl
    | some u=>exact absurd (cov ea oe (.inl (by rw [z]; simp)) nf he) (nb oe)
  have ne:∀ {b:ae} {o:HO},H b=some o->b≠ea:=fun {b o} z=>aJ z hz
  refine ⟨hz,I.ok,I.os,I.bare,⟨I.base.keep,I.base.slot,fun b o e n hx=>?_,I.base.there,fun b xs e=>?_,fun b o u e=>?_,fun b ps e=>?_⟩,I.loc,I.cell,?_,fun x c e=>?_,fun p hp=>?_,fun b u e=>?_,I.len⟩
  · rw [aY]
    · exact I.base.free b o e n hx
    · rintro rfl
      exact nb oe (cov _ oe (.inr (.inl ⟨hx,o,e⟩)) nf he)
  · have z:=I.base.tups b xs e
    rw [aY (ne z)]
    exact z
  · have z:=I.base.frzs b o u e
    rw [aY (ne z)]
    exact z
  · obtain ⟨more,z⟩:=I.base.tbls b ps e
    exact ⟨more,by rw [aY (ne z)]; exact z⟩
  · rw [aY]
    · exact I.free
    · intro z
      obtain ⟨m,⟨o,es,ep,ho,hdd,_⟩,_⟩:=I.loc
      rw [z,he] at ho
      cases ho
      rw [hd] at hdd
      cases hdd
  · rw [aY]
    · exact I.freeC x c e
    · intro z
      obtain ⟨v,o,ho,hdd⟩:=I.cell x c e
      rw [z,he] at ho
      cases ho
      rw [hd] at hdd
      cases hdd
  · obtain ⟨e1,e2,e3,e4,e5⟩:=I.pin p hp
    refine ⟨e1,?_,e3,e4,e5⟩
    rw [aY]
    · exact e2
    · intro z
      have e6:s.heap.get? ea=some p.2:=by rw [<- z]; exact e1
      rw [he] at e6
      cases e6
      exact nb _ (cov ea _ (.inr (.inr ⟨p,hp,z⟩)) nf he)
  · by_cases hb:b=ea
    · subst hb
      rw [ao] at e
      cases e
      refine XOk.obj ⟨oe,he,hc,hdc,?_⟩
      unfold zN
      rw [hd]
    · rw [aY hb] at e
      exact (I.hok b u e).stay (fun _ _ _ q=>q) (fun c q=>by rw [aY (ne q)]; exact q) fun c xs q=>by rw [aY (ne q)]; exact q
theorem yC {M:A7} {A:cO} {E:af->ax->Prop} {i:Nat} {x:Str} {v:V} {Q:Unit->ax->Prop} (I:Inv X pins σ H s) (hN:X.N.Nodup) (hi:X.N[i]?=some x) (hk:X.env.scope.names.lookup x=some .local) (hv:σ[i]?=some (some v))
    (h:∀ s',Inv X pins (σ.set i none) H s'->Q () s'):b8 M A (unbindName X.env x) Q E s:=by
  obtain ⟨m,hn,hl⟩:=id I.loc
  have hcls:(X.env.scope.kind == .class || (X.env.scope.kind == .module && X.env.locals != X.env.globals))=false:=by rw [I.ok.kind]; rfl
  have hkd:X.env.kindOf x=some .local:=hk
  have hmx:(m x).isSome=true:=by
    obtain ⟨u,_,q⟩:=hl i x v hi hv (.inl hk)
    rcases q with ⟨_,e⟩ | ⟨k,_⟩
    · rw [e]; rfl
    · rw [hkd] at k
      rcases k with k | k <;> cases k
  unfold unbindName
  refine aF (wpAny_point (aF ?_))
  unfold deleteName
  simp only [hkd,hcls]
  rw [if_neg (by decide)]
  refine aF (wpAny_nsDel_keeps hn fun h' v' hn' hs=>?_)
  rw [hmx]
  simp only [Bool.not_true,Bool.false_eq_true,if_false]
  refine cg (wpAny_point (h _ ?_))
  obtain ⟨oL,_,_,hoL,_⟩:=id hn
  have cne:=I.cne
  have below:∀ b o,X.s₀.heap.get? b=some o->b≠X.env.locals:=fun b o e=>cA (bP (bO e) I.ok.above)
  refine ⟨I.ok,I.os,I.bare,⟨fun b o e n hb hx=>(hs.2 b (below b o e)).trans (I.base.keep b o e n hb hx),fun b o e n hb hx=>?_,I.base.free,fun b o e hx=>?_,I.base.tups,I.base.frzs,I.base.tbls⟩,⟨_,hn',fun j y v2 e1 e2 e3=>?_⟩,fun y c e=>?_,I.free,I.freeC,fun p hp=>?_,fun b ob e=>?_,by simpa using I.len⟩
  · obtain ⟨sl,e1⟩:=I.base.slot b o e n hb hx
    exact ⟨sl,(hs.2 b (below b o e)).trans e1⟩
  · obtain ⟨o',e1⟩:=I.base.there b o e hx
    exact ⟨o',(hs.2 b (below b o e)).trans e1⟩
  · by_cases hj:j=i
    · subst hj
      have hlt:j < σ.length:=(aL.mp hv).1
      rw [fV hlt] at e2
      cases e2
    · rw [jW (eS hj)] at e2
      obtain ⟨u',r',q⟩:=hl j y v2 e1 e2 e3
      refine ⟨u',r',?_⟩
      rcases q with ⟨k,e⟩ | ⟨k,c,e,z⟩
      · refine .inl ⟨k,?_⟩
        have hne:y≠x:=fun e=>hj (qj hN e1 (e ▸ hi))
        simp [hne,e]
      · exact .inr ⟨k,c,e,z.sameBut hs (cne y c e)⟩
  · obtain ⟨w',z⟩:=I.cell y c e
    exact ⟨w',z.sameBut hs (cne y c e)⟩
  · obtain ⟨e,n,ne,nf,d⟩:=I.pin p hp
    exact ⟨(hs.2 p.1 ne).trans e,n,ne,nf,d⟩
  · refine (I.hok b ob e).stay (fun c w' hc q=>(hs.2 c ?_).trans q) (fun _ q=>q) fun _ _ q=>q
    rintro rfl
    rcases hc with rfl | hc
    · rw [I.free] at e; cases e
    · rw [I.free] at hc; cases hc
def zP (i:Nat) (D:lB):lB:={nx:=fun σ H=>D.nx (σ.set i none) H,rt:=D.rt,bk:=fun σ H=>D.bk (σ.set i none) H,ct:=fun σ H=>D.ct (σ.set i none) H}
def thAs (K:aj) (Ci:ae) (i:Nat) (t:TS) (th:TH):TH:=fun C D σ H =>
  (dy K (.ref C) (.ref Ci)=some true/\∀ ea,H ea=none->t (zP i D) (σ.set i (some (.ref ea))) (upd H ea (XO ea C)))\/(dy K (.ref C) (.ref Ci)=some false/\th C D σ H)
theorem qe {M:A7} {A:cO} {E:af->ax->Prop} {i:Nat} {x:Str} {pos:Pos} {Q:Unit->ax->Prop} (I:Inv X pins σ H s) (hN:X.N.Nodup) (hi:X.N[i]?=some x) (hk:X.env.scope.names.lookup x=some .local)
    (h:∀ s',Inv X pins (σ.set i none) H s'->Q () s'):b8 M A (do bindName X.env x .none; pf X.env x pos) Q E s:=by
  have hlt:i < σ.length:=by
    rw [I.len]
    exact (aL.mp hi).1
  refine aF (wpAny_bindName (oq (v:=.non) I hN hi (.inl hk) rfl (fun s1 I1=>?_) (.inr hk)))
  unfold pf
  refine wpAny_onRaise (yC (v:=.non) I1 hN hi hk (fV hlt) fun s2 I2=>h s2 ?_)
  rw [List.set_set] at I2
  exact I2
theorem zQ {x n:Str} {Ci:ae} {np pos:Pos} {b₀:dU} {suite:List dU} {rest:List p9} {t:TS} {th:TH} (i:Nat) (hg:Gl X x) (hm:X.mg x=some (.ref Ci)) (hN:X.N.Nodup) (hi:X.N[i]?=some n) (hk:X.env.scope.names.lookup n=some .local)
    (hsu:∀ ea,PSs (X.hdl ea) (b₀ :: suite) t) (hr:PHs X rest th) (hd:(x == ("__debug__":Str))=false:=by decide):PHs X (.ExceptHandler (some (.Name x np)) (some n) (b₀ :: suite) pos :: rest) (thAs X.K Ci i t th):=by
  intro pins s σ H D ea C B I fl cov h
  refine wpAny_handleBy_cons (codeAny_handlers_test ?_) (by intro q; cases q)
  refine m5 (X:=X.hdl ea) (I.hdl ea) hg hm ?_ hd
  obtain ⟨ob,hob,hc⟩:=fl.there
  have LT:PySem.W.Looks (cm X.prog X.w) s.heap (typeOf (.ref ea)) (.ref C):=by
    rw [<- hc]
    exact (PySem.W.Looks.ld hob).andThen .now
  rcases h with ⟨hx,q⟩ | ⟨hx,q⟩
  · refine (zg I.kIn LT hx).here ?_
    refine codeAny_handlers_suite_as (oB fl fun h6 fl6 sm6=>?_)
    have I6:=I.landed fl6.1 cov sm6
    obtain ⟨hz,J⟩:=I6.adopt fl6 (tQ.land I fl6.1 cov)
    refine oq (X:=X.hdl ea) (v:=.ref ea) (J.hdl ea) hN hi (.inl hk) rfl (fun s2 I2=>?_) (.inr hk)
    refine fh (hsu ea pins _ _ _ (zP i D) I2 (q ea hz)) (fun f s3 z=>?_) (fun _ _ z=>dX z)
    show b8 _ X.A (do bindName X.env n .none; pf X.env n pos) (fun _ s₃=>SP X pins D f s₃) X.xe s3
    cases f with
    | next=>obtain ⟨σ',H',I3,q3⟩:=z; exact qe (I3.unhdl I.ok) hN hi hk fun s4 I4=>⟨_,_,I4,q3⟩
    | brk=>obtain ⟨σ',H',I3,q3⟩:=z; exact qe (I3.unhdl I.ok) hN hi hk fun s4 I4=>⟨_,_,I4,q3⟩
    | cont=>obtain ⟨σ',H',I3,q3⟩:=z; exact qe (I3.unhdl I.ok) hN hi hk fun s4 I4=>⟨_,_,I4,q3⟩
    | ret u=>obtain ⟨v,σ',H',I3,r3,q3⟩:=z; exact qe (I3.unhdl I.ok) hN hi hk fun s4 I4=>⟨v,_,_,I4,r3,q3⟩
  · refine (zg I.kIn LT hx).here ?_
    exact hr pins s σ H D ea C B I fl cov q
end
end L2
namespace PySem
open Sem (wp)
section
variable {prog:aX} {w:cz} {A:cO} {E:af->ax->Prop} {s:ax}
end
section
variable {prog:aX} {w:cz} {A:cO} {R:Dw->ax->Prop} {I:ae} {fp wr:List ae} {n:Nat} {P:Nat->af->Prop} {St:Nat->cR->Prop} {G:cR->Prop}
end
section
variable {prog:aX} {w:cz} {A:cO} {E:af->ax->Prop} {s:ax}
end
section
variable {prog:aX} {w:cz} {K:Type} [DecidableEq K] {knd:HeapKind prog w K} {A:cO} {E:af->ax->Prop} {s:ax}
end
section
variable {prog:aX} {w:cz} {A:cO} {E:af->ax->Prop} {s:ax}
end
end PySem
namespace HT
open PySem PyProof.Rows
open PySem.SeqAt
open PySem.AutoSeq1 (wpAny_loadPart')
open PySem.MeetsSeq PySem.MeetsSeq2 PySem.MeetsSeq3
end HT
namespace L2
open PySem PySem.Spec PyProof.Rows
section
variable {X:Cx}
open Classical in
def tRev (K:aj) (te:TE) (ts:TO):TE:=fun σ H Q=>te σ H fun x H1=>ts σ H1 fun st H2=>st=some (-1)/\∃ a xs,x=.ref a/\SqL K H2 a xs/\∀ p,H2 p=none->Q (.ref p) (upd H2 p (.lst xs.reverse))
theorem wC {e st:cZ} {te:TE} {ts:TO} {p2 pos:Pos} (he:PE X e te) (hs:PO X (some st) ts):PE X (.Subscript e (.Slice none none (some st) p2) pos) (tRev X.K te ts):=by
  intro pins s σ H Q I h
  refine vT (thn (he pins s σ H _ I h) fun v s1 ⟨x,H1,I1,r1,q1⟩=>?_)
  refine wpAny_Slice ?_
  rw [yp]
  refine cg (cg ?_)
  refine thn (hs pins s1 σ H1 _ I1 q1) fun vs s3 ⟨o,H3,I3,ps,q3⟩=>?_
  obtain ⟨rfl,a,xs,rfl,hx,q⟩:=q3
  cases r1
  have I4:Inv X pins σ H3 {s3 with heap:=s3.heap.push {cls:=.type "slice",data:=.fields #[.none,.none,vs]}}:=I3.kept (t':=s3.toks) fun b ob q=>aU _ q
  obtain ⟨its,r,ht,hz⟩:=I4.list hx
  show b8 (cm X.prog X.w) X.A (p4 e (.Slice none none (some st) p2) (.ref a) (.ref s3.heap.objs.size)) (EP X pins σ Q) X.xe {s3 with heap:=s3.heap.push {cls:=.type "slice",data:=.fields #[.none,.none,vs]}}
  refine tail_any (ops:=[.ref a,.ref s3.heap.objs.size]) ht.isList.typeIs rK.lookup ?_ (by with_unfolding_all rfl)
  refine yq ht.isList (rD ..) .none .none ps (by simp) ?_ (by rw [bg,<- r.length]; exact hz)
  rw [PySem.W.krv_pick]
  refine ⟨.ref _,_,I4.laid (t':=s3.toks) (o:=.lst xs.reverse) (fun b ob q=>aU _ q) (aS _) ?_,rfl,q _ (I4.hok.fresh (aS _))⟩
  refine ⟨by rw [iM]; exact hz,its.reverse,0,r.reverse,?_⟩
  rw [cQ _ rfl]
theorem By {z:V} (h:sc0 z):scal z z=true:=by
  cases z with
  | non=>rfl
  | bl b=>rfl
  | int i=>rfl
  | str x=>rfl
  | byt b=>exact dX h
  | flt b=>exact dX h
  | ref a=>exact dX h
  | ty a=>exact dX h
theorem DZ (hu:X.A.units + 50 < gp):OpR X (fX .Eq) (fun x y H Q=>∃ n,n<=20/\TEq H n x y/\Q (.bl true) H):=by
  intro pins s σ H x y v u Q I rx ry h
  obtain ⟨n,hn,d,q⟩:=h
  have sc:∀ z,sc0 z->x=z->y=z->b8 (cm X.prog X.w) X.A (fX .Eq v u) (EP X pins σ Q) X.xe s:=by
    rintro z hz rfl rfl
    refine di pins s σ H _ _ v u Q I rx ry ⟨By hz,?_⟩
    rw [decide_eq_true rfl]
    exact q
  have rf:∀ p q',x=.ref p->y=.ref q'->b8 (cm X.prog X.w) X.A (fX .Eq v u) (EP X pins σ Q) X.xe s:=fun p q' e1 e2 =>
    DV hu pins s σ H x y v u Q I rx ry ⟨0,p,q',by omega,e1,e2,⟨n,hn,d⟩,q⟩
  cases n with
  | zero=>exact sc x d.1 rfl d.2.symm
  | succ n =>
    rcases d with ⟨h1,h2⟩ | ⟨p,q',_,_,e1,e2,_⟩ | ⟨p,q',_,_,e1,e2,_⟩
    · exact sc x h1 rfl h2.symm
    · exact rf p q' e1 e2
    · exact rf p q' e1 e2
end
end L2
namespace L2
open PySem PySem.Spec PyProof.Rows
section
variable {X:Cx}
end
theorem zR {n m:Nat} {g:TG} {tc:TT} {te:TE} {σ:St} {H:Hp} {Q:VK} (Pv:Nat->List V->Hp->Prop) (h0:Pv 0 [] H) (hl:∀ i ys H,i<=m->Pv i ys H->ys.length < aE)
    (hs:∀ i ys H,i < m->Pv i ys H->g (.int (0 + i)) (cV n none++σ) H fun σ2 H2=>σ2.drop n=σ/\tc σ2 H2 fun b H3=>if b=true then te σ2 H3 fun y H4=>Pv (i + 1) (ys++[y]) H4 else Pv (i + 1) ys H3)
    (hd:∀ ys H,Pv m ys H->∀ p,H p=none->Q (.ref p) (upd H p (.lst ys))) :
    ∃ W:Nat->Nat->List V->Hp->Prop,(∃ k,W 0 k [] H)/\∀ i k ys H,W i k ys H->ys.length < aE/\(((Itr 0 m).stop i H/\∀ p,H p=none->Q (.ref p) (upd H p (.lst ys))) \/
      ((Itr 0 m).go i H/\∃ N:List V->Hp->Prop,(∀ ys' H',N ys' H'->∃ k',k' < k/\W (i + 1) k' ys' H')/\∀ x H',(Itr 0 m).yld i H x H'->g x (cV n none++σ) H' fun σ2 H2=>σ2.drop n=σ/\tc σ2 H2 fun b H3 =>
        if b=true then te σ2 H3 fun y H4=>N (ys++[y]) H4 else N ys H3)):=by
  refine ⟨fun i k ys H=>k=m - i/\i<=m/\Pv i ys H,⟨m,by simp,bV _,h0⟩,?_⟩
  rintro i k ys H ⟨rfl,hi,pv'⟩
  refine ⟨hl i ys H hi pv',?_⟩
  by_cases lt:i < m
  · refine .inr ⟨lt,Pv (i + 1),fun ys' H' p'=>⟨m - (i + 1),by omega,rfl,lt,p'⟩,fun x H' y=>?_⟩
    obtain ⟨e,y⟩:=y
    subst e y
    exact hs i ys _ lt pv'
  · have e:i=m:=by omega
    subst e
    exact .inl ⟨aS _,hd ys H pv'⟩
end L2
namespace L2
open PySem PySem.Spec PyProof.Rows
section
variable {X:Cx} {pins:List (ae×Obj)} {σ:St} {H:Hp} {s:ax} {d:ae}
theorem Inv.swap {o o':HO} (I:Inv X pins σ H s) (e:H d=some o) (nt:∀ xs,o≠.tup xs) (nb:∀ ps,o≠.tbl ps) (nw:∀ a,o≠.own a) (nf:∀ ob u,X.H₀ d≠some (.frz ob u)) (ok:eP X.prog X.w (upd H d o') s.heap d o'):Inv X pins σ (upd H d o') s:=by
  have no:∀ b,H b=none->upd H d o' b=none:=fun b z=>by
    rw [aY (aJ e z).symm]
    exact z
  have tp:∀ b xs,H b=some (.tup xs)->upd H d o' b=some (.tup xs):=fun b xs z=>by
    rw [aY (gJ z e (fun q=>nt xs q.symm))]
    exact z
  have ow:∀ b a,H b=some (.own a)->upd H d o' b=some (.own a):=fun b a z=>by
    rw [aY (gJ z e (fun q=>nw a q.symm))]
    exact z
  refine ⟨I.ok,I.os,I.bare,⟨I.base.keep,I.base.slot,fun b ob q n hx=>no b (I.base.free b ob q n hx),I.base.there,fun b xs q=>tp b xs (I.base.tups b xs q),fun b ob u q=>?_,fun b ps q=>?_⟩,I.loc,I.cell,no _ I.free,fun x c q=>no c (I.freeC x c q),fun p hp=>?_,fun b u q=>?_,I.len⟩
  · have z:=I.base.frzs b ob u q
    have nd:b≠d:=fun y=>nf ob u (by rw [<- y]; exact q)
    rw [aY nd]
    exact z
  · obtain ⟨more,z⟩:=I.base.tbls b ps q
    refine ⟨more,?_⟩
    rw [aY (gJ z e (fun y=>nb _ y.symm))]
    exact z
  · obtain ⟨h1,h2,h3⟩:=I.pin p hp
    exact ⟨h1,no _ h2,h3⟩
  · by_cases z:b=d
    · subst z
      rw [ao] at q
      cases q
      exact ok
    · rw [aY z] at q
      exact (I.hok b u q).stay (fun c v _ y=>y) (fun c y=>ow c b y) tp
theorem Inv.freeze {kvs:List (Key×V)} (I:Inv X pins σ H s) (e:H d=some (.dK kvs)) (nf:∀ ob u,X.H₀ d≠some (.frz ob u)):∃ od,s.heap.get? d=some od/\Inv X pins σ (upd H d (.frz od (.dK kvs))) s:=by
  obtain ⟨h1,h2,vs,r,ob,es,ep,g1,g2⟩:=(show eP X.prog X.w H s.heap d (.dK kvs) from I.hok d _ e)
  exact ⟨ob,g1,I.swap e (fun xs z=>by cases z) (fun ps z=>by cases z) (fun a z=>by cases z) nf ⟨g1,h1,h2,vs,r,ob,es,ep,g1,g2⟩⟩
theorem Inv.thaw {kvs:List (Key×V)} {od:Obj} (I:Inv X pins σ H s) (e:H d=some (.frz od (.dK kvs))) (nf:∀ ob u,X.H₀ d≠some (.frz ob u)):Inv X pins σ (upd H d (.dK kvs)) s:=by
  obtain ⟨_,h1⟩:=(show eP X.prog X.w H s.heap d (.frz od (.dK kvs)) from I.hok d _ e)
  exact I.swap e (fun xs z=>by cases z) (fun ps z=>by cases z) (fun a z=>by cases z) nf h1
end
def Iti (d:ae) (od:Obj) (kvs:List (Key×V)):It:=
  ⟨fun i H=>H d=some (.frz od (.dK kvs))/\i < kvs.length,fun i H x H'=>∃ t kv,x=.ref t/\H t=none/\kvs[i]?=some kv/\H'=upd H t (.tup [kV kv.1,kv.2]),fun i H=>H d=some (.frz od (.dK kvs))/\kvs.length<=i⟩
theorem KV.at_ {kvs:List (Key×V)} {vs:List (Key×af)} (r:KV kvs vs):∀ {i:Nat} {kv:Key×V},kvs[i]?=some kv->∃ u,vs[i]?=some (kv.1,u)/\RelV kv.2 u:=by
  induction r with
  | nil=>intro i kv h; simp at h
  | cons a _ ih =>
    intro i kv h
    cases i with
    | zero =>
      simp at h
      subst h
      exact ⟨_,by rw [List.getElem?_cons_zero,a.1],a.2⟩
    | succ i =>
      obtain ⟨u,h1,h2⟩:=ih (by simpa using h)
      exact ⟨u,by simpa using h1,h2⟩
theorem zS {P:aX} {w:cz} {k:Key} {u:af} (h:(fg P w).is k u=true):RelV (kV k) u:=by
  rcases fK h with ⟨i,t,rfl,rfl⟩ | ⟨x,t,rfl,rfl⟩
  · exact ⟨t,rfl⟩
  · exact ⟨t,rfl⟩
theorem pj:entryFor table "dict_itemiterator.__iter__"=some pN.«dict_keyiterator.__iter__»:=
  entryFor_alias (id':="dict_keyiterator.__iter__") (by kernel_rfl) rfl (by decide +kernel) (by kernel_rfl)
section
variable {P:aX} {w:cz} {K:aj}
def zT (o:Obj):Nat:=match o.data with | .dict _ ep=>ep | _=>0
theorem pk {X:Cx} {pins:List (ae×Obj)} {σ:St} {H:Hp} {s:ax} {d:ae} {od:Obj} {kvs:List (Key×V)} (I:Inv X pins σ H s) (e:H d=some (.frz od (.dK kvs))):∃ vs,KV kvs vs/\s.heap.DictAt (fg X.prog X.w) d vs (zT od):=by
  obtain ⟨g0,h1,h2,vs,r,ob,es,ep,g1,g2,g3,g4⟩:=(show eP X.prog X.w H s.heap d (.frz od (.dK kvs)) from I.hok d _ e)
  rw [g0] at g1
  cases g1
  have ee:zT od=ep:=by
    unfold zT
    rw [g3]
  rw [ee]
  exact ⟨vs,r,od,es,g0,g2,g3,g4⟩
theorem wD {elts:List cZ} {x1} {pos:Pos} (d it:ae) (od:Obj) (kvs:List (Key×V)) (hne:d≠it):yh P w K (.Tuple elts x1 pos) (Iti d od kvs) [it] it (fun i h=>∃ ok ov,IsItemIter h it d i kvs.length (zT od) ok ov) where
  mem:=by simp
  obj:=fun i h st b hb=>by
    have e:b=it:=by simpa using hb
    subst e
    obtain ⟨ok,ov,e⟩:=st
    exact ⟨_,e,fun v z=>by cases z⟩
  keep:=fun i h h' ⟨ok,ov,st⟩ k=>⟨ok,ov,k it (by simp) _ st⟩
  item:=by
    intro X hP hw hK hc i pins s σ H E I hf st hg
    subst hP hw hK
    obtain ⟨ok,ov,st⟩:=st
    obtain ⟨hd,hi⟩:=hg
    obtain ⟨vs,r,da⟩:=pk I hd
    have hl:=r.length
    have hkv:kvs[i]?=some kvs[i]:=cC hi
    obtain ⟨u,hu,ru⟩:=r.at_ hkv
    obtain ⟨f0,f1,f2,f3,f4,f5⟩:=hf it (by simp)
    rw [hl] at st
    refine wpAny_pyNext_items_item st da hu fun key h' hk hit' ht' hz' kp=>?_
    have I1:Inv X pins σ H {s with heap:=h'}:=I.turned (t':=s.toks) (fun b o hb e=>kp b o hb e) f0 f1 f3 f4 f5
    refine ⟨_,rfl,wpAny_letOwnedTupleGo_items hit' fun h2 hit2 sb=>?_⟩
    have I2:Inv X pins σ H {s with heap:=h2}:=I1.turned (t':=s.toks) (fun b o hb e=>sb.extBut b o hb e) f0 f1 f3 f4 f5
    have fr:H s.heap.objs.size=none:=I.hok.fresh (aS _)
    have nit:s.heap.objs.size≠it:=(cA (bO st)).symm
    have e2:h2.get? s.heap.objs.size=some {cls:=.type "tuple",data:=.seq #[key,u]}:=sb.extBut _ _ nit ht'
    have I3:Inv X pins σ (upd H s.heap.objs.size (.tup [kV kvs[i].1,kvs[i].2])) {s with heap:=h2}:=by
      have kall:∀ b v,s.heap.get? b=some v->b≠it->h2.get? b=some v:=fun b v q n=>sb.extBut b v n (kp b v n q)
      exact ⟨I2.ok,I2.os,I2.bare,⟨I2.base.keep,I2.base.slot,fun b ob q n hx=>by
          have z:=I2.base.free b ob q n hx
          by_cases y:b=s.heap.objs.size
          · exfalso
            have lt:b < s.heap.objs.size:=bP (bO q) I.sz
            rw [y] at lt
            exact absurd lt (ij _)
          · rw [aY y]
            exact z,I2.base.there,fun b xs q=>by
          rw [aY (aJ (I2.base.tups b xs q) fr)]
          exact I2.base.tups b xs q,fun b ob v q=>by
          rw [aY (aJ (I2.base.frzs b ob v q) fr)]
          exact I2.base.frzs b ob v q,fun b ps q=>by
          obtain ⟨m,z⟩:=I2.base.tbls b ps q
          exact ⟨m,by rw [aY (aJ z fr)]; exact z⟩⟩,I2.loc,I2.cell,by
          rw [aY (cA I.lt)]
          exact I2.free,fun x c q=>by
          obtain ⟨v,y⟩:=I.cell x c q
          rw [aY (cA y.lt)]
          exact I2.freeC x c q,fun p hp=>by
          obtain ⟨h1,h2',h3⟩:=I2.pin p hp
          obtain ⟨g1,_⟩:=I.pin p hp
          refine ⟨h1,?_,h3⟩
          rw [aY (cA (bO g1))]
          exact h2',fun b v q=>by
          by_cases y:b=s.heap.objs.size
          · subst y
            rw [ao] at q
            cases q
            exact ⟨(by show 2<=aE; decide),[key,u],.cons (zS hk) (.cons ru .nil),_,e2,rfl,0,rfl⟩
          · rw [aY y] at q
            exact (I2.hok b v q).stay (fun c v' _ z=>z) (fun c z=>by rw [aY (aJ z fr)]; exact z) fun c xs z=>by rw [aY (aJ z fr)]; exact z,I2.len⟩
    refine ⟨.ref s.heap.objs.size,_,I3,rfl,⟨_,_,rfl,fr,hkv,rfl⟩,⟨_,_,by rw [hl]; exact hit2⟩,fun b hb=>?_⟩
    have e:b=it:=by simpa using hb
    subst e
    rw [aY (eS nit)]
    exact f0
  done:=by
    intro X hP hw hK hc i pins s σ H E I hf st hg
    subst hP hw hK
    obtain ⟨ok,ov,st⟩:=st
    obtain ⟨hd,hi⟩:=hg
    obtain ⟨vs,r,da⟩:=pk I hd
    have hl:=r.length
    obtain ⟨f0,f1,f2,f3,f4,f5⟩:=hf it (by simp)
    rw [hl] at st
    exact wpAny_pyNext_items_end (I.ok.hd hc) st da (wF (by omega)) fun h' eb=>⟨rfl,I.turned (t':=s.toks) (fun b o hb e=>eb b o hb e) f0 f1 f3 f4 f5⟩
  self:=fun A i s Q E ⟨ok,ov,st⟩ h=>by
    have ty:s.TypeIs (.ref it) "dict_itemiterator":=⟨_,st,rfl⟩
    refine wpAny_pyIter_slot ty F.slot_dict_itemiterator_iter (wpAny_call_entry F.slot_dict_itemiterator_iter ty pj ?_ (F.args_dict_itemiterator_iter_1 _))
    show b8 _ _ (ret (.ref it)) _ _ s
    exact cg ⟨_,rfl,"dict_itemiterator",_,ty,F.slot_dict_itemiterator_next.lookup,h⟩
end
section
variable {X:Cx} {o:cZ} {to:TE} {apos cpos:Pos} {elts:List cZ} {x1:Nat} {pos:Pos}
def D0 (X:Cx) (to:TE):TI:=fun σ H R=>to σ H fun x H1=>∃ d kvs,x=.ref d/\H1 d=some (.dK kvs)/\(∀ ob u,X.H₀ d≠some (.frz ob u))/\∀ od,R (Iti d od kvs) (upd H1 d (.frz od (.dK kvs)))
theorem zU (ho:PE X o to) (hbase:mK o "items" X.env (gj o X.env)=gj o X.env:=by rfl) (hline:(apos.endLine == cpos.line)=true:=by rfl):PI X (.Tuple elts x1 pos) (.Call (.Attribute o "items" apos) [] [] cpos) (D0 X to):=by
  intro pins s σ H R I h
  refine zc hbase hline (thn (ho pins s σ H _ I h) fun v s1 ⟨x,H1,I1,r1,d,kvs,ex,hd,nf,q⟩=>?_)
  subst ex
  cases r1
  obtain ⟨hz,n1,ws,k1,m1⟩:=(show eP X.prog X.w H1 s1.heap d (.dK kvs) from I1.hok d _ hd)
  obtain ⟨ob,_,_,g1,g2,_⟩:=id m1
  refine ⟨"dict","dict.items",iX,sO,PySem.F.type_dict_items,m1.typeIs,fun a e=>?_,me rfl (xi ?_)⟩
  · cases e
    exact ⟨ob,g1,g2.2.1⟩
  refine lD sO m1.typeIs PySem.F.entry_dict_items (PySem.F.args_dict_items_1 _) (meets_dict_items (fg X.prog X.w) d n1) ⟨⟨ws,m1⟩,?_⟩
  have I2:Inv X pins σ H1 {s1 with heap:=s1.heap.push {cls:=.type "dict_items",data:=.fields #[.ref d]}}:=I1.kept (t':=s1.toks) fun b ob q=>aU _ q
  obtain ⟨od,g3,I3⟩:=I2.freeze hd nf
  obtain ⟨vs,r,da⟩:=pk I3 (ao:upd H1 d (.frz od (.dK kvs)) d=_)
  refine wpAny_pyIter_items ⟨_,cQ _ rfl,rfl,rfl⟩ da ?_
  have lt:=bO g3
  refine ⟨_,[_],_,_,_,rfl,I3.kept (t':=s1.toks) fun b ob q=>aU _ q,wD d _ od kvs (cA lt),⟨.none,.none,?_⟩,fun b hb=>?_,q od⟩
  · rw [r.length]
    exact cQ _ rfl
  · have e:b=_:=aQ.mp hb
    subst e
    exact I3.fpOk (aS _) (I3.hok.fresh (aS _))
end
theorem yD {d:ae} {od:Obj} {kvs:List (Key×V)} {g:TG} {tb:TS} {D:lB} {σ:St} {H:Hp} (Pv:Nat->St->Hp->Prop) (h0:Pv 0 σ H) (hl:∀ i σ H,i<=kvs.length->Pv i σ H->H d=some (.frz od (.dK kvs)))
    (hs:∀ i kv t σ H,kvs[i]?=some kv->Pv i σ H->H t=none->g (.ref t) σ (upd H t (.tup [kV kv.1,kv.2])) fun σ2 H2=>tb {D with nx:=Pv (i + 1),ct:=Pv (i + 1),bk:=D.nx} σ2 H2) (hd:∀ σ H,Pv kvs.length σ H->D.nx σ H) :
    ∃ W:Nat->Nat->St->Hp->Prop,(∃ m,W 0 m σ H)/\∀ i m σ H,W i m σ H ->
      ((Iti d od kvs).stop i H/\D.nx σ H)\/((Iti d od kvs).go i H/\∃ N:St->Hp->Prop,(∀ σ' H',N σ' H'->∃ m',m' < m/\W (i + 1) m' σ' H')/\∀ x H',(Iti d od kvs).yld i H x H'->g x σ H' fun σ2 H2=>tb {D with nx:=N,ct:=N,bk:=D.nx} σ2 H2):=by
  refine ⟨fun i m σ H=>m=kvs.length - i/\i<=kvs.length/\Pv i σ H,⟨kvs.length,by simp,bV _,h0⟩,?_⟩
  rintro i m σ H ⟨rfl,hi,p⟩
  have q:=hl i σ H hi p
  by_cases lt:i < kvs.length
  · refine .inr ⟨⟨q,lt⟩,Pv (i + 1),fun σ' H' p'=>⟨kvs.length - (i + 1),by omega,rfl,lt,p'⟩,fun x H' y=>?_⟩
    obtain ⟨t,kv,rfl,ht,hk,rfl⟩:=y
    exact hs i kv t σ H hk p ht
  · have e:i=kvs.length:=by omega
    subst e
    exact .inl ⟨⟨q,aS _⟩,hd σ H p⟩
def CK (X:Cx) (D:lB):lB where
  nx:=fun σ H=>∃ d od kvs,H d=some (.frz od (.dK kvs))/\(∀ ob u,X.H₀ d≠some (.frz ob u))/\D.nx σ (upd H d (.dK kvs))
  rt:=D.rt
  bk:=D.bk
  ct:=D.ct
theorem qf {X:Cx} {st:dU} {t:TS} (h:PS X st t):PS X st (fun D σ H=>t (CK X D) σ H):=by
  intro pins s σ H D I q
  refine thn (h pins s σ H (CK X D) I q) fun fl s1 z=>?_
  cases fl with
  | next =>
    obtain ⟨σ',H',I',d,od,kvs,e,nf,y⟩:=z
    exact ⟨σ',_,I'.thaw e nf,y⟩
  | brk=>exact z
  | cont=>exact z
  | ret u=>exact z
end L2
namespace L2
open PySem PySem.Spec PyProof.Rows PySem.SeqAt
section
variable {P:aX} {w:cz} {H:Hp} {s:ax}
end
section
variable {X:Cx}
end
end L2
namespace L2
open PySem PySem.Spec PyProof.Rows PySem.SeqAt
section
variable {P:aX} {w:cz} {H:Hp} {s:ax}
end
section
variable {X:Cx}
end
end L2
namespace L2
open PySem PySem.Spec PyProof.Rows
section
variable {X:Cx} {pins:List (ae×Obj)} {σ:St} {H:Hp} {s s2:ax} {h':cR}
end
section
variable {P:aX} {w:cz} {K:aj}
end
section
variable {X:Cx} {elts:List cZ} {x1:Nat} {tpos pos p:Pos}
end
section
variable {prog:aX} {w:cz} {A:cO} {E:af->ax->Prop} {s:ax}
end
section
variable {X:Cx} {e:cZ} {t:TA} {p pos kp bp:Pos} {j:Nat}
end
section
variable {X:Cx}
end
section
variable {X:Cx} {CX:CXT} {k:Nat} {ι:Type} {fm C:ι->ae} {fd:ι->cH} {ps:List Str} {sp:ι->Sp} {E:XK} {m:Str} {pos apos:Pos} {o:cZ} {ta:TE}
end
end L2
namespace L2
open PySem PySem.Spec PyProof.Rows
section
variable {X:Cx}
def rSlS:V->Option Int->Option Int->Hp->VK->Prop:=fun x lo hi H Q=>∃ y,x=.str y/\y.length<=aE/\Q (.str (kN y lo hi)) H
theorem Ea:SlR X rSlS:=by
  intro pins s σ H x v vl vu lo hi sl Q I rx hs pl pu h
  obtain ⟨y,rfl,hy,q⟩:=h
  obtain ⟨t,rfl⟩:=rx
  have fin:∀ (l u:Option (Int×Tok)),kN y (l.map (·.1)) (u.map (·.1))=kN y lo hi->s.heap.IsSlice sl l u none->∃ T id,Dy (.type T) "__getitem__"=pure (some (.builtin id))/\s.TypeIs (.str y t) T/\b8 (cm X.prog X.w) X.A (rJ (.str y t) (.ref sl)) (EP X pins σ Q) X.xe s:=fun l u e h=>by
    refine ⟨"str",_,F.slot_str_getitem.lookup,DG _ _ _,wpAny_getItem_str_slice (l:=l) (u:=u) (st:=none) h rfl (post_val_or_str ⟨cU (Txt.slice_le y (l.map (·.1)) (u.map (·.1))) hy,fun t' k=>?_⟩)⟩
    exact ⟨.str (kN y lo hi),H,I.tok _,⟨t',by rw [<- e]; rfl⟩,q⟩
  cases pl with
  | none=>cases pu with
    | none=>exact fin none none rfl hs
    | int j u=>exact fin none (some (j,u)) rfl hs
  | int i u=>cases pu with
    | none=>exact fin (some (i,u)) none rfl hs
    | int j u'=>exact fin (some (i,u)) (some (j,u')) rfl hs
end
end L2
namespace L2
open PySem PySem.Spec PyProof.Rows
def Itk (d:ae) (od:Obj) (kvs:List (Key×V)):It:=
  ⟨fun i H=>H d=some (.frz od (.dK kvs))/\i < kvs.length,fun i H x H'=>H'=H/\∃ kv,kvs[i]?=some kv/\x=kV kv.1,fun i H=>H d=some (.frz od (.dK kvs))/\kvs.length<=i⟩
section
variable {P:aX} {w:cz} {K:aj}
theorem yE {tg:cZ} (d it:ae) (od:Obj) (kvs:List (Key×V)):yh P w K tg (Itk d od kvs) [it] it (fun i h=>h.IsKeyIter it d i kvs.length (zT od)) where
  mem:=by simp
  obj:=fun i h st b hb=>by
    have e:b=it:=by simpa using hb
    subst e
    obtain ⟨o,e,c,d⟩:=st
    exact ⟨o,e,fun v z=>by rw [d] at z; cases z⟩
  keep:=fun i h h' st k=>st.at fun o e=>k it (by simp) o e
  item:=by
    intro X hP hw hK hc i pins s σ H E I hf st hg
    subst hP hw hK
    obtain ⟨hd,hi⟩:=hg
    obtain ⟨vs,r,da⟩:=pk I hd
    have hl:=r.length
    have hkv:kvs[i]?=some kvs[i]:=cC hi
    obtain ⟨u,hu,ru⟩:=r.at_ hkv
    obtain ⟨f0,f1,f2,f3,f4,f5⟩:=hf it (by simp)
    rw [hl] at st
    refine wpAny_pyNext_dict_item st da hu fun key h' hk st' sb=>?_
    have I1:Inv X pins σ H {s with heap:=h'}:=I.turned (t':=s.toks) (fun b o hb e=>(sb.2 b hb).trans e) f0 f1 f3 f4 f5
    obtain ⟨o,e,c,dd⟩:=id st'
    exact ⟨key,rfl,w8 (s:={s with heap:=h'}) e c dd (by decide) ⟨kV kvs[i].1,H,I1,zS hk,⟨rfl,_,hkv,rfl⟩,by rw [hl]; exact st',fun b hb=>(hf b hb).1⟩⟩
  done:=by
    intro X hP hw hK hc i pins s σ H E I hf st hg
    subst hP hw hK
    obtain ⟨hd,hi⟩:=hg
    obtain ⟨vs,r,da⟩:=pk I hd
    have hl:=r.length
    obtain ⟨f0,f1,f2,f3,f4,f5⟩:=hf it (by simp)
    rw [hl] at st
    exact wpAny_pyNext_dict_end (I.ok.hd hc) st da (wF (by omega)) fun h' eb=>⟨rfl,I.turned (t':=s.toks) (fun b o hb e=>eb b o hb e) f0 f1 f3 f4 f5⟩
  self:=fun _ _ _ _ _ st h=>wpAny_pyIter_keyiter st h
end
section
variable {X:Cx} {o:cZ} {to:TE} {tg:cZ}
def iKeys (X:Cx) (to:TE):TI:=fun σ H R=>to σ H fun x H1=>∃ d kvs,x=.ref d/\H1 d=some (.dK kvs)/\(∀ ob u,X.H₀ d≠some (.frz ob u))/\∀ od,R (Itk d od kvs) (upd H1 d (.frz od (.dK kvs)))
theorem tU (ho:PE X o to):PI X tg o (iKeys X to):=by
  intro pins s σ H R I h
  refine thn (ho pins s σ H _ I h) fun v s1 ⟨x,H1,I1,r1,d,kvs,ex,hd,nf,q⟩=>?_
  subst ex
  cases r1
  obtain ⟨hz,n1,ws,k1,m1⟩:=(show eP X.prog X.w H1 s1.heap d (.dK kvs) from I1.hok d _ hd)
  obtain ⟨od,g3,I3⟩:=I1.freeze hd nf
  obtain ⟨vs,r,da⟩:=pk I3 (ao:upd H1 d (.frz od (.dK kvs)) d=_)
  refine wpAny_pyIter_dict n1 da ?_
  refine ⟨s1.heap.objs.size,[s1.heap.objs.size],_,_,_,rfl,I3.kept (t':=s1.toks) fun b ob q=>aU _ q,yE d _ od kvs,?_,fun b hb=>?_,q od⟩
  · rw [r.length]
    exact ⟨_,cQ _ rfl,rfl,rfl⟩
  · have e:b=_:=aQ.mp hb
    subst e
    exact I3.fpOk (aS _) (I3.hok.fresh (aS _))
end
theorem qS {d:ae} {od:Obj} {kvs:List (Key×V)} {g:TG} {tb:TS} {D:lB} {σ:St} {H:Hp} (Pv:Nat->St->Hp->Prop) (h0:Pv 0 σ H) (hl:∀ i σ H,i<=kvs.length->Pv i σ H->H d=some (.frz od (.dK kvs)))
    (hs:∀ i kv σ H,kvs[i]?=some kv->Pv i σ H->g (kV kv.1) σ H fun σ2 H2=>tb {D with nx:=Pv (i + 1),ct:=Pv (i + 1),bk:=D.nx} σ2 H2) (hd:∀ σ H,Pv kvs.length σ H->D.nx σ H) :
    ∃ W:Nat->Nat->St->Hp->Prop,(∃ m,W 0 m σ H)/\∀ i m σ H,W i m σ H ->
      ((Itk d od kvs).stop i H/\D.nx σ H)\/((Itk d od kvs).go i H/\∃ N:St->Hp->Prop,(∀ σ' H',N σ' H'->∃ m',m' < m/\W (i + 1) m' σ' H')/\∀ x H',(Itk d od kvs).yld i H x H'->g x σ H' fun σ2 H2=>tb {D with nx:=N,ct:=N,bk:=D.nx} σ2 H2):=by
  refine ⟨fun i m σ H=>m=kvs.length - i/\i<=kvs.length/\Pv i σ H,⟨kvs.length,by simp,bV _,h0⟩,?_⟩
  rintro i m σ H ⟨rfl,hi,p⟩
  have q:=hl i σ H hi p
  by_cases lt:i < kvs.length
  · refine .inr ⟨⟨q,lt⟩,Pv (i + 1),fun σ' H' p'=>⟨kvs.length - (i + 1),by omega,rfl,lt,p'⟩,fun x H' y=>?_⟩
    obtain ⟨rfl,kv,hk,rfl⟩:=y
    exact hs i kv σ H' hk p
  · have e:i=kvs.length:=by omega
    subst e
    exact .inl ⟨⟨q,aS _⟩,hd σ H p⟩
end L2
namespace PySem
open SeqAt MeetsSeq MeetsSeq2 MeetsSeq3 SeqRoads2
section
variable {prog:aX} {w:cz} {A:cO} {s:ax}
variable {K:Type} [DecidableEq K] {knd:KeyKind prog w K}
theorem yF (d b:ae) (hd:(d == eB)=false) (hb:(b == eB)=false) :
    E5 prog w (pN.«dict.__ne__» ⟨[.ref d,.ref b],[]⟩) (fun A R s=>∃ kvs kws,s.heap.DictOf knd d kvs/\s.heap.DictOf knd b kws/\kvs.length=kws.length /\
      (∀ kv∈kvs,∃ v',kz kws kv.1=some v'/\kj prog w A.in1 s kv.2 v')/\R (.ok (.ret (.bool false))) s):=
  .of_wp fun A R s h=>by
    obtain ⟨kvs,kws,m1,m2,hl,he,q⟩:=h
    unfold pN.«dict.__ne__»
    show b8 _ _ (ic "__ne__" ⟨[.ref d,.ref b],[]⟩ >>= _) _ _ s
    refine aF ?_
    unfold ic
    unfold pV
    rw [if_neg (by decide)]
    refine aF (cg ?_)
    show b8 _ _ (pure (Value.ref d,Value.ref b)) _ _ s
    refine cg ?_
    dsimp only
    refine aF (wpAny_isInstance m2.typeIs CI ?_)
    rw [if_neg (by decide)]
    refine aF (cg (aF (cg (aF (uT hd hb m1 m2 hl he ?_)))))
    exact cg ⟨_,rfl,q⟩
theorem wG {d b:ae} {kvs kws:List (K×af)} (hd:(d == eB)=false) (hb:(b == eB)=false) (m1:s.heap.DictOf knd d kvs) (m2:s.heap.DictOf knd b kws) (hl:kvs.length=kws.length) (hu:A.units < gp)
    (he:∀ kv∈kvs,∃ v',kz kws kv.1=some v'/\kj prog w A.in1 s kv.2 v') (E:af->ax->Prop) (Q:af->ax->Prop) (q:Q (.bool false) s):b8 (cm prog w) A (richCompare .NotEq (.ref d) (.ref b)) Q E s:=
  lF (op:=.NotEq) m1.typeIs m2.typeIs F.slot_dict_ne (lD F.slot_dict_ne m1.typeIs F.entry_dict_ne (F.args_dict_ne_2 _ _) (yF (knd:=knd) d b hd hb) ⟨kvs,kws,m1,m2,hl,he,⟨fun z=>(nomatch z),q⟩⟩) hu
end
end PySem
namespace L2
open PySem PySem.Spec PyProof.Rows PySem.SeqAt
section
variable {X:Cx}
theorem zV (hu:X.A.units + 50 < gp):OpR X (fX .NotEq) (fun x y H Q=>∃ n p q kvs kws,n<=20/\x=.ref p/\y=.ref q/\H p=some (.dK kvs)/\H q=some (.dK kws)/\bJ (fun (a b:Key×V)=>a.1=b.1/\DEq H n a.2 b.2) kvs kws/\Q (.bl false) H):=by
  intro pins s σ H x y v u Q I rx ry h
  obtain ⟨n,p,q,kvs,kws,hn,rfl,rfl,h1,h2,r,k⟩:=h
  cases rx
  cases ry
  have fin:EP X pins σ Q (.bool false) s:=⟨.bl false,H,I,rfl,k⟩
  have hu1:X.A.units < gp:=by omega
  have hin2:X.A.in1.units + n + 20 < gp:=by
    show X.A.units + 1 + n + 20 < gp
    omega
  obtain ⟨_,n1,us,k1,m1⟩:=(show eP X.prog X.w H s.heap p (.dK kvs) from I.hok p _ h1)
  obtain ⟨_,n2,vs,k2,m2⟩:=(show eP X.prog X.w H s.heap q (.dK kws) from I.hok q _ h2)
  obtain ⟨e,z⟩:=xw r k1 k2
  refine wG n1 n2 m1 m2 e hu1 (fun kv hkv=>?_) _ _ fin
  obtain ⟨i,hi⟩:=dh hkv
  obtain ⟨q',a,b,g1,⟨g2,g3⟩,g4,g5,g6,g7⟩:=z i kv hi
  obtain ⟨_,_,_,_,_,_,_,_,nd⟩:=id m2
  have g8:vs[i]?=some (kv.1,q'.2):=by
    rw [g1,<- g4,g2,g5]
  exact ⟨q'.2,valueAt_of_get nd g8,qR I.hok hin2 g3 g6 g7⟩
theorem yG:MtR X "dict.clear" (fun x vs H Q=>∃ d kvs,x=.ref d/\vs=[]/\H d=some (.dK kvs)/\Q .non (upd H d (.dK []))):=by
  intro pins s σ H x vs v us Q I rx rv h
  obtain ⟨d,kvs,rfl,rfl,hd,q⟩:=h
  cases rx
  cases rv
  exact Bo I hd fun s' I'=>⟨.non,_,I',rfl,q⟩
theorem yH:MtR X "list.clear" (fun x vs H Q=>∃ l xs,x=.ref l/\vs=[]/\H l=some (.lst xs)/\Q .non (upd H l (.lst []))):=by
  intro pins s σ H x vs v us Q I rx rv h
  obtain ⟨l,xs,rfl,rfl,hH,q⟩:=h
  cases rx
  cases rv
  obtain ⟨z,its,n,r,hl,e⟩:=I.lstM hH
  refine vX F.slot_list_clear ⟨_,e,rfl⟩ F.entry_list_clear (F.args_list_clear_1 _) (AutoSeq1.list_clear_list_0 l its.toArray n (by rw [bg]; omega)) ⟨e,?_⟩
  exact ⟨.non,_,I.lset (its':=[]) hH e (by simp) .nil (bV _),rfl,q⟩
end
end L2
namespace My
open PySem L2
def top (i:Nat):dU:=PySem.Challenge.pw_momentloom_k10_happenings_done.main.body.getD i (.Pass ⟨0,0,0,0⟩)
abbrev hW:dU:=ib (top 3) 0
abbrev iB:dU:=ib (top 4) 0
abbrev iY:dU:=ib (top 5) 0
abbrev ju:dU:=ib (top 6) 0
abbrev iZ:dU:=ib (top 7) 0
abbrev i5:dU:=ib (top 8) 0
abbrev iQ:dU:=top 10
abbrev eQ:dU:=top 11
abbrev fc:dU:=top 12
abbrev dA:dU:=top 13
abbrev iC:dU:=ib (top 15) 0
abbrev gv:dU:=ib (top 15) 1
abbrev d9:dU:=ib (top 15) 2
abbrev dP:dU:=ib (top 15) 3
abbrev eZ:dU:=ib (top 15) 4
abbrev px:dU:=top 16
abbrev jv:dU:=top 17
abbrev fH:dU:=top 18
abbrev i9:dU:=top 19
abbrev gB:dU:=top 20
abbrev jw:dU:=top 21
abbrev jx:dU:=top 22
abbrev jy:dU:=top 23
abbrev jz:dU:=top 24
abbrev jA:dU:=top 25
abbrev jM:dU:=top 27
abbrev iD:dU:=ib (top 28) 0
abbrev gW:dU:=ib (top 29) 0
abbrev gx:dU:=ib (top 29) 1
abbrev ja:dU:=top 31
abbrev il:dU:=top 32
abbrev jb:dU:=top 33
abbrev eE:dU:=top 34
abbrev ip:dU:=top 35
abbrev gC:dU:=top 36
abbrev fk:dU:=top 37
abbrev iR:dU:=top 38
abbrev iS:dU:=top 39
abbrev gS:dU:=top 40
abbrev gD:dU:=top 41
abbrev iq:dU:=top 42
abbrev iE:dU:=top 44
abbrev fu:dU:=top 45
abbrev jB:dU:=top 46
abbrev jc:dU:=top 47
abbrev gO:dU:=top 48
abbrev jC:dU:=top 49
abbrev ir:dU:=top 50
abbrev jd:dU:=top 51
abbrev gE:dU:=top 52
abbrev fi:dU:=top 53
abbrev jD:dU:=top 54
abbrev je:dU:=top 55
abbrev jf:dU:=top 56
abbrev sP:dU:=top 57
end My
namespace My
open PySem L2
structure Df (K:aj) (mg:Str->Option af) (x:Str) (st:dU) (ps:List Str) (f:ae) (fd:cH):Prop where
  F:Fun K x x st f fd
  b:Binds K fd ps []
  m:mg x=some (.ref f)
structure Bl (mg:Str->Option af):Prop where
  len:mg "len"=none
  abs:mg "abs"=none
  isi:mg "isinstance"=none
  list:mg "list"=none
  tuple:mg "tuple"=none
  str:mg "str"=none
  int:mg "int"=none
  bool:mg "bool"=none
  range:mg "range"=none
  max:mg "max"=none
  dict:mg "dict"=none
theorem boot_abs:eI "abs"=some (.builtin "abs"):=by decide +kernel
theorem eF:eI "isinstance"=some (.builtin "isinstance"):=by decide +kernel
theorem boot_list:eI "list"=some (.type "list"):=by decide +kernel
theorem boot_tuple:eI "tuple"=some (.type "tuple"):=by decide +kernel
theorem boot_str:eI "str"=some (.type "str"):=by decide +kernel
theorem boot_int:eI "int"=some (.type "int"):=by decide +kernel
theorem boot_bool:eI "bool"=some (.type "bool"):=by decide +kernel
theorem boot_max:eI "max"=some (.builtin "max"):=by decide +kernel
theorem boot_dict:eI "dict"=some (.type "dict"):=by decide +kernel
def But (p:ae) (H H':Hp):Prop:=∀ b o,H b=some o->b≠p->H' b=some o
theorem But.refl (p:ae) (H:Hp):But p H H:=fun _ _ e _=>e
theorem But.trans {p:ae} {H H1 H2:Hp} (a:But p H H1) (b:But p H1 H2):But p H H2:=fun c o e n=>b c o (a c o e n) n
theorem But.upd (p:ae) (H:Hp) (o:HO):But p H (upd H p o):=fun b u e n=>by rw [aY n]; exact e
theorem But.same {p:ae} {H H1 H2:Hp} (a:But p H H1) (b:cF H1 H2):But p H H2:=fun c o e n=>b c o (a c o e n)
theorem aM {H:Hp} {p:ae} (h:H p=none) (o:HO):cF H (upd H p o):=fun b u q=>by rw [aY (aJ q h)]; exact q
theorem gc {c:Prop} [Decidable c] (h:decide c=true):c:=of_decide_eq_true h
theorem hU {c:Prop} [Decidable c] (h:¬ decide c=true):¬ c:=fun z=>h (decide_eq_true z)
theorem lt2:2<=aE:=by decide
theorem lt5:5<=aE:=by decide
end My
namespace My
open PySem L2
section
variable {P:aX} {w:cz} {K:aj} {mg:Str->Option af} {base:cR} {f fM fD:ae} {fd fdM fdD:cH}
def xx:Sp:=fun vs H Q _=>∃ c k:Int,vs=[.int c,.int k]/\eU c<=1048576/\∀ r:Int,Q (.int r) H
theorem yI (x:Int):-(2 ^ 64) < x % 2147483629/\x % 2147483629 < 2 ^ 64:=by
  have h1:=ie x (show (2147483629:Int)≠0 by decide)
  have h2:=gk x (show (0:Int) < 2147483629 by decide)
  omega
theorem scM:cD ["_law_cell","_law_k","_law_number"] ["_law_cell","_law_k"] (aB il):=⟨rfl,rfl,rfl,by decide +kernel,rfl,by decide +kernel,by decide +kernel⟩
theorem zW (D:Df K mg "_law_mixed" il ["_law_cell","_law_k"] f fd):bZ P w K mg base CX0 1 f fd ["_law_cell","_law_k"] xx:=by
  refine D.F.ok scM (fun vs H Q E h=>?_) (fun cdv A outer s H vs Q E hr h=>?_)
  · obtain ⟨c,k,rfl,_⟩:=h
    rfl
  obtain ⟨c,k,rfl,hc,q⟩:=h
  refine ⟨_,ah (bF (i:=2) scM.nd rfl (Or.inl rfl) (cJ kU (cJ jQ (cJ fZ (cJ fZ (cJ fZ (cJ Bu (pv 0) (pv 0)) (cJ jQ ag (pv 0))) (cJ jQ ag (pv 1))) ag) ag) ag))
    (au (bD (cJ kU (cJ fZ (cJ jQ (pv 2) (pv 2)) ag) ag))),?_⟩
  refine ⟨_,rfl,_,rfl,_,_,rfl,rfl,.of_bits hc hc,_,rfl,_,_,rfl,rfl,.inl ⟨by decide,by decide⟩,_,_,rfl,rfl,_,rfl,_,_,rfl,rfl,.inl ⟨by decide,by decide⟩,_,_,rfl,rfl,_,_,rfl,rfl,_,_,rfl,rfl,.inr ⟨by decide,by decide⟩,_,_,rfl,rfl,(by show (0:Int) < 2147483629; decide),?_⟩
  refine ⟨_,rfl,_,rfl,_,_,rfl,rfl,.inl (yI _),_,_,rfl,rfl,_,_,rfl,rfl,(by show (0:Int) < 2147483587; decide),?_⟩
  exact q _
def dD (H:Hp) (p:ae):Prop:=∃ x y:Int,H p=some (.lst [.int x,.int y])
theorem dD.same {H H':Hp} {p:ae} (a:dD H p) (b:cF H H'):dD H' p:=by
  obtain ⟨x,y,e⟩:=a
  exact ⟨x,y,b _ _ e⟩
def jE:Sp:=fun vs H Q _=>∃ (p:ae) (n:Int),vs=[.ref p,.int n]/\dD H p/\0 < n/\n < 2 ^ 64/\∀ (r:Int) (H':Hp),0<=r->r < n->dD H' p->But p H H'->Q (.int r) H'
theorem scD:cD ["_law_purse_here","_law_out_of","_law_drawn_here"] ["_law_purse_here","_law_out_of"] (aB eE):=⟨rfl,rfl,rfl,by decide +kernel,rfl,by decide +kernel,by decide +kernel⟩
theorem jH (D:Df K mg "_law_draw" eE ["_law_purse_here","_law_out_of"] f fd):bZ P w K mg base CX0 1 f fd ["_law_purse_here","_law_out_of"] jE:=by
  refine D.F.ok scD (fun vs H Q E h=>?_) (fun cdv A outer s H vs Q E hr h=>?_)
  · obtain ⟨p,n,rfl,_⟩:=h
    rfl
  obtain ⟨p,n,rfl,⟨x,y,hp⟩,hn,hn2,q⟩:=h
  refine ⟨_,ah (cK (bE di (aP bT (pv 0) ag (fun _ _=>rfl)) ag (bM _)) (au (oU (aP bT (pv 0) ag (fun _ _=>rfl)) (qv (pv 0) ag mP))) bH)
    (ah (bF (i:=2) scD.nd rfl (Or.inl rfl) (cJ kU (aP bT (pv 0) ag (fun _ _=>rfl)) (pv 1)))
    (ah (oU (cJ qN (aP bT (pv 0) ag (fun _ _=>rfl)) (pv 1)) (qv (pv 0) ag mP))
    (au (bD (pv 2))))),?_⟩
  refine ⟨_,rfl,p,_,_,_,rfl,rfl,SqL.of hp,rfl,rfl,_,rfl,?_⟩
  refine gH (fun c=>?_) (fun c=>?_)
  · refine ⟨_,rfl,p,_,_,_,rfl,rfl,SqL.of hp,rfl,_,rfl,p,_,_,_,rfl,rfl,hp,rfl,?_⟩
    have hp1:upd H p (.lst [.int y,.int y]) p=some (.lst [.int y,.int y]):=ao
    refine ⟨_,rfl,p,_,_,_,rfl,rfl,SqL.of hp1,rfl,_,rfl,_,_,rfl,rfl,hn,?_⟩
    refine ⟨_,rfl,p,_,_,_,rfl,rfl,SqL.of hp1,rfl,_,rfl,_,_,rfl,rfl,⟨hn,hn2⟩,_,rfl,p,_,_,_,rfl,rfl,hp1,rfl,?_⟩
    refine ⟨_,rfl,?_⟩
    exact q _ _ (ie _ (by omega)) (gk _ hn) ⟨_,_,ao⟩ ((But.upd p H _).trans (But.upd p _ _))
  · refine ⟨_,rfl,p,_,_,_,rfl,rfl,SqL.of hp,rfl,_,rfl,_,_,rfl,rfl,hn,?_⟩
    refine ⟨_,rfl,p,_,_,_,rfl,rfl,SqL.of hp,rfl,_,rfl,_,_,rfl,rfl,⟨hn,hn2⟩,_,rfl,p,_,_,_,rfl,rfl,hp,rfl,?_⟩
    refine ⟨_,rfl,?_⟩
    exact q _ _ (ie _ (by omega)) (gk _ hn) ⟨_,_,ao⟩ (But.upd p H _)
def xy (K:aj):Sp:=fun vs H Q _=>∃ (a:ae) (ns:List Int),vs=[.ref a]/\SqL K H a (ns.map V.int)/\ns.length<=63/\(∀ x∈ns,eU x<=1048576)/\∀ (p:ae) (H':Hp),H p=none->dD H' p->cF H H'->Q (.ref p) H'
theorem scP:cD ["_law_script","_law_cells","_law_number","_law_k"] ["_law_script"] (aB jb):=⟨rfl,rfl,rfl,by decide +kernel,rfl,by decide +kernel,by decide +kernel⟩
theorem xA {xs:List V} {lo hi:Option Int} {v:V} (h:v∈lL xs lo hi):v∈xs:=by
  unfold lL at h
  exact List.mem_of_mem_drop (List.mem_of_mem_take h)
theorem Eb {xs:List V} (h:xs≠[]) (z:Int):∃ v,atI xs (z % (xs.length:Int))=some v/\v∈xs:=by
  have hl:0 < xs.length:=yJ.mpr h
  have h0:=ie z (show (xs.length:Int)≠0 by omega)
  have h1:=gk z (show (0:Int) < (xs.length:Int) by omega)
  obtain ⟨j,hj⟩:∃ j:Nat,z % (xs.length:Int)=(j:Int):=⟨(z % (xs.length:Int)).toNat,by omega⟩
  rw [hj] at h1 |-
  have hj2:j < xs.length:=by omega
  exact ⟨xs[j],jG (cC hj2),lV hj2⟩
theorem zX (D:Df K mg "_law_purse" jb ["_law_script"] f fd) (DM:Df K mg "_law_mixed" il ["_law_cell","_law_k"] fM fdM) (B:Bl mg):bZ P w K mg base CX0 2 f fd ["_law_script"] (xy K):=by
  have GM:bZ P w K mg base CX0 1 fM fdM ["_law_cell","_law_k"] xx:=zW DM
  refine D.F.ok scP (fun vs H Q E h=>?_) (fun cdv A outer s H vs Q E hr h=>?_)
  · obtain ⟨a,ns,rfl,_⟩:=h
    rfl
  obtain ⟨a,ns,rfl,hS,hlen,hbits,q⟩:=h
  refine ⟨_,ah (bF (i:=1) scP.nd rfl (Or.inl rfl) (cJ vZ (mO p6 (pv 0) p0 (j3 ag)) (el (aw ag ak))))
    (ah (bF (i:=2) scP.nd rfl (Or.inl rfl) ag)
    (ah (fq cj rfl (iV rfl B.range (aw ag ak)) (cP (i:=3) scP.nd rfl (Or.inl rfl))
      (au (bF (i:=2) scP.nd rfl (Or.inl rfl) (cJ fZ (cJ jQ (pv 2) ag) (aN GM hr rfl DM.m DM.F.kp DM.b .nil bR (aw (aP bT (pv 1) (cJ kU (pv 3) (cu gU (by rfl) B.len cw (aw (pv 1) ak))) (fun _ _=>rfl)) (aw (pv 3) ak)))))))
    (ah (cK (bE di (cJ kU (aP bT (pv 1) ag (fun _ _=>rfl)) ag) ag (bM _))
      (au (bD (el (aw (cu (yk rfl) (by rfl) B.max boot_max (aw (cJ qN (aP bT (pv 1) ag (fun _ _=>rfl)) ag) (aw (cJ gK (uB qx ag) (cJ qN (aP bT (pv 1) ag (fun _ _=>rfl)) ag)) ak))) (aw (pv 2) ak))))) bH)
    (au (bD (el (aw (pv 2) (aw (pv 2) ak)))))))),?_⟩
  -- cells = script[:63] + [0]
  refine ⟨_,rfl,_,rfl,a,_,rfl,hS,fun l hl=>⟨(by show 1<=aE; decide),fun m hm=>?_⟩⟩
  have hlm:l≠m:=aJ (ao:upd H l (.lst (lL (ns.map V.int) none (some 63))) l=_) hm
  have cl:(lL (ns.map V.int) none (some 63)).length<=63:=cU (pK _ _ _) (by rw [ai]; exact hlen)
  have l64:(lL (ns.map V.int) none (some 63)).length + [V.int 0].length<=aE:=by
    have z:64<=aE:=by decide
    rw [vY]
    omega
  refine ⟨l,m,_,_,rfl,rfl,(by rw [aY hlm]; exact ao),ao,l64,fun c hc=>?_⟩
  generalize hcs:lL (ns.map V.int) none (some 63)++[V.int 0]=cs at hc |-
  have sc:cF H (upd (upd (upd H l (.lst (lL (ns.map V.int) none (some 63)))) m (.lst [.int 0])) c (.lst cs)):=(aM hl _).trans ((aM hm _).trans (aM hc _))
  generalize hH:upd (upd (upd H l (.lst (lL (ns.map V.int) none (some 63)))) m (.lst [.int 0])) c (.lst cs)=H1 at sc |-
  have hc1:H1 c=some (.lst cs):=by rw [<- hH]; exact ao
  have nonil:cs≠[]:=by rw [<- hcs]; simp
  have cells:∀ v∈cs,∃ z:Int,v=.int z/\eU z<=1048576:=fun v hv=>by
    rw [<- hcs] at hv
    rcases cE.mp hv with z | z
    · obtain ⟨n,hn,rfl⟩:=cG.mp (xA z)
      exact ⟨n,rfl,hbits n hn⟩
    · rw [aQ.mp z]
      exact ⟨0,rfl,by decide⟩
  -- number = 1; for k in range(150)
  refine ⟨150,rfl,by decide,by decide,iW (n:=150) (fun i σ H2=>∃ (z:Int) (v:Option V),σ=[some (.ref a),some (.ref c),some (.int z),v]/\H2=H1) ⟨1,none,rfl,rfl⟩ ?_ ?_⟩
  · rintro i σ H2 hi ⟨z,v,rfl,rfl⟩
    obtain ⟨u,hu,hm2⟩:=Eb nonil (0 + (i:Int))
    obtain ⟨y,rfl,hy⟩:=cells u hm2
    have lpos:(0:Int) < (cs.length:Int):=by
      have:=yJ.mpr nonil
      omega
    refine ⟨_,rfl,_,_,rfl,rfl,.inr ⟨by decide,by decide⟩,_,rfl,_,rfl,_,rfl,c,_,rfl,.inl (SqL.of hc1),_,_,rfl,rfl,lpos,c,_,_,_,rfl,rfl,SqL.of hc1,hu,_,rfl,y,_,rfl,hy,fun r=>?_⟩
    exact ⟨_,_,rfl,rfl,_,_,rfl,rfl⟩
  · rintro σ H2 ⟨z,v,rfl,rfl⟩
    obtain ⟨x0,hx0⟩:∃ x0,cs[0]?=some x0:=by
      cases cs with
      | nil=>exact absurd rfl nonil
      | cons x0 r=>exact ⟨x0,rfl⟩
    obtain ⟨y,rfl,hy⟩:=cells x0 (cy hx0)
    have a0:atI cs 0=some (.int y):=jG (j:=0) hx0
    refine ⟨_,rfl,c,_,_,_,rfl,rfl,SqL.of hc1,a0,_,_,rfl,rfl,(by show (0:Int) < 2; decide),rfl,_,rfl,?_⟩
    have two:CA y 2:=⟨by decide,by decide⟩
    refine gH (fun _=>?_) (fun _=>?_)
    · refine ⟨_,rfl,c,_,_,_,rfl,rfl,SqL.of hc1,a0,_,_,rfl,rfl,two,_,rfl,_,rfl,c,_,_,_,rfl,rfl,SqL.of hc1,a0,_,_,rfl,rfl,two,_,_,rfl,rfl,_,_,rfl,_,rfl,lt2,fun p hp=>?_⟩
      exact q p _ (sc.free hp) ⟨_,_,ao⟩ (sc.trans (aM hp _))
    · refine ⟨_,rfl,_,rfl,lt2,fun p hp=>?_⟩
      exact q p _ (sc.free hp) ⟨_,_,ao⟩ (sc.trans (aM hp _))
end
end My
namespace My
open PySem L2
def wH:V->Prop
  | .int _=>True
  | .str _=>True
  | _=>False
def Tree (H:Hp):Nat->V->Prop
  | 0,v=>wH v
  | n + 1,v=>wH v\/∃ p xs,v=.ref p/\(H p=some (.lst xs)\/H p=some (.tup xs))/\xs.length < 1000/\∀ x∈xs,Tree H n x
def Alike (H H':Hp):Nat->V->V->Prop
  | 0,v,v'=>v'=v
  | n + 1,v,v'=>(wH v/\v'=v)\/(∃ p p' xs ys,v=.ref p/\v'=.ref p'/\H p=some (.lst xs)/\H' p'=some (.lst ys)/\bJ (Alike H H' n) xs ys) \/
      ∃ p p' xs ys,v=.ref p/\v'=.ref p'/\H p=some (.tup xs)/\H' p'=some (.tup ys)/\bJ (Alike H H' n) xs ys
theorem Alike.mono {H H1 H2:Hp} (s:cF H1 H2):∀ {n:Nat} {v v':V},Alike H H1 n v v'->Alike H H2 n v v'
  | 0,_,_,h=>h
  | n + 1,v,v',h=>by
    rcases h with h | ⟨p,p',xs,ys,e1,e2,h1,h2,r⟩ | ⟨p,p',xs,ys,e1,e2,h1,h2,r⟩
    · exact .inl h
    · exact .inr (.inl ⟨p,p',xs,ys,e1,e2,h1,s _ _ h2,L2.Paired.imp' (fun _ _ z=>Alike.mono s z) r⟩)
    · exact .inr (.inr ⟨p,p',xs,ys,e1,e2,h1,s _ _ h2,L2.Paired.imp' (fun _ _ z=>Alike.mono s z) r⟩)
theorem Tree.same {H H1:Hp} (s:cF H H1):∀ {n:Nat} {v:V},Tree H n v->Tree H1 n v
  | 0,_,h=>h
  | n + 1,v,h=>by
    rcases h with h | ⟨p,xs,e,h1,h2,h3⟩
    · exact .inl h
    · exact .inr ⟨p,xs,e,h1.imp (s _ _) (s _ _),h2,fun x hx=>Tree.same s (h3 x hx)⟩
theorem Alike.from {H H0 H1:Hp} (s:cF H H0):∀ {n:Nat} {v v':V},Tree H n v->Alike H0 H1 n v v'->Alike H H1 n v v'
  | 0,_,_,_,h=>h
  | n + 1,v,v',t,h=>by
    rcases t with t | ⟨q,zs,e,t1,t2,t3⟩
    · rcases h with h | ⟨p,p',xs,ys,e1,e2,h1,h2,r⟩ | ⟨p,p',xs,ys,e1,e2,h1,h2,r⟩
      · exact .inl h
      · rw [e1] at t
        exact t.elim
      · rw [e1] at t
        exact t.elim
    · rcases h with h | ⟨p,p',xs,ys,e1,e2,h1,h2,r⟩ | ⟨p,p',xs,ys,e1,e2,h1,h2,r⟩
      · exact .inl h
      · rw [e] at e1
        cases e1
        rcases t1 with t1 | t1
        · have z:=s _ _ t1
          rw [h1] at z
          cases z
          refine .inr (.inl ⟨q,p',zs,ys,e,e2,t1,h2,?_⟩)
          clear h1 t1 t2 h2
          induction r with
          | nil=>exact .nil
          | cons a b ih=>exact .cons (Alike.from s (t3 _ aA) a) (ih fun x hx=>t3 x (aa _ hx))
        · have z:=s _ _ t1
          rw [h1] at z
          cases z
      · rw [e] at e1
        cases e1
        rcases t1 with t1 | t1
        · have z:=s _ _ t1
          rw [h1] at z
          cases z
        · have z:=s _ _ t1
          rw [h1] at z
          cases z
          refine .inr (.inr ⟨q,p',zs,ys,e,e2,t1,h2,?_⟩)
          clear h1 t1 t2 h2
          induction r with
          | nil=>exact .nil
          | cons a b ih=>exact .cons (Alike.from s (t3 _ aA) a) (ih fun x hx=>t3 x (aa _ hx))
theorem Ec {K:aj}:aq K (.type "int") (.type "int")=some true:=by rfl
theorem Ed {K:aj}:aq K (.type "int") (.type "bool")=some false:=by kernel_rfl
theorem kit_is {K:aj}:aq K (.type "int") (.type "str")=some false:=by kernel_rfl
theorem iI {K:aj}:aq K (.type "str") (.type "str")=some true:=by rfl
theorem wI {K:aj}:aq K (.type "int") (.type "list")=some false:=by kernel_rfl
theorem zY {K:aj}:aq K (.type "str") (.type "list")=some false:=by kernel_rfl
theorem zZ {K:aj}:aq K (.type "int") (.type "tuple")=some false:=by kernel_rfl
theorem z5 {K:aj}:aq K (.type "str") (.type "tuple")=some false:=by kernel_rfl
theorem z6 {K:aj}:aq K (.type "list") (.type "list")=some true:=by rfl
theorem Ee {K:aj}:aq K (.type "tuple") (.type "list")=some false:=by kernel_rfl
theorem Ef {K:aj}:aq K (.type "tuple") (.type "tuple")=some true:=by rfl
def Nw (H G:Hp):Hp:=fun a=>if H a=none then G a else none
theorem j0 {H G:Hp} {a:ae} (n:H a=none):Nw H G a=G a:=if_pos n
theorem z7 {H G G':Hp} {p:ae} (hp:H p≠none) (b:But p G G'):cF (Nw H G) (Nw H G'):=fun a o e=>by
  by_cases c:H a=none
  · rw [j0 c] at e |-
    exact b _ _ e fun z=>hp (by rw [<- z]; exact c)
  · unfold Nw at e
    rw [if_neg c] at e
    cases e
theorem j5 {H G G':Hp} (s:cF G G'):cF (Nw H G) (Nw H G'):=fun a o e=>by
  by_cases c:H a=none
  · rw [j0 c] at e |-
    exact s _ _ e
  · unfold Nw at e
    rw [if_neg c] at e
    cases e
theorem nc {H0 H G:Hp} (d:∀ a,H a=none->H0 a=none):cF (Nw H G) (Nw H0 G):=fun a o e=>by
  by_cases c:H a=none
  · rw [j0 c] at e
    rw [j0 (d a c)]
    exact e
  · unfold Nw at e
    rw [if_neg c] at e
    cases e
theorem oC {H G:Hp} (s:cF H G):∀ a,G a=none->H a=none:=fun a n=>by
  cases z:H a with
  | none=>rfl
  | some o =>
    rw [s _ _ z] at n
    cases n
section
variable {P:aX} {w:cz} {K:aj} {mg:Str->Option af} {base:cR} {f fC fI CM CS:ae} {fd fdC fdI:cH}
def mW (n:Nat):Sp:=fun vs H Q _=>∃ v,vs=[v]/\Tree H n v/\∀ (v':V) (H':Hp),cF H H'->Alike H (Nw H H') n v v'->Q v' H'
theorem scC:cD ["thing"] ["thing"] (aB jM):=⟨rfl,rfl,rfl,by decide +kernel,rfl,by decide +kernel,by decide +kernel⟩
theorem xB:(["part","thing"]:List Str).Nodup:=by decide +kernel
theorem sQ {α β:Type} {R:α->β->Prop} {xs:List α} {ys:List β} {i:Nat} {x:α} {y:β} (r:bJ R (xs.take i) ys) (hx:xs[i]?=some x) (h:R x y):bJ R (xs.take (i + 1)) (ys++[y]):=by
  have e:xs.take (i + 1)=xs.take i++[x]:=by rw [ff,hx]; rfl
  rw [e]
  exact dB r h
theorem uZ {n:Nat} (D:Df K mg "copied" jM ["thing"] f fd) (B:Bl mg) (G:bZ P w K mg base CX0 (n + 1) f fd ["thing"] (mW n)):bZ P w K mg base CX0 (n + 2) f fd ["thing"] (mW (n + 1)):=by
  refine D.F.ok scC (fun vs H Q E h=>?_) (fun cdv A outer s H vs Q E hr h=>?_)
  · obtain ⟨v,rfl,_⟩:=h
    rfl
  obtain ⟨v,rfl,ht,q⟩:=h
  refine ⟨_,ah (cK (fo (cu dO (by rfl) B.isi eF (aw (pv 0) (aw (fG (v:=.ty "list") (by rfl) B.list boot_list rfl) ak))))
      (au (bD (m8 ["part"] (iP.closed (by decide +kernel) (by decide +kernel) rfl (by decide +kernel) (by intro n hn; rcases aQ.mp hn with rfl; decide +kernel)) rfl (fj (pv 0)) (fun _ _ _ _=>cP (i:=0) xB rfl (Or.inl rfl)) (fun _ _ _ _=>m7)
        (fun _ _ _ _=>aN G hr rfl D.m D.F.kp D.b .nil bR (aw (pv 0) ak))))) bH)
    (ah (cK (fo (cu dO (by rfl) B.isi eF (aw (pv 0) (aw (fG (v:=.ty "tuple") (by rfl) B.tuple boot_tuple rfl) ak))))
      (au (bD (hV rM (by rfl) B.tuple boot_tuple (aw (m8 ["part"] (iP.closed (by decide +kernel) (by decide +kernel) rfl (by decide +kernel) (by intro n hn; rcases aQ.mp hn with rfl; decide +kernel)) rfl (Dq (pv 0)) (fun _ _ _ _=>cP (i:=0) xB rfl (Or.inl rfl)) (fun _ _ _ _=>m7)
        (fun _ _ _ _=>aN G hr rfl D.m D.F.kp D.b .nil bR (aw (pv 0) ak))) ak)))) bH)
    (au (bD (pv 0)))),?_⟩
  have big:1000 < aE:=by decide
  rcases ht with ht | ⟨p,xs,rfl,hp,hl,hx⟩
  · cases v with
    | int i =>
      refine ⟨_,rfl,_,"list",_,false,rfl,.int i,wI,_,rfl,dY ?_⟩
      refine ⟨_,rfl,_,"tuple",_,false,rfl,.int i,zZ,_,rfl,dY ?_⟩
      exact ⟨_,rfl,q _ _ (cF.refl H) (.inl ⟨trivial,rfl⟩)⟩
    | str x =>
      refine ⟨_,rfl,_,"list",_,false,rfl,.str x,zY,_,rfl,dY ?_⟩
      refine ⟨_,rfl,_,"tuple",_,false,rfl,.str x,z5,_,rfl,dY ?_⟩
      exact ⟨_,rfl,q _ _ (cF.refl H) (.inl ⟨trivial,rfl⟩)⟩
    | non=>exact ht.elim
    | bl b=>exact ht.elim
    | byt b=>exact ht.elim
    | flt b=>exact ht.elim
    | ref a=>exact ht.elim
    | ty a=>exact ht.elim
  · rcases hp with hp | hp
    · refine ⟨_,rfl,_,"list",_,true,rfl,.lst hp,z6,_,rfl,eC ?_⟩
      refine ⟨_,rfl,p,rfl,⟨_,SqL.of hp⟩,lE (K:=K) (a:=p) (xs:=xs) (fun i ys H1=>i<=xs.length/\ys.length=i/\cF H H1/\bJ (Alike H (Nw H H1) n) (xs.take i) ys) ⟨bV _,rfl,cF.refl H,.nil⟩ ?_ ?_ ?_⟩
      · rintro i ys H1 hi ⟨_,h1,h2,_⟩
        exact ⟨SqL.of (h2 _ _ hp),by omega⟩
      · rintro i x ys H1 hi ⟨h0,h1,h2,h3⟩
        have hm:x∈xs:=cy hi
        have lt:i < xs.length:=(aL.mp hi).1
        refine ⟨rfl,?_⟩
        unfold wy
        refine eC ?_
        refine ⟨_,rfl,x,rfl,Tree.same h2 (hx x hm),fun v' H2 s2 al=>?_⟩
        exact ⟨lt,by rw [ay,h1]; rfl,h2.trans s2,sQ (L2.Paired.imp' (fun _ _ z=>Alike.mono (j5 s2) z) h3) hi (Alike.mono (nc (oC h2)) (Alike.from h2 (hx x hm) al))⟩
      · rintro ys H1 ⟨_,h1,h2,h3⟩ l hl'
        rw [cM] at h3
        refine q _ _ (h2.trans (aM hl' _)) (.inr (.inl ⟨p,l,xs,ys,rfl,rfl,hp,(by rw [j0 (oC h2 _ hl')]; exact ao),L2.Paired.imp' (fun _ _ z=>Alike.mono (j5 (aM hl' _)) z) h3⟩))
    · refine ⟨_,rfl,_,"list",_,false,rfl,.tup hp,Ee,_,rfl,dY ?_⟩
      refine ⟨_,rfl,_,"tuple",_,true,rfl,.tup hp,Ef,_,rfl,eC ?_⟩
      refine ⟨_,rfl,p,rfl,⟨_,SqT.of hp⟩,zJ (K:=K) (a:=p) (xs:=xs) (Q:=fun v H1=>∃ z ys,[v]=[V.ref z]/\((SqL K H1 z ys/\∀ l,H1 l=none->Q (.ref l) (upd H1 l (.tup ys)))\/(SqT K H1 z ys/\Q (.ref z) H1))) (fun i ys H1=>i<=xs.length/\ys.length=i/\cF H H1/\bJ (Alike H (Nw H H1) n) (xs.take i) ys) ⟨bV _,rfl,cF.refl H,.nil⟩ ?_ ?_ ?_⟩
      · rintro i ys H1 hi ⟨_,h1,h2,_⟩
        exact ⟨SqT.of (h2 _ _ hp),by omega⟩
      · rintro i x ys H1 hi ⟨h0,h1,h2,h3⟩
        have hm:x∈xs:=cy hi
        have lt:i < xs.length:=(aL.mp hi).1
        refine ⟨rfl,?_⟩
        unfold wy
        refine eC ?_
        refine ⟨_,rfl,x,rfl,Tree.same h2 (hx x hm),fun v' H2 s2 al=>?_⟩
        exact ⟨lt,by rw [ay,h1]; rfl,h2.trans s2,sQ (L2.Paired.imp' (fun _ _ z=>Alike.mono (j5 s2) z) h3) hi (Alike.mono (nc (oC h2)) (Alike.from h2 (hx x hm) al))⟩
      · rintro ys H1 ⟨_,h1,h2,h3⟩ l hl'
        rw [cM] at h3
        refine ⟨l,ys,rfl,.inl ⟨SqL.of ao,fun t ht=>?_⟩⟩
        have s3:cF H1 (upd (upd H1 l (.lst ys)) t (.tup ys)):=(aM hl' _).trans (aM ht _)
        exact q _ _ (h2.trans s3) (.inr (.inr ⟨p,t,xs,ys,rfl,rfl,hp,(by rw [j0 (oC (h2.trans (aM hl' (.lst ys))) _ ht)]; exact ao),L2.Paired.imp' (fun _ _ z=>Alike.mono (j5 s3) z) h3⟩))
theorem u0 (D:Df K mg "copied" jM ["thing"] f fd) (B:Bl mg):bZ P w K mg base CX0 1 f fd ["thing"] (mW 0):=by
  refine D.F.ok scC (fun vs H Q E h=>?_) (fun cdv A outer s H vs Q E hr h=>?_)
  · obtain ⟨v,rfl,_⟩:=h
    rfl
  obtain ⟨v,rfl,ht,q⟩:=h
  refine ⟨_,ah (cK (fo (cu dO (by rfl) B.isi eF (aw (pv 0) (aw (fG (v:=.ty "list") (by rfl) B.list boot_list rfl) ak)))) rW bH)
    (ah (cK (fo (cu dO (by rfl) B.isi eF (aw (pv 0) (aw (fG (v:=.ty "tuple") (by rfl) B.tuple boot_tuple rfl) ak)))) rW bH)
    (au (bD (pv 0)))),?_⟩
  have ht:wH v:=ht
  cases v with
  | int i =>
    refine ⟨_,rfl,_,"list",_,false,rfl,.int i,wI,_,rfl,dY ?_⟩
    refine ⟨_,rfl,_,"tuple",_,false,rfl,.int i,zZ,_,rfl,dY ?_⟩
    exact ⟨_,rfl,q _ _ (cF.refl H) rfl⟩
  | str x =>
    refine ⟨_,rfl,_,"list",_,false,rfl,.str x,zY,_,rfl,dY ?_⟩
    refine ⟨_,rfl,_,"tuple",_,false,rfl,.str x,z5,_,rfl,dY ?_⟩
    exact ⟨_,rfl,q _ _ (cF.refl H) rfl⟩
  | non=>exact ht.elim
  | bl b=>exact ht.elim
  | byt b=>exact ht.elim
  | flt b=>exact ht.elim
  | ref a=>exact ht.elim
  | ty a=>exact ht.elim
theorem sR (D:Df K mg "copied" jM ["thing"] f fd) (B:Bl mg):∀ n:Nat,bZ P w K mg base CX0 (n + 1) f fd ["thing"] (mW n)
  | 0=>u0 D B
  | n + 1=>uZ D B (sR D B n)
structure MdT (K:aj) (mg:Str->Option af) (CM CS:ae):Prop where
  clM:Cls K CM
  clS:Cls K CS
  nM:gN K CM "machines"
  nB:gN K CS "boxes"
  nQ:gN K CS "queues"
  nD:gN K CS "drawn"
  nS:gN K CS "sent"
  mM:mg "Model"=some (.ref CM)
  mS:mg "State"=some (.ref CS)
def spMI (CM:ae) (n:Nat):Sp:=fun vs H Q _=>∃ (m dx:ae) (v:V),vs=[.ref m,v]/\H m=some (.ins CM dx [])/\Tree H n v/\∀ (v':V) (H':Hp),cF H H'->Alike H (Nw H H') n v v'->Q .non (upd H' m (.ins CM dx (ej "machines" v' [])))
theorem scMI:cD ["self","machines"] ["self","machines"] (aB iD):=⟨rfl,rfl,rfl,by decide +kernel,rfl,by decide +kernel,by decide +kernel⟩
theorem ok_MI {n:Nat} (F:Fun K "__init__" "Model.__init__" iD f fd) (DC:Df K mg "copied" jM ["thing"] fC fdC) (B:Bl mg) (T:MdT K mg CM CS):bZ P w K mg base CX0 (n + 2) f fd ["self","machines"] (spMI CM n):=by
  have GC:bZ P w K mg base CX0 (n + 1) fC fdC ["thing"] (mW n):=sR DC B n
  refine F.ok scMI (fun vs H Q E h=>?_) (fun cdv A outer s H vs Q E hr h=>?_)
  · obtain ⟨m,dx,v,rfl,_⟩:=h
    rfl
  obtain ⟨m,dx,v,rfl,hm,ht,q⟩:=h
  refine ⟨_,au (jk (pv 0) (aN GC hr rfl DC.m DC.F.kp DC.b .nil bR (aw (pv 1) ak)) rfl),?_⟩
  refine ⟨_,rfl,v,rfl,ht,fun v' H' s1 al=>?_⟩
  exact ⟨_,rfl,m,CM,dx,[],rfl,s1 _ _ hm,T.clM,T.nM,(by show 0 < 1000; decide),q v' H' s1 al⟩
def mf (b q d e:V):List (Str×V):=ej "sent" e (ej "drawn" d (ej "queues" q (ej "boxes" b [])))
def Eg (CS:ae):Sp:=fun vs H Q _=>∃ (m dx:ae) (b q d e:V),vs=[.ref m,b,q,d,e]/\H m=some (.ins CS dx [])/\∀ H':Hp,H' m=some (.ins CS dx (mf b q d e))->But m H H'->Q .non H'
theorem scSI:cD ["self","boxes","queues","drawn","sent"] ["self","boxes","queues","drawn","sent"] (aB gW):=⟨rfl,rfl,rfl,by decide +kernel,rfl,by decide +kernel,by decide +kernel⟩
theorem jI (f:Str) (v:V) (fs:List (Str×V)):(ej f v fs).length<=fs.length + 1:=by
  induction fs with
  | nil=>exact aS _
  | cons p r ih =>
    unfold ej
    split
    · rw [bX,bX]
      omega
    · rw [bX,bX]
      omega
theorem CO (F:Fun K "__init__" "State.__init__" gW f fd) (T:MdT K mg CM CS):bZ P w K mg base CX0 1 f fd ["self","boxes","queues","drawn","sent"] (Eg CS):=by
  refine F.ok scSI (fun vs H Q E h=>?_) (fun cdv A outer s H vs Q E hr h=>?_)
  · obtain ⟨m,dx,b,q,d,e,rfl,_⟩:=h
    rfl
  obtain ⟨m,dx,b,q,d,e,rfl,hm,k⟩:=h
  refine ⟨_,ah (jk (pv 0) (pv 1) rfl) (ah (jk (pv 0) (pv 2) rfl) (ah (jk (pv 0) (pv 3) rfl) (au (jk (pv 0) (pv 4) rfl)))),?_⟩
  have l1:=jI "boxes" b []
  have l2:=jI "queues" q (ej "boxes" b [])
  have l3:=jI "drawn" d (ej "queues" q (ej "boxes" b []))
  simp only [jh] at l1
  refine ⟨_,rfl,_,rfl,m,CS,dx,[],rfl,hm,T.clS,T.nB,(by show 0 < 1000; decide),_,rfl,_,rfl,m,CS,dx,_,rfl,ao,T.clS,T.nQ,(by omega),_,rfl,_,rfl,m,CS,dx,_,rfl,ao,T.clS,T.nD,(by omega),_,rfl,_,rfl,m,CS,dx,_,rfl,ao,T.clS,T.nS,(by omega),?_⟩
  exact k _ ao (((But.upd m H _).trans (But.upd m _ _)).trans ((But.upd m _ _).trans (But.upd m _ _)))
end
end My
namespace My
open PySem L2
section
variable {κ:Type} [DecidableEq κ]
end
theorem ng {H H':Hp} {n:Nat} {a:ae} {xs:List V} {y:V} (ha:H a=some (.lst xs)) (z:Alike H H' (n + 1) (.ref a) y):∃ (a':ae) (ys:List V),y=.ref a'/\H' a'=some (.lst ys)/\bJ (Alike H H' n) xs ys:=by
  rcases z with ⟨z,_⟩ | ⟨p,p',xs',ys,e1,e2,h1,h2,r⟩ | ⟨p,p',xs',ys,e1,e2,h1,h2,r⟩
  · exact z.elim
  · cases e1
    rw [ha] at h1
    cases h1
    exact ⟨p',ys,e2,h2,r⟩
  · cases e1
    rw [ha] at h1
    cases h1
theorem pz {H H':Hp} {n:Nat} {a:ae} {xs:List V} {y:V} (ha:H a=some (.tup xs)) (z:Alike H H' (n + 1) (.ref a) y):∃ (a':ae) (ys:List V),y=.ref a'/\H' a'=some (.tup ys)/\bJ (Alike H H' n) xs ys:=by
  rcases z with ⟨z,_⟩ | ⟨p,p',xs',ys,e1,e2,h1,h2,r⟩ | ⟨p,p',xs',ys,e1,e2,h1,h2,r⟩
  · exact z.elim
  · cases e1
    rw [ha] at h1
    cases h1
  · cases e1
    rw [ha] at h1
    cases h1
    exact ⟨p',ys,e2,h2,r⟩
theorem e7 {H H':Hp} {n:Nat} {v y:V} (hv:wH v) (z:Alike H H' n v y):y=v:=by
  cases n with
  | zero=>exact z
  | succ n =>
    rcases z with ⟨_,z⟩ | ⟨p,p',xs',ys,e1,e2,h1,h2,r⟩ | ⟨p,p',xs',ys,e1,e2,h1,h2,r⟩
    · exact z
    · rw [e1] at hv
      exact hv.elim
    · rw [e1] at hv
      exact hv.elim
theorem iF {H H':Hp} {n:Nat} {xs ys:List V} (r:bJ (Alike H H' n) xs ys):(∀ x∈xs,wH x)->ys=xs:=by
  induction r with
  | nil=>exact fun _=>rfl
  | cons a b ih =>
    intro h
    rw [e7 (h _ aA) a,ih fun x hx=>h x (aa _ hx)]
def e8 (H:Hp) (ps:List (Str×Int)) (vs:List V):Prop:=Bv H (ps.map fun p=>(Sum.inr p.1,V.int p.2)) vs
theorem e8.same {H H':Hp} (s:cF H H'):∀ {ps:List (Str×Int)} {vs:List V},e8 H ps vs->e8 H' ps vs
  | [],_,h=>by
    cases h
    exact .nil
  | p :: ps,_,h=>by
    cases h with
    | cons a b =>
      obtain ⟨t,e,h⟩:=a
      exact .cons ⟨t,e,s _ _ h⟩ (e8.same s (ps:=ps) b)
theorem e8.alike {H H':Hp} {n:Nat}:∀ {ps:List (Str×Int)} {vs ys:List V},e8 H ps vs->bJ (Alike H H' (n + 1)) vs ys->e8 H' ps ys
  | [],_,_,h,r=>by
    cases h
    cases r
    exact .nil
  | p :: ps,_,_,h,r=>by
    cases h with
    | cons a b =>
      cases r with
      | cons r1 r2 =>
        obtain ⟨t,rfl,h⟩:=a
        obtain ⟨t',ys,rfl,h',rr⟩:=pz h r1
        have e:=iF rr (fun x hx=>by
          simp only [az,bY,or_false] at hx
          rcases hx with rfl | rfl
          · exact trivial
          · exact trivial)
        rw [e] at h'
        exact .cons ⟨t',rfl,h'⟩ (e8.alike (ps:=ps) b r2)
theorem e8.length {H:Hp} {ps:List (Str×Int)} {vs:List V} (h:e8 H ps vs):ps.length=vs.length:=by
  have z:=bL h
  rw [ai] at z
  exact z
theorem e8.tree {H:Hp} {n:Nat}:∀ {ps:List (Str×Int)} {vs:List V},e8 H ps vs->∀ x∈vs,Tree H (n + 1) x
  | [],_,h,x,hx=>by
    cases h
    cases hx
  | p :: ps,_,h,x,hx=>by
    cases h with
    | cons a b =>
      rcases az.mp hx with rfl | hx
      · obtain ⟨t,rfl,h⟩:=a
        refine .inr ⟨t,_,rfl,.inr h,(by show 2 < 1000; decide),fun y hy=>?_⟩
        simp only [az,bY,or_false] at hy
        rcases hy with rfl | rfl
        · cases n <;> first | exact trivial | exact .inl trivial
        · cases n <;> first | exact trivial | exact .inl trivial
      · exact e8.tree (ps:=ps) b x hx
theorem e8.snoc {H:Hp} {ps:List (Str×Int)} {vs:List V} (h:e8 H ps vs) {t:ae} {nm:Str} {z:Int} (ht:H t=some (.tup [.str nm,.int z])):e8 H (ps++[(nm,z)]) (vs++[.ref t]):=by
  unfold e8
  rw [aV]
  exact dB h ⟨t,rfl,ht⟩
section
variable {P:aX} {w:cz} {K:aj} {mg:Str->Option af} {base:cR} {f fI CM CS:ae} {fd fdI:cH}
end
end My
namespace My
open PySem L2
section
variable {P:aX} {w:cz} {K:aj} {mg:Str->Option af} {base:cR} {f:ae} {fd:cH}
def xC:Sp:=fun vs H Q _=>∃ n:Int,vs=[.int n]/\Q (.bl true) H
theorem scWh:cD ["_law_found"] ["_law_found"] (aB ja):=⟨rfl,rfl,rfl,by decide +kernel,rfl,by decide +kernel,by decide +kernel⟩
theorem z8 (D:Df K mg "_law_whole" ja ["_law_found"] f fd) (B:Bl mg):bZ P w K mg base CX0 1 f fd ["_law_found"] xC:=by
  refine D.F.ok scWh (fun vs H Q E h=>?_) (fun cdv A outer s H vs Q E hr h=>?_)
  · obtain ⟨n,rfl,_⟩:=h
    rfl
  obtain ⟨n,rfl,q⟩:=h
  refine ⟨_,au (bD (oR (cu dO (by rfl) B.isi eF (aw (pv 0) (aw (fG (v:=.ty "int") (by rfl) B.int boot_int rfl) ak))) (tG (Dj (cu dO (by rfl) B.isi eF (aw (pv 0) (aw (fG (v:=.ty "bool") (by rfl) B.bool boot_bool rfl) ak))))))),?_⟩
  refine ⟨_,rfl,_,"int",_,true,rfl,.int n,Ec,_,rfl,eC ?_⟩
  exact ⟨_,rfl,_,"bool",_,false,rfl,.int n,Ed,_,rfl,q⟩
end
end My
namespace My
open PySem L2
section
variable {κ:Type} [DecidableEq κ]
end
theorem wJ {ss zs:List Str} {lo hi:Option Int} (h:lL (ss.map V.str) lo hi=zs.map V.str) (nd:ss.Nodup):zs.Nodup:=by
  have n1:(ss.map V.str).Nodup:=z9.mpr (sS (fun n e=>n (V.str.inj e)) nd)
  have n2:(lL (ss.map V.str) lo hi).Nodup:=by
    unfold lL
    exact (n1.sublist (List.drop_sublist _ _)).sublist (gG _ _)
  rw [h] at n2
  exact sS (fun n e=>n (by rw [e])) (z9.mp n2)
theorem e8.tups {H H':Hp} (s:∀ t xs,H t=some (.tup xs)->H' t=some (.tup xs)):∀ {ps:List (Str×Int)} {vs:List V},e8 H ps vs->e8 H' ps vs
  | [],_,h=>by
    cases h
    exact .nil
  | p :: ps,_,h=>by
    cases h with
    | cons a b =>
      obtain ⟨t,e,h⟩:=a
      exact .cons ⟨t,e,s _ _ h⟩ (e8.tups s (ps:=ps) b)
end My
namespace My
open PySem L2
def qT:List Str:=["plus","less","times","part","rest","below","same"]
inductive Fm where
  | num (n:Int)
  | box (x:Str)
  | long (x:Str)
  | got (j:Bool)
  | now
  | two (k:Str) (f g:Fm)
def Fm.depth:Fm->Nat
  | .two _ f g=>max f.depth g.depth + 1
  | _=>1
inductive Rs where
  | ok (r:Int)
  | nought
  | great
def lW (k:Str) (a b:Int):Rs:=
  if k="plus" then .ok (a + b) else if k="less" then .ok (a - b) else if k="times" then .ok (a * b) else if k="below" then .ok (if a < b then 1 else 0)
  else if k="same" then .ok (if a=b then 1 else 0) else if b=0 then .nought else if k="part" then .ok (a.fdiv b) else .ok (a.fmod b)
def lX (r:Int):Int:=if r < 0 then -r else r
def cap:Rs->Rs
  | .ok r=>if 10 ^ 15 < lX r then .great else .ok r
  | .nought=>.nought
  | .great=>.great
structure pW where
  bx:Str->Int
  lg:Str->Nat
  g0:Int
  g1:Int
  nw:Int
def ev (e:pW):Fm->Rs
  | .num n=>.ok n
  | .box x=>.ok (e.bx x)
  | .long x=>.ok (e.lg x)
  | .got j=>.ok (if j then e.g1 else e.g0)
  | .now=>.ok e.nw
  | .two k f g=>match ev e f with
    | .ok a=>(match ev e g with
      | .ok b=>cap (lW k a b)
      | .nought=>.nought
      | .great=>.great)
    | .nought=>.nought
    | .great=>.great
def Wo (a:Int):Prop:=-(10 ^ 15)<=a/\a<=10 ^ 15
structure pW.Ok (e:pW) (bs qs:List Str):Prop where
  bx:∀ x∈bs,Wo (e.bx x)
  lg:∀ x∈qs,e.lg x<=1000
  g0:Wo e.g0
  g1:Wo e.g1
  nw:Wo e.nw
inductive iu (bs qs:List Str) (H:Hp):V->Fm->Prop where
  | num {t:ae} {n:Int}:H t=some (.tup [.str "number",.int n])->Wo n->iu bs qs H (.ref t) (.num n)
  | box {t:ae} {x:Str}:H t=some (.tup [.str "box",.str x])->x∈bs->iu bs qs H (.ref t) (.box x)
  | long {t:ae} {x:Str}:H t=some (.tup [.str "long",.str x])->x∈qs->iu bs qs H (.ref t) (.long x)
  | got {t:ae} {j:Bool}:H t=some (.tup [.str "got",.int (if j then 1 else 0)])->iu bs qs H (.ref t) (.got j)
  | now {t:ae}:H t=some (.tup [.str "now"])->iu bs qs H (.ref t) .now
  | two {t:ae} {k:Str} {u v:V} {f g:Fm}:H t=some (.tup [.str k,u,v])->k∈qT->iu bs qs H u f->iu bs qs H v g->iu bs qs H (.ref t) (.two k f g)
theorem iu.mono {bs qs:List Str} {H H':Hp} {v:V} {f:Fm} (h:iu bs qs H v f) (s:∀ t xs,H t=some (.tup xs)->H' t=some (.tup xs)):iu bs qs H' v f:=by
  induction h with
  | num h1 h2=>exact .num (s _ _ h1) h2
  | box h1 h2=>exact .box (s _ _ h1) h2
  | long h1 h2=>exact .long (s _ _ h1) h2
  | got h1=>exact .got (s _ _ h1)
  | now h1=>exact .now (s _ _ h1)
  | two h1 h2 _ _ i1 i2=>exact .two (s _ _ h1) h2 i1 i2
theorem iu.same {bs qs:List Str} {H H':Hp} {v:V} {f:Fm} (h:iu bs qs H v f) (s:cF H H'):iu bs qs H' v f:=h.mono fun _ _ e=>s _ _ e
theorem Aa {r:Int} (h:¬ 10 ^ 15 < lX r):Wo r:=by
  unfold lX at h
  unfold Wo
  split at h <;> omega
theorem Ab {r:Int} (h:Wo r):¬ 10 ^ 15 < lX r:=by
  unfold Wo at h
  unfold lX
  split <;> omega
theorem Eh {x:Rs} {r:Int} (h:cap x=.ok r):Wo r:=by
  cases x with
  | ok y =>
    unfold cap at h
    dsimp only at h
    by_cases c:10 ^ 15 < lX y
    · rw [if_pos c] at h
      cases h
    · rw [if_neg c] at h
      cases h
      exact Aa c
  | nought=>cases h
  | great=>cases h
theorem lg_wo {n:Nat} (h:n<=1000):Wo (n:Int):=by
  unfold Wo
  omega
theorem j1 {bs qs:List Str} {H:Hp} {e:pW} (ok:e.Ok bs qs) {v:V} {f:Fm} (h:iu bs qs H v f):∀ {r:Int},ev e f=.ok r->Wo r:=by
  induction h with
  | num h1 h2 =>
    intro r q
    unfold ev at q
    cases q
    exact h2
  | box h1 h2 =>
    intro r q
    unfold ev at q
    cases q
    exact ok.bx _ h2
  | long h1 h2 =>
    intro r q
    unfold ev at q
    cases q
    exact lg_wo (ok.lg _ h2)
  | @got t j h1 =>
    intro r q
    unfold ev at q
    cases q
    cases j
    · exact ok.g0
    · exact ok.g1
  | now h1 =>
    intro r q
    unfold ev at q
    cases q
    exact ok.nw
  | @two t k u v f g h1 h2 _ _ i1 i2 =>
    intro r q
    unfold ev at q
    cases e1:ev e f with
    | ok a =>
      rw [e1] at q
      cases e2:ev e g with
      | ok b =>
        rw [e2] at q
        exact Eh q
      | nought=>rw [e2] at q; cases q
      | great=>rw [e2] at q; cases q
    | nought=>rw [e1] at q; cases q
    | great=>rw [e1] at q; cases q
def sT (CN CG:ae) (r:Rs) (Q:VK) (E:XK) (H:Hp):Prop:=match r with
  | .ok r=>Q (.int r) H
  | .nought=>E (.ref CN) none H
  | .great=>E (.ref CG) none H
def Bz:Rs->V
  | .ok r=>.int r
  | .nought=>.str "nought"
  | .great=>.str "great"
theorem Ac:∀ k∈qT,¬ k="number"/\¬ k="box"/\¬ k="long"/\¬ k="got"/\¬ k="now":=by decide +kernel
section
variable {P:aX} {w:cz} {K:aj} {mg:Str->Option af} {base:cR} {f fD fT fL CN CG CM CS:ae} {fd fdD fdT fdL:cH}
structure Fts (K:aj) (mg:Str->Option af) (CN CG:ae):Prop where
  mN:mg "Nought"=some (.ref CN)
  mG:mg "Great"=some (.ref CG)
  xN:dI K CN nF "ValueError.__new__"=true
  xG:dI K CG nF "ValueError.__new__"=true
  nn:dy K (.ref CN) (.ref CN)=some true
  gn:dy K (.ref CG) (.ref CN)=some false
  gg:dy K (.ref CG) (.ref CG)=some true
def CQ (CN:ae):Sp:=fun vs H Q E=>∃ (k:Str) (a b:Int),vs=[.str k,.int a,.int b]/\Wo b/\(b=0->E (.ref CN) none H)/\(¬ b=0->k="part"->Q (.int (a.fdiv b)) H)/\(¬ b=0->¬ k="part"->Q (.int (a.fmod b)) H)
theorem scDv:cD ["kind","first","second"] ["kind","first","second"] (aB dA):=⟨rfl,rfl,rfl,by decide +kernel,rfl,by decide +kernel,by decide +kernel⟩
theorem jU {a b:Int} (h:V.int a=V.int b):a=b:=V.int.inj h
theorem jV {a b:Str} (h:V.str a=V.str b):a=b:=V.str.inj h
theorem Ei (D:Df K mg "number_of_division" dA ["kind","first","second"] f fd) (T:Fts K mg CN CG):bZ P w K mg base (CXo P w) 1 f fd ["kind","first","second"] (CQ CN):=by
  refine D.F.okX scDv (fun vs H Q E h=>?_) (fun cdv A outer s H vs Q E hr h=>?_)
  · obtain ⟨k,a,b,rfl,_⟩:=h
    rfl
  obtain ⟨k,a,b,rfl,hb,h1,h2,h3⟩:=h
  refine ⟨_,ah (cK (bE di (pv 2) ag (bM _)) (au (ke eg rfl rfl T.mN T.xN (aw bN ak))) bH)
    (ah (cK (bE di (pv 0) bN (bM _)) (au (bD (cJ uS (pv 1) (pv 2)))) bH)
    (au (bD (cJ Bb (pv 1) (pv 2))))),?_⟩
  refine ⟨_,rfl,rfl,_,rfl,?_⟩
  refine gH (fun c=>?_) (fun c=>?_)
  · exact ⟨(by show 1<=aE; decide),h1 (jU (gc c))⟩
  · have nb:¬ b=0:=fun z=>hU c (by rw [z])
    refine ⟨_,rfl,rfl,_,rfl,?_⟩
    refine gH (fun c2=>?_) (fun c2=>?_)
    · refine ⟨_,rfl,_,rfl,_,_,rfl,rfl,⟨nb,?_⟩,h2 nb (jV (gc c2))⟩
      unfold Wo at hb
      omega
    · exact ⟨_,rfl,_,rfl,_,_,rfl,rfl,nb,h3 nb (fun z=>hU c2 (by rw [z]))⟩
def CT (CN CG:ae):Sp:=fun vs H Q E=>∃ (k:Str) (a b:Int),vs=[.str k,.int a,.int b]/\Wo a/\Wo b/\sT CN CG (lW k a b) Q E H
theorem scTw:cD ["kind","first","second"] ["kind","first","second"] (aB fc):=⟨rfl,rfl,rfl,by decide +kernel,rfl,by decide +kernel,by decide +kernel⟩
theorem Ej (D:Df K mg "number_of_two" fc ["kind","first","second"] f fd) (DD:Df K mg "number_of_division" dA ["kind","first","second"] fD fdD) (T:Fts K mg CN CG) :
    bZ P w K mg base (CXo P w) 2 f fd ["kind","first","second"] (CT CN CG):=by
  have GD:bZ P w K mg base (CXo P w) 1 fD fdD ["kind","first","second"] (CQ CN):=Ei DD T
  refine D.F.okX scTw (fun vs H Q E h=>?_) (fun cdv A outer s H vs Q E hr h=>?_)
  · obtain ⟨k,a,b,rfl,_⟩:=h
    rfl
  obtain ⟨k,a,b,rfl,ha,hb,h⟩:=h
  unfold lW at h
  refine ⟨_,ah (cK (bE di (pv 0) bN (bM _)) (au (bD (cJ fZ (pv 1) (pv 2)))) bH)
    (ah (cK (bE di (pv 0) bN (bM _)) (au (bD (cJ gK (pv 1) (pv 2)))) bH)
    (ah (cK (bE di (pv 0) bN (bM _)) (au (bD (cJ jQ (pv 1) (pv 2)))) bH)
    (ah (cK (bE di (pv 0) bN (bM _)) (au (bD (qq (bE nK (pv 1) (pv 2) (bM _)) ag ag))) bH)
    (ah (cK (bE di (pv 0) bN (bM _)) (au (bD (qq (bE di (pv 1) (pv 2) (bM _)) ag ag))) bH)
    (au (bD (aN GD hr rfl DD.m DD.F.kp DD.b .nil (eg.passes fun _ _ _ z=>z) (aw (pv 0) (aw (pv 1) (aw (pv 2) ak)))))))))),?_⟩
  refine ⟨_,rfl,rfl,_,rfl,gH (fun c=>?_) (fun c=>?_)⟩
  · rw [if_pos (jV (gc c))] at h
    exact ⟨_,rfl,_,rfl,_,_,rfl,rfl,h⟩
  rw [if_neg fun z=>hU c (by rw [z])] at h
  refine ⟨_,rfl,rfl,_,rfl,gH (fun c=>?_) (fun c=>?_)⟩
  · rw [if_pos (jV (gc c))] at h
    exact ⟨_,rfl,_,rfl,_,_,rfl,rfl,h⟩
  rw [if_neg fun z=>hU c (by rw [z])] at h
  refine ⟨_,rfl,rfl,_,rfl,gH (fun c=>?_) (fun c=>?_)⟩
  · rw [if_pos (jV (gc c))] at h
    refine ⟨_,rfl,_,rfl,_,_,rfl,rfl,.inl ⟨?_,?_⟩,h⟩
    · unfold Wo at ha; omega
    · unfold Wo at ha; omega
  rw [if_neg fun z=>hU c (by rw [z])] at h
  refine ⟨_,rfl,rfl,_,rfl,gH (fun c=>?_) (fun c=>?_)⟩
  · rw [if_pos (jV (gc c))] at h
    refine ⟨_,rfl,_,rfl,_,_,rfl,rfl,_,rfl,gH (fun c2=>?_) (fun c2=>?_)⟩
    · rw [if_pos (gc c2)] at h
      exact h
    · rw [if_neg (hU c2)] at h
      exact h
  rw [if_neg fun z=>hU c (by rw [z])] at h
  refine ⟨_,rfl,rfl,_,rfl,gH (fun c=>?_) (fun c=>?_)⟩
  · rw [if_pos (jV (gc c))] at h
    refine ⟨_,rfl,_,rfl,rfl,_,rfl,gH (fun c2=>?_) (fun c2=>?_)⟩
    · rw [if_pos (jU (gc c2))] at h
      exact h
    · rw [if_neg fun z=>hU c2 (by rw [z])] at h
      exact h
  rw [if_neg fun z=>hU c (by rw [z])] at h
  refine ⟨_,rfl,_,rfl,_,rfl,k,a,b,rfl,hb,fun z=>?_,fun z1 z2=>?_,fun z1 z2=>?_⟩
  · rw [if_pos z] at h
    exact h
  · rw [if_neg z1,if_pos z2] at h
    exact h
  · rw [if_neg z1,if_neg z2] at h
    exact h
structure Holds (K:aj) (CS:ae) (bs qs:List Str) (H:Hp) (st gl:ae) (e:pW):Prop where
  ex:∃ (dx bd qd:ae) (fs:List (Str×V)) (bk qk:List (Key×V)),H st=some (.ins CS dx fs)/\fs.lookup ("boxes":Str)=some (.ref bd)/\fs.lookup ("queues":Str)=some (.ref qd)/\H bd=some (.dK bk)/\H qd=some (.dK qk) /\
    (∀ x∈bs,kX bk (Sum.inr x)=some (.int (e.bx x)))/\(∀ x∈qs,∃ l xs,kX qk (Sum.inr x)=some (.ref l)/\H l=some (.lst xs)/\xs.length=e.lg x)
  hgl:H gl=some (.lst [.int e.g0,.int e.g1])
def Ad (K:aj) (CS:ae) (bs qs:List Str):Sp:=fun vs H Q _=>∃ (v:V) (F:Fm) (st gl:ae) (e:pW),vs=[v,.ref st,.int e.nw,.ref gl]/\iu bs qs H v F/\F.depth<=1/\Holds K CS bs qs H st gl e/\∀ r,ev e F=.ok r->Q (.int r) H
theorem scLf:cD ["formula","state","now","got","kind"] ["formula","state","now","got"] (aB eQ):=⟨rfl,rfl,rfl,by decide +kernel,rfl,by decide +kernel,by decide +kernel⟩
theorem va:¬ (("box":Str)="number")/\¬ (("long":Str)="number")/\¬ (("long":Str)="box")/\¬ (("got":Str)="number")/\¬ (("got":Str)="box")/\¬ (("got":Str)="long")/\¬ (("now":Str)="number")/\¬ (("now":Str)="box")/\¬ (("now":Str)="long")/\¬ (("now":Str)="got"):=by decide +kernel
theorem kl {a b:Str} (h:¬ a=b):decide (V.str a=V.str b)=false:=decide_eq_false fun z=>h (V.str.inj z)
theorem pA (a:Str):decide (V.str a=V.str a)=true:=decide_eq_true rfl
theorem fz {c:Bool} {b:Bool} {p q:Prop} (h:c=b) (t:if b=true then p else q):if c=true then p else q:=by
  rw [h]
  exact t
theorem BA {bs qs:List Str} (D:Df K mg "number_of_leaf" eQ ["formula","state","now","got"] f fd) (T:MdT K mg CM CS) (B:Bl mg):bZ P w K mg base CX0 1 f fd ["formula","state","now","got"] (Ad K CS bs qs):=by
  refine D.F.ok scLf (fun vs H Q E h=>?_) (fun cdv A outer s H vs Q E hr h=>?_)
  · obtain ⟨v,F,st,gl,e,rfl,_⟩:=h
    rfl
  obtain ⟨v,F,st,gl,e,rfl,hF,hd,⟨⟨dx,bd,qd,fs,bk,qk,h1,h2,h3,h4,h5,h6,h7⟩,h8⟩,q⟩:=h
  have hu:=jZ hr
  refine ⟨_,ah (bF (i:=4) scLf.nd rfl (Or.inl rfl) (aP bC (pv 0) ag (fun _ _=>rfl)))
    (ah (cK (bE di (pv 4) bN (bM _)) (au (bD (aP bC (pv 0) ag (fun _ _=>rfl)))) bH)
    (ah (cK (bE di (pv 4) bN (bM _)) (au (bD (gs hu (cY (pv 1) rfl) (aP bC (pv 0) ag (fun _ _=>rfl)) (fun _ _=>rfl)))) bH)
    (ah (cK (bE di (pv 4) bN (bM _)) (au (bD (cu gU (by rfl) B.len cw (aw (gs hu (cY (pv 1) rfl) (aP bC (pv 0) ag (fun _ _=>rfl)) (fun _ _=>rfl)) ak)))) bH)
    (ah (cK (bE di (pv 4) bN (bM _)) (au (bD (aP bT (pv 3) (aP bC (pv 0) ag (fun _ _=>rfl)) (fun _ _=>rfl)))) bH)
    (au (bD (pv 2))))))),?_⟩
  obtain ⟨k1,k2,k3,k4,k5,k6,k7,k8,k9,k10⟩:=va
  cases hF with
  | @num t n ht hn =>
    refine ⟨_,rfl,t,_,_,_,rfl,rfl,SqT.of ht,rfl,_,rfl,rfl,_,rfl,fz (pA _) (eC ?_)⟩
    exact ⟨_,rfl,t,_,_,_,rfl,rfl,SqT.of ht,rfl,q _ rfl⟩
  | @box t x ht hx =>
    refine ⟨_,rfl,t,_,_,_,rfl,rfl,SqT.of ht,rfl,_,rfl,rfl,_,rfl,fz (kl k1) (dY ?_)⟩
    refine ⟨_,rfl,rfl,_,rfl,fz (pA _) (eC ?_)⟩
    exact ⟨_,rfl,st,CS,dx,_,_,rfl,h1,T.clS,T.nB,h2,_,rfl,t,_,_,_,rfl,rfl,SqT.of ht,rfl,bd,_,rfl,(by have z:=kd.k (k:=Sum.inr x) h4; rw [h6 x hx] at z; exact z),q _ rfl⟩
  | @long t x ht hx =>
    obtain ⟨l,xs,g1,g2,g3⟩:=h7 x hx
    refine ⟨_,rfl,t,_,_,_,rfl,rfl,SqT.of ht,rfl,_,rfl,rfl,_,rfl,fz (kl k2) (dY ?_)⟩
    refine ⟨_,rfl,rfl,_,rfl,fz (kl k3) (dY ?_)⟩
    refine ⟨_,rfl,rfl,_,rfl,fz (pA _) (eC ?_)⟩
    exact ⟨_,rfl,st,CS,dx,_,_,rfl,h1,T.clS,T.nQ,h3,_,rfl,t,_,_,_,rfl,rfl,SqT.of ht,rfl,qd,_,rfl,(by have z:=kd.k (k:=Sum.inr x) h5; rw [g1] at z; exact z),l,xs,rfl,.inl (SqL.of g2),q _ (by rw [g3]; rfl)⟩
  | @got t j ht =>
    refine ⟨_,rfl,t,_,_,_,rfl,rfl,SqT.of ht,rfl,_,rfl,rfl,_,rfl,fz (kl k4) (dY ?_)⟩
    refine ⟨_,rfl,rfl,_,rfl,fz (kl k5) (dY ?_)⟩
    refine ⟨_,rfl,rfl,_,rfl,fz (kl k6) (dY ?_)⟩
    refine ⟨_,rfl,rfl,_,rfl,fz (pA _) (eC ?_)⟩
    cases j
    · exact ⟨_,rfl,_,rfl,t,_,_,_,rfl,rfl,SqT.of ht,rfl,gl,_,_,_,rfl,rfl,SqL.of h8,rfl,q _ rfl⟩
    · exact ⟨_,rfl,_,rfl,t,_,_,_,rfl,rfl,SqT.of ht,rfl,gl,_,_,_,rfl,rfl,SqL.of h8,rfl,q _ rfl⟩
  | @now t ht =>
    refine ⟨_,rfl,t,_,_,_,rfl,rfl,SqT.of ht,rfl,_,rfl,rfl,_,rfl,fz (kl k7) (dY ?_)⟩
    refine ⟨_,rfl,rfl,_,rfl,fz (kl k8) (dY ?_)⟩
    refine ⟨_,rfl,rfl,_,rfl,fz (kl k9) (dY ?_)⟩
    refine ⟨_,rfl,rfl,_,rfl,fz (kl k10) (dY ?_)⟩
    exact ⟨_,rfl,q _ rfl⟩
  | @two t k u v f1 f2 ht hk h1 h2 =>
    have z1:0 < f1.depth:=by cases f1 <;> exact mX _
    unfold Fm.depth at hd
    omega
def Ae (K:aj) (CS CN CG:ae) (bs qs:List Str) (n:Nat):Sp:=fun vs H Q E=>∃ (v:V) (F:Fm) (st gl:ae) (e:pW),vs=[v,.ref st,.int e.nw,.ref gl]/\iu bs qs H v F/\F.depth<=n/\Holds K CS bs qs H st gl e/\e.Ok bs qs/\sT CN CG (ev e F) Q E H
theorem Af:cD ["formula","state","now","got","first","second","number"] ["formula","state","now","got"] (aB iQ):=⟨rfl,rfl,rfl,by decide +kernel,rfl,by decide +kernel,by decide +kernel⟩
theorem BB {bs qs:List Str} {H:Hp} {v:V} {F:Fm} (h:iu bs qs H v F):(∃ t xs,v=.ref t/\H t=some (.tup xs)/\¬ (xs.length:Int)=3/\F.depth<=1/\∀ e:pW,∃ r,ev e F=.ok r) \/
    ∃ t k u w f g,v=.ref t/\F=.two k f g/\H t=some (.tup [.str k,u,w])/\k∈qT/\iu bs qs H u f/\iu bs qs H w g:=by
  cases h with
  | num h1 h2=>exact .inl ⟨_,_,rfl,h1,by show ¬ ((2:Nat):Int)=3; decide,aS _,fun e=>⟨_,rfl⟩⟩
  | box h1 h2=>exact .inl ⟨_,_,rfl,h1,by show ¬ ((2:Nat):Int)=3; decide,aS _,fun e=>⟨_,rfl⟩⟩
  | long h1 h2=>exact .inl ⟨_,_,rfl,h1,by show ¬ ((2:Nat):Int)=3; decide,aS _,fun e=>⟨_,rfl⟩⟩
  | got h1=>exact .inl ⟨_,_,rfl,h1,by show ¬ ((2:Nat):Int)=3; decide,aS _,fun e=>⟨_,rfl⟩⟩
  | now h1=>exact .inl ⟨_,_,rfl,h1,by show ¬ ((1:Nat):Int)=3; decide,aS _,fun e=>⟨_,rfl⟩⟩
  | two h1 h2 h3 h4=>exact .inr ⟨_,_,_,_,_,_,rfl,rfl,h1,h2,h3,h4⟩
theorem BC {bs qs:List Str} {n:Nat} (D:Df K mg "worth_of" iQ ["formula","state","now","got"] f fd) (DT:Df K mg "number_of_two" fc ["kind","first","second"] fT fdT) (DD:Df K mg "number_of_division" dA ["kind","first","second"] fD fdD)
    (DL:Df K mg "number_of_leaf" eQ ["formula","state","now","got"] fL fdL) (T:Fts K mg CN CG) (TM:MdT K mg CM CS) (B:Bl mg) (G:bZ P w K mg base (CXo P w) (n + 2) f fd ["formula","state","now","got"] (Ae K CS CN CG bs qs n)) :
    bZ P w K mg base (CXo P w) (n + 3) f fd ["formula","state","now","got"] (Ae K CS CN CG bs qs (n + 1)):=by
  have GT:bZ P w K mg base (CXo P w) 2 fT fdT ["kind","first","second"] (CT CN CG):=Ej DT DD T
  have GL:bZ P w K mg base CX0 1 fL fdL ["formula","state","now","got"] (Ad K CS bs qs):=BA DL TM B
  refine D.F.okX Af (fun vs H Q E h=>?_) (fun cdv A outer s H vs Q E hr h=>?_)
  · obtain ⟨v,F,st,gl,e,rfl,_⟩:=h
    rfl
  obtain ⟨v,F,st,gl,e,rfl,hF,hd,ho,eo,h⟩:=h
  have r2:eN 2 _:=hr.mono (by omega)
  have r1:eN 1 _:=hr.mono (by omega)
  refine ⟨_,ah (cK (bE di (cu gU (by rfl) B.len cw (aw (pv 0) ak)) ag (bM _))
      (ah (bF (i:=4) Af.nd rfl (Or.inl rfl) (aN G hr rfl D.m D.F.kp D.b .nil (eg.passes fun _ _ _ z=>z) (aw (aP bC (pv 0) ag (fun _ _=>rfl)) (aw (pv 1) (aw (pv 2) (aw (pv 3) ak))))))
      (ah (bF (i:=5) Af.nd rfl (Or.inl rfl) (aN G hr rfl D.m D.F.kp D.b .nil (eg.passes fun _ _ _ z=>z) (aw (aP bC (pv 0) ag (fun _ _=>rfl)) (aw (pv 1) (aw (pv 2) (aw (pv 3) ak))))))
      (au (bF (i:=6) Af.nd rfl (Or.inl rfl) (aN GT r2 rfl DT.m DT.F.kp DT.b .nil (eg.passes fun _ _ _ z=>z) (aw (aP bC (pv 0) ag (fun _ _=>rfl)) (aw (pv 4) (aw (pv 5) ak))))))))
      (au (bF (i:=6) Af.nd rfl (Or.inl rfl) (aN GL r1 rfl DL.m DL.F.kp DL.b .nil bR (aw (pv 0) (aw (pv 1) (aw (pv 2) (aw (pv 3) ak))))))))
    (ah (cK (bE kK (cu zt (by rfl) B.abs boot_abs (aw (pv 6) ak)) (cJ iG ag ag) (bM _)) (au (ke eg rfl rfl T.mG T.xG (aw bN ak))) bH)
    (au (bD (pv 6)))),?_⟩
  have c15:oX 10 15:=⟨by decide,by decide,by decide⟩
  have l1:1<=aE:=by decide
  rcases BB hF with ⟨t,xs,rfl,ht,hx,hd1,hv⟩ | ⟨t,k,u,v',f1,f2,rfl,rfl,ht,hk,h1,h2⟩
  · obtain ⟨r,hr'⟩:=hv e
    refine ⟨_,rfl,t,_,rfl,.inr (SqT.of ht),rfl,_,rfl,gH (fun c=>absurd (jU (gc c)) hx) (fun c=>?_)⟩
    refine ⟨_,rfl,_,rfl,_,rfl,_,rfl,.ref t,F,st,gl,e,rfl,hF,hd1,ho,fun r' hr2=>?_⟩
    refine ⟨_,rfl,_,rfl,_,_,rfl,rfl,c15,_,_,rfl,rfl,_,rfl,gH (fun c=>?_) (fun c=>?_)⟩
    · exact absurd (gc c) (Ab (j1 eo hF hr2))
    · rw [hr2] at h
      exact ⟨_,rfl,h⟩
  · have d1:f1.depth<=n:=by
      unfold Fm.depth at hd
      omega
    have d2:f2.depth<=n:=by
      unfold Fm.depth at hd
      omega
    refine ⟨_,rfl,t,_,rfl,.inr (SqT.of ht),rfl,_,rfl,gH (fun c=>?_) (fun c=>absurd rfl (hU c))⟩
    refine ⟨_,rfl,t,_,_,_,rfl,rfl,SqT.of ht,rfl,_,rfl,_,rfl,_,rfl,u,f1,st,gl,e,rfl,h1,d1,ho,eo,?_⟩
    unfold ev at h
    cases e1:ev e f1 with
    | nought=>rw [e1] at h; exact h
    | great=>rw [e1] at h; exact h
    | ok a =>
      rw [e1] at h
      refine ⟨_,rfl,t,_,_,_,rfl,rfl,SqT.of ht,rfl,_,rfl,_,rfl,_,rfl,v',f2,st,gl,e,rfl,h2,d2,ho,eo,?_⟩
      cases e2:ev e f2 with
      | nought=>rw [e2] at h; exact h
      | great=>rw [e2] at h; exact h
      | ok b =>
        rw [e2] at h
        have h:sT CN CG (cap (lW k a b)) Q E H:=h
        refine ⟨_,rfl,t,_,_,_,rfl,rfl,SqT.of ht,rfl,_,rfl,_,rfl,k,a,b,rfl,j1 eo h1 e1,j1 eo h2 e2,?_⟩
        cases e3:lW k a b with
        | nought=>rw [e3] at h; exact h
        | great=>rw [e3] at h; exact h
        | ok r =>
          rw [e3] at h
          have h':sT CN CG (if 10 ^ 15 < lX r then .great else .ok r) Q E H:=h
          refine ⟨_,rfl,_,rfl,_,_,rfl,rfl,c15,_,_,rfl,rfl,_,rfl,gH (fun c=>?_) (fun c=>?_)⟩
          · rw [if_pos (show 10 ^ 15 < lX r from gc c)] at h'
            exact ⟨l1,h'⟩
          · rw [if_neg (show ¬ 10 ^ 15 < lX r from hU c)] at h'
            exact ⟨_,rfl,h'⟩
theorem sU (F:Fm):0 < F.depth:=by cases F <;> exact mX _
theorem CV {bs qs:List Str} (D:Df K mg "worth_of" iQ ["formula","state","now","got"] f fd) (DT:Df K mg "number_of_two" fc ["kind","first","second"] fT fdT) (DD:Df K mg "number_of_division" dA ["kind","first","second"] fD fdD)
    (DL:Df K mg "number_of_leaf" eQ ["formula","state","now","got"] fL fdL) (T:Fts K mg CN CG) (TM:MdT K mg CM CS) (B:Bl mg):∀ n:Nat,bZ P w K mg base (CXo P w) (n + 2) f fd ["formula","state","now","got"] (Ae K CS CN CG bs qs n)
  | 0=>by
    have no:∀ vs H Q E,¬ Ae K CS CN CG bs qs 0 vs H Q E:=fun vs H Q E h=>by
      obtain ⟨v,F,st,gl,e,_,_,hd,_⟩:=h
      have:=sU F
      omega
    exact ⟨fun vs H Q E h=>absurd h (no vs H Q E),fun A outer s H args us vs Q E _ _ _ _ h=>absurd h (no vs H Q E)⟩
  | n + 1=>BC D DT DD DL T TM B (CV D DT DD DL T TM B n)
end
end My
namespace My
open PySem L2
mutual
inductive Dd where
  | put (x:Str) (f:Fm)
  | push (q:Str) (f:Fm)
  | pull (q x:Str) (o:Ds)
  | draw (x:Str) (f:Fm)
  | send (to:Int) (sg:Str) (sp:Fm) (rk:Int) (a b:Fm)
  | ife (f:Fm) (t e:Ds)
  | fin
inductive Ds where
  | nil
  | cons (d:Dd) (r:Ds)
end
inductive Flt where
  | nought
  | great
  | full
  | dry
  | span
  | late
structure Ev where
  t:Int
  r:Int
  fr:Int
  c:Int
  to:Int
  sg:Str
  a:Int
  b:Int
structure Wk where
  bx:List (Str×Int)
  qu:List (Str×List Int)
  dr:Nat
  se:Int
  wr:List Str
  out:List Ev
  en:Bool
  rk:List Fm
  qn:List Str
def Wk.len (w:Wk):Nat:=w.out.length + w.rk.length
def nZ (ps:List (Str×Int)) (x:Str):Int:=(ps.lookup x).getD 0
def gy (ps:List (Str×List Int)) (x:Str):List Int:=(ps.lookup x).getD []
def jo {α:Type} (ps:List (Str×α)) (x:Str) (n:α):List (Str×α):=ps.map fun p=>if p.1=x then (p.1,n) else p
def gP (xs:List Str) (x:Str):List Str:=if x∈xs then xs else xs++[x]
def gX (h:Ev) (w:Wk):pW:=⟨nZ w.bx,fun q=>(gy w.qu q).length,h.a,h.b,h.t⟩
def rck (h:Ev) (w:Wk) (f:Fm) (k:Wk->Int->Except Flt Wk):Except Flt Wk:=match ev (gX h w) f with
  | .ok n=>k {w with rk:=w.rk++[f]} n
  | .nought=>.error .nought
  | .great=>.error .great
def vc (w:Wk) (x:Str) (n:Int):Wk:={w with bx:=jo w.bx x n,wr:=gP w.wr x}
def CW (h:Ev) (w:Wk) (to:Int) (sg:Str) (rk t a b:Int):Wk:={w with se:=w.se + 1,out:=w.out++[⟨t,rk,h.to,w.se,to,sg,a,b⟩]}
mutual
def doD (h:Ev) (ds:List Int):Dd->Wk->Except Flt Wk
  | .put x f,w=>rck h w f fun w n=>.ok (vc w x n)
  | .push q f,w=>rck h w f fun w n=>if 30<=(gy w.qu q).length then .error .full else .ok {w with qu:=jo w.qu q (gy w.qu q++[n]),wr:=gP w.wr q,qn:=gP w.qn q}
  | .pull q x o,w=>match gy w.qu q with
    | []=>doS h ds o {w with qn:=gP w.qn q}
    | n :: ns=>.ok {w with qu:=jo w.qu q ns,bx:=jo w.bx x n,wr:=gP (gP w.wr x) q,qn:=gP w.qn q}
  | .draw x f,w=>rck h w f fun w n=>if n < 1 then .error .nought else if ds=[] then .error .dry else .ok (vc {w with dr:=w.dr + 1} x (ds.getD (w.dr % ds.length) 0 % n))
  | .send to sg sp rk a b,w=>rck h w sp fun w n=>if n < 1\/10 ^ 6 < n then .error .span else rck h w a fun w x=>rck h w b fun w y=>if 10 ^ 12 < h.t + n then .error .late else .ok (CW h w to sg rk (h.t + n) x y)
  | .ife f t e,w=>rck h w f fun w n=>if n=0 then doS h ds e w else doS h ds t w
  | .fin,w=>.ok {w with en:=true}
def doS (h:Ev) (ds:List Int):Ds->Wk->Except Flt Wk
  | .nil,w=>.ok w
  | .cons d r,w=>match doD h ds d w with
    | .ok w'=>doS h ds r w'
    | .error e=>.error e
end
mutual
def Dd.deep:Dd->Nat
  | .pull _ _ o=>o.deep + 1
  | .ife _ t e=>max t.deep e.deep + 1
  | _=>0
def Ds.deep:Ds->Nat
  | .nil=>0
  | .cons d r=>max d.deep r.deep
end
def kO (H:Hp) (R:List V->Prop) (v:V):Prop:=∃ l vs,v=.ref l/\H l=some (.lst vs)/\vs.length < 1000/\R vs
def FmI (bs qs:List Str) (H:Hp) (v:V) (f:Fm):Prop:=iu bs qs H v f/\f.depth<=15
mutual
def dZ (bs qs:List Str) (H:Hp):Dd->V->Prop
  | .put x f,v=>∃ t u,v=.ref t/\H t=some (.tup [.str "put",.str x,u])/\x∈bs/\FmI bs qs H u f
  | .push q f,v=>∃ t u,v=.ref t/\H t=some (.tup [.str "push",.str q,u])/\q∈qs/\FmI bs qs H u f
  | .pull q x o,v=>∃ t u,v=.ref t/\H t=some (.tup [.str "pull",.str q,.str x,u])/\q∈qs/\x∈bs/\kO H (eA bs qs H o) u
  | .draw x f,v=>∃ t u,v=.ref t/\H t=some (.tup [.str "draw",.str x,u])/\x∈bs/\FmI bs qs H u f
  | .send to sg sp rk a b,v=>∃ t u u1 u2,v=.ref t/\H t=some (.tup [.str "send",.int to,.str sg,u,.int rk,u1,u2])/\FmI bs qs H u sp/\FmI bs qs H u1 a/\FmI bs qs H u2 b
  | .ife f x y,v=>∃ t u u1 u2,v=.ref t/\H t=some (.tup [.str "if",u,u1,u2])/\FmI bs qs H u f/\kO H (eA bs qs H x) u1/\kO H (eA bs qs H y) u2
  | .fin,v=>∃ t,v=.ref t/\H t=some (.tup [.str "end"])
def eA (bs qs:List Str) (H:Hp):Ds->List V->Prop
  | .nil,vs=>vs=[]
  | .cons d r,vs=>∃ v vr,vs=v :: vr/\dZ bs qs H d v/\eA bs qs H r vr
end
theorem kO.same {H H':Hp} (s:cF H H') {R R':List V->Prop} (f:∀ vs,R vs->R' vs) {v:V} (h:kO H R v):kO H' R' v:=by
  obtain ⟨l,vs,e,h1,h2,h3⟩:=h
  exact ⟨l,vs,e,s _ _ h1,h2,f vs h3⟩
theorem FmI.same {bs qs:List Str} {H H':Hp} (s:cF H H') {v:V} {f:Fm} (h:FmI bs qs H v f):FmI bs qs H' v f:=⟨h.1.same s,h.2⟩
mutual
theorem dZ.same {bs qs:List Str} {H H':Hp} (s:cF H H'):∀ (d:Dd) (v:V),dZ bs qs H d v->dZ bs qs H' d v
  | .put x f,v,h=>by
    obtain ⟨t,u,e,h1,h2,h3⟩:=(by simpa only [dZ] using h)
    simp only [dZ]
    exact ⟨t,u,e,s _ _ h1,h2,h3.same s⟩
  | .push q f,v,h=>by
    obtain ⟨t,u,e,h1,h2,h3⟩:=(by simpa only [dZ] using h)
    simp only [dZ]
    exact ⟨t,u,e,s _ _ h1,h2,h3.same s⟩
  | .pull q x o,v,h=>by
    obtain ⟨t,u,e,h1,h2,h3,h4⟩:=(by simpa only [dZ] using h)
    simp only [dZ]
    exact ⟨t,u,e,s _ _ h1,h2,h3,h4.same s (eA.same s o)⟩
  | .draw x f,v,h=>by
    obtain ⟨t,u,e,h1,h2,h3⟩:=(by simpa only [dZ] using h)
    simp only [dZ]
    exact ⟨t,u,e,s _ _ h1,h2,h3.same s⟩
  | .send to sg sp rk a b,v,h=>by
    obtain ⟨t,u,u1,u2,e,h1,h2,h3,h4⟩:=(by simpa only [dZ] using h)
    simp only [dZ]
    exact ⟨t,u,u1,u2,e,s _ _ h1,h2.same s,h3.same s,h4.same s⟩
  | .ife f x y,v,h=>by
    obtain ⟨t,u,u1,u2,e,h1,h2,h3,h4⟩:=(by simpa only [dZ] using h)
    simp only [dZ]
    exact ⟨t,u,u1,u2,e,s _ _ h1,h2.same s,h3.same s (eA.same s x),h4.same s (eA.same s y)⟩
  | .fin,v,h=>by
    obtain ⟨t,e,h1⟩:=(by simpa only [dZ] using h)
    simp only [dZ]
    exact ⟨t,e,s _ _ h1⟩
theorem eA.same {bs qs:List Str} {H H':Hp} (s:cF H H'):∀ (d:Ds) (vs:List V),eA bs qs H d vs->eA bs qs H' d vs
  | .nil,vs,h=>by
    simpa only [eA] using h
  | .cons d r,vs,h=>by
    obtain ⟨v,vr,e,h1,h2⟩:=(by simpa only [eA] using h)
    simp only [eA]
    exact ⟨v,vr,e,dZ.same s d v h1,eA.same s r vr h2⟩
end
def kD (H:Hp) (v:V) (e:Ev):Prop:=∃ t k,v=.ref t/\H t=some (.tup [.ref k,.int e.to,.str e.sg,.int e.a,.int e.b])/\H k=some (.tup [.int e.t,.int e.r,.int e.fr,.int e.c])
theorem kD.same {H H':Hp} (s:cF H H') {v:V} {e:Ev} (h:kD H v e):kD H' v e:=by
  obtain ⟨t,k,e1,h1,h2⟩:=h
  exact ⟨t,k,e1,s _ _ h1,s _ _ h2⟩
def boK (ps:List (Str×Int)):List (Key×V):=ps.map fun p=>((Sum.inr p.1:Key),V.int p.2)
def quK (ps:List (Str×ae)):List (Key×V):=ps.map fun p=>((Sum.inr p.1:Key),V.ref p.2)
def wrK (xs:List Str):List (Key×V):=xs.map fun x=>((Sum.inr x:Key),V.bl true)
theorem nj {α:Type} (g:α->V) (x:Str):∀ ps:List (Str×α),kX (ps.map fun p=>((Sum.inr p.1:Key),g p.2)) (Sum.inr x)=(ps.lookup x).map g
  | []=>rfl
  | p :: ps=>by
    rw [dN]
    by_cases c:p.1=x
    · rw [mQ (by rw [c])]
      obtain ⟨a,b⟩:=p
      dsimp only at c
      subst c
      rw [bQ]
      rfl
    · rw [mR (fun z=>c (mB z)),nj g x ps]
      obtain ⟨a,b⟩:=p
      dsimp only at c
      rw [cL]
      have:(x == a)=false:=beq_eq_false_iff_ne.mpr fun z=>c z.symm
      rw [this]
theorem BD {α:Type} (g:α->V) (x:Str) (n:α) {ps:List (Str×α)} (h:(ps.lookup x).isSome=true):jt (ps.map fun p=>((Sum.inr p.1:Key),g p.2)) (Sum.inr x) (g n)=(jo ps x n).map fun p=>((Sum.inr p.1:Key),g p.2):=by
  unfold jt
  rw [lC,nj,oP,h,if_pos rfl]
  unfold jo
  rw [pO,pO]
  apply km
  intro p _
  by_cases c:p.1=x
  · simp only [nI,c,if_true]
  · simp only [nI,if_neg c,if_neg (fun z=>c (mB z):¬ (Sum.inr p.1:Key)=Sum.inr x)]
theorem xE (xs:List Str) (x:Str):kX (wrK xs) (Sum.inr x)=if x∈xs then some (.bl true) else none:=by
  induction xs with
  | nil=>rfl
  | cons y xs ih =>
    unfold wrK at ih |-
    rw [dN]
    by_cases c:y=x
    · rw [mQ (by rw [c]),if_pos (by rw [c]; exact aA)]
    · rw [mR (fun z=>c (mB z)),ih]
      by_cases m:x∈xs
      · rw [if_pos m,if_pos (aa _ m)]
      · rw [if_neg m,if_neg]
        intro z
        rcases az.mp z with z | z
        · exact c z.symm
        · exact m z
theorem xH (xs:List Str) (x:Str):jt (wrK xs) (Sum.inr x) (.bl true)=wrK (gP xs x):=by
  unfold jt
  rw [lC,xE]
  by_cases m:x∈xs
  · rw [if_pos m]
    unfold gP
    rw [if_pos m]
    show (if true=true then _ else _)=_
    rw [if_pos rfl]
    unfold wrK
    rw [pO]
    apply km
    intro y _
    by_cases c:y=x
    · simp only [nI,c,if_true]
    · simp only [nI,if_neg (fun z=>c (mB z):¬ (Sum.inr y:Key)=Sum.inr x)]
  · rw [if_neg m]
    unfold gP
    rw [if_neg m]
    show (if false=true then _ else _)=_
    rw [if_neg (by decide)]
    unfold wrK
    rw [aV]
    rfl
theorem nr {α:Type} (ps:List (Str×α)) (x:Str) (n:α):(jo ps x n).map (·.1)=ps.map (·.1):=by
  unfold jo
  rw [pO]
  apply km
  intro p _
  show (if p.1=x then (p.1,n) else p).1=p.1
  split <;> rfl
theorem lG {α:Type} {x:Str}:∀ {ps:List (Str×α)},x∈ps.map (·.1)->∃ a,ps.lookup x=some a/\(x,a)∈ps
  | [],h=>by cases h
  | p :: ps,h=>by
    obtain ⟨k,a⟩:=p
    by_cases c:x=k
    · subst c
      exact ⟨a,bQ,aA⟩
    · have h':x∈ps.map (·.1):=by
        rcases az.mp h with z | z
        · exact absurd z c
        · exact z
      obtain ⟨b,h1,h2⟩:=lG h'
      refine ⟨b,?_,aa _ h2⟩
      rw [cL,beq_eq_false_iff_ne.mpr c]
      exact h1
theorem oE {α:Type} {x:Str} {n:α} {ps:List (Str×α)} {q:Str×α} (h:q∈jo ps x n):q∈ps\/q.2=n:=by
  obtain ⟨p,hp,e⟩:=cG.mp h
  by_cases c:p.1=x
  · rw [if_pos c] at e
    subst e
    exact .inr rfl
  · rw [if_neg c] at e
    subst e
    exact .inl hp
end My
namespace My
open PySem L2
structure DT (K:aj) (mg:Str->Option af) (CD:ae):Prop where
  cl:Cls K CD
  nM:gN K CD "machine"
  nH:gN K CD "happening"
  nS:gN K CD "state"
  nW:gN K CD "written"
  nO:gN K CD "outgoing"
  nE:gN K CD "ends"
  nR:gN K CD "reckoned"
  nQ:gN K CD "queued"
  mD:mg "Doing"=some (.ref CD)
def dF (m h:V) (st wd od:ae) (en:Bool) (rd ud:ae):List (Str×V):=[("machine",m),("happening",h),("state",.ref st),("written",.ref wd),("outgoing",.ref od),("ends",.bl en),("reckoned",.ref rd),("queued",.ref ud)]
abbrev wK:List Str:=["machine","happening","state","written","outgoing","ends","reckoned","queued"]
theorem Ek (m h:V) (st wd od:ae) (en:Bool) (rd ud:ae):(dF m h st wd od en rd ud).lookup ("machine":Str)=some m:=bQ
theorem eJ {k x:Str} {v:V} {r:List (Str×V)} (h:(x == k)=false):((k,v) :: r).lookup x=r.lookup x:=by rw [cL,h]
theorem BE (m h:V) (st wd od:ae) (en:Bool) (rd ud:ae):(dF m h st wd od en rd ud).lookup ("happening":Str)=some h:=by
  unfold dF
  rw [eJ (by decide +kernel),bQ]
theorem rQ (m h:V) (st wd od:ae) (en:Bool) (rd ud:ae):(dF m h st wd od en rd ud).lookup ("state":Str)=some (.ref st):=by
  unfold dF
  rw [eJ (by decide +kernel),eJ (by decide +kernel),bQ]
theorem Ag (m h:V) (st wd od:ae) (en:Bool) (rd ud:ae):(dF m h st wd od en rd ud).lookup ("written":Str)=some (.ref wd):=by
  unfold dF
  rw [eJ (by decide +kernel),eJ (by decide +kernel),eJ (by decide +kernel),bQ]
theorem dF_o (m h:V) (st wd od:ae) (en:Bool) (rd ud:ae):(dF m h st wd od en rd ud).lookup ("outgoing":Str)=some (.ref od):=by
  unfold dF
  rw [eJ (by decide +kernel),eJ (by decide +kernel),eJ (by decide +kernel),eJ (by decide +kernel),bQ]
theorem dF_e (m h:V) (st wd od:ae) (en:Bool) (rd ud:ae):(dF m h st wd od en rd ud).lookup ("ends":Str)=some (.bl en):=by
  unfold dF
  rw [eJ (by decide +kernel),eJ (by decide +kernel),eJ (by decide +kernel),eJ (by decide +kernel),eJ (by decide +kernel),bQ]
theorem dF_r (m h:V) (st wd od:ae) (en:Bool) (rd ud:ae):(dF m h st wd od en rd ud).lookup ("reckoned":Str)=some (.ref rd):=by
  unfold dF
  rw [eJ (by decide +kernel),eJ (by decide +kernel),eJ (by decide +kernel),eJ (by decide +kernel),eJ (by decide +kernel),eJ (by decide +kernel),bQ]
theorem dF_u (m h:V) (st wd od:ae) (en:Bool) (rd ud:ae):(dF m h st wd od en rd ud).lookup ("queued":Str)=some (.ref ud):=by
  unfold dF
  rw [eJ (by decide +kernel),eJ (by decide +kernel),eJ (by decide +kernel),eJ (by decide +kernel),eJ (by decide +kernel),eJ (by decide +kernel),eJ (by decide +kernel),bQ]
theorem lY (m h:V) (st wd od:ae) (en:Bool) (rd ud:ae) {x:Str} (hx:wK.contains x=false):(dF m h st wd od en rd ud).lookup x=none:=by
  have z:∀ k∈wK,(x == k)=false:=fun k hk=>beq_eq_false_iff_ne.mpr fun e=>by
    rw [e,wL.mpr hk] at hx
    cases hx
  unfold dF
  rw [eJ (z _ (by simp)),eJ (z _ (by simp)),eJ (z _ (by simp)),eJ (z _ (by simp)),eJ (z _ (by simp)),eJ (z _ (by simp)),eJ (z _ (by simp)),eJ (z _ (by simp))]
  rfl
theorem sne {a b:Str} (h:(a == b)=false):¬ a=b:=fun e=>by
  rw [e,beq_self_eq_true] at h
  cases h
theorem El (m h:V) (st wd od:ae) (en:Bool) (rd ud:ae):ej "queued" (.ref ud) (ej "reckoned" (.ref rd) (ej "ends" (.bl en) (ej "outgoing" (.ref od) (ej "written" (.ref wd) (ej "state" (.ref st) (ej "happening" h (ej "machine" m [])))))))=dF m h st wd od en rd ud:=by
  simp only [dF,ej,if_neg (sne (a:="machine") (b:="happening") (by decide +kernel)),if_neg (sne (a:="machine") (b:="state") (by decide +kernel)),if_neg (sne (a:="machine") (b:="written") (by decide +kernel)),if_neg (sne (a:="machine") (b:="outgoing") (by decide +kernel)),if_neg (sne (a:="machine") (b:="ends") (by decide +kernel)),if_neg (sne (a:="machine") (b:="reckoned") (by decide +kernel)),if_neg (sne (a:="machine") (b:="queued") (by decide +kernel)),if_neg (sne (a:="happening") (b:="state") (by decide +kernel)),if_neg (sne (a:="happening") (b:="written") (by decide +kernel)),if_neg (sne (a:="happening") (b:="outgoing") (by decide +kernel)),if_neg (sne (a:="happening") (b:="ends") (by decide +kernel)),if_neg (sne (a:="happening") (b:="reckoned") (by decide +kernel)),if_neg (sne (a:="happening") (b:="queued") (by decide +kernel)),if_neg (sne (a:="state") (b:="written") (by decide +kernel)),if_neg (sne (a:="state") (b:="outgoing") (by decide +kernel)),if_neg (sne (a:="state") (b:="ends") (by decide +kernel)),if_neg (sne (a:="state") (b:="reckoned") (by decide +kernel)),if_neg (sne (a:="state") (b:="queued") (by decide +kernel)),if_neg (sne (a:="written") (b:="outgoing") (by decide +kernel)),if_neg (sne (a:="written") (b:="ends") (by decide +kernel)),if_neg (sne (a:="written") (b:="reckoned") (by decide +kernel)),if_neg (sne (a:="written") (b:="queued") (by decide +kernel)),if_neg (sne (a:="outgoing") (b:="ends") (by decide +kernel)),if_neg (sne (a:="outgoing") (b:="reckoned") (by decide +kernel)),if_neg (sne (a:="outgoing") (b:="queued") (by decide +kernel)),if_neg (sne (a:="ends") (b:="reckoned") (by decide +kernel)),if_neg (sne (a:="ends") (b:="queued") (by decide +kernel)),if_neg (sne (a:="reckoned") (b:="queued") (by decide +kernel))]
theorem Em (m h:V) (st wd od:ae) (en e2:Bool) (rd ud:ae):ej "ends" (.bl e2) (dF m h st wd od en rd ud)=dF m h st wd od e2 rd ud:=by
  simp only [dF,ej,if_neg (sne (a:="machine") (b:="ends") (by decide +kernel)),if_neg (sne (a:="happening") (b:="ends") (by decide +kernel)),if_neg (sne (a:="state") (b:="ends") (by decide +kernel)),if_neg (sne (a:="written") (b:="ends") (by decide +kernel)),if_neg (sne (a:="outgoing") (b:="ends") (by decide +kernel)),if_true]
theorem jJ (b q d e:V):mf b q d e=([("boxes",b),("queues",q),("drawn",d),("sent",e)]:List (Str×V)):=by
  simp only [mf,ej,if_neg (sne (a:="boxes") (b:="queues") (by decide +kernel)),if_neg (sne (a:="boxes") (b:="drawn") (by decide +kernel)),if_neg (sne (a:="boxes") (b:="sent") (by decide +kernel)),if_neg (sne (a:="queues") (b:="drawn") (by decide +kernel)),if_neg (sne (a:="queues") (b:="sent") (by decide +kernel)),if_neg (sne (a:="drawn") (b:="sent") (by decide +kernel))]
theorem En (b q d e d':V):ej "drawn" d' (mf b q d e)=mf b q d' e:=by
  rw [jJ,jJ]
  simp only [ej,if_neg (sne (a:="boxes") (b:="drawn") (by decide +kernel)),if_neg (sne (a:="queues") (b:="drawn") (by decide +kernel)),if_true]
theorem Eo (b q d e e':V):ej "sent" e' (mf b q d e)=mf b q d e':=by
  rw [jJ,jJ]
  simp only [ej,if_neg (sne (a:="boxes") (b:="sent") (by decide +kernel)),if_neg (sne (a:="queues") (b:="sent") (by decide +kernel)),if_neg (sne (a:="drawn") (b:="sent") (by decide +kernel)),if_true]
theorem yK (b q d e:V):(mf b q d e).lookup ("boxes":Str)=some b:=by rw [jJ,bQ]
theorem wM (b q d e:V):(mf b q d e).lookup ("queues":Str)=some q:=by rw [jJ,eJ (by decide +kernel),bQ]
theorem Ah (b q d e:V):(mf b q d e).lookup ("drawn":Str)=some d:=by rw [jJ,eJ (by decide +kernel),eJ (by decide +kernel),bQ]
theorem Ai (b q d e:V):(mf b q d e).lookup ("sent":Str)=some e:=by rw [jJ,eJ (by decide +kernel),eJ (by decide +kernel),eJ (by decide +kernel),bQ]
theorem st_no (b q d e:V) {x:Str} (hx:(["boxes","queues","drawn","sent"]:List Str).contains x=false):(mf b q d e).lookup x=none:=by
  have z:∀ k∈(["boxes","queues","drawn","sent"]:List Str),(x == k)=false:=fun k hk=>beq_eq_false_iff_ne.mpr fun e=>by
    rw [e,wL.mpr hk] at hx
    cases hx
  rw [jJ,eJ (z _ (by simp)),eJ (z _ (by simp)),eJ (z _ (by simp)),eJ (z _ (by simp))]
  rfl
theorem Aj (b q d e:V):(mf b q d e).length < 1000:=by
  rw [jJ]
  show 4 < 1000
  decide
theorem Ep (m h:V) (st wd od:ae) (en:Bool) (rd ud:ae):(dF m h st wd od en rd ud).length < 1000:=by show 8 < 1000; decide
structure Lay where
  d:ae
  dx:ae
  st:ae
  dxs:ae
  bd:ae
  qd:ae
  wd:ae
  od:ae
  rd:ae
  ud:ae
  m:V
  hv:V
  qa:List (Str×ae)
def Lay.all (L:Lay):List ae:=L.d :: L.st :: L.bd :: L.qd :: L.wd :: L.od :: L.rd :: L.ud :: L.qa.map (·.2)
def eu (G:Hp):List (Str×ae)->List (Str×List Int)->Prop:=bJ fun p q=>p.1=q.1/\G p.2=some (.lst (q.2.map V.int))
structure nJ (bs qs:List Str) (w:Wk):Prop where
  kb:w.bx.map (·.1)=bs
  kq:w.qu.map (·.1)=qs
  nb:bs.Nodup
  nq:qs.Nodup
  wb:∀ p∈w.bx,Wo p.2
  wq:∀ p∈w.qu,p.2.length<=30/\∀ n∈p.2,Wo n
  nw:w.wr.Nodup
  sw:∀ x∈w.wr,x∈bs++qs
  nu:w.qn.Nodup
  su:∀ x∈w.qn,x∈bs++qs
  wo:∀ e∈w.out,Wo e.a/\Wo e.b
  fw:(bs++qs).length < 100
structure Dg (CD CS:ae) (bs qs:List Str) (H0 G:Hp) (L:Lay) (h:Ev) (ds:List Int) (w:Wk):Prop where
  sm:cF H0 G
  hd:G L.d=some (.ins CD L.dx (dF L.m L.hv L.st L.wd L.od w.en L.rd L.ud))
  hst:G L.st=some (.ins CS L.dxs (mf (.ref L.bd) (.ref L.qd) (.int w.dr) (.int w.se)))
  hb:G L.bd=some (.dK (boK w.bx))
  hq:G L.qd=some (.dK (quK L.qa))
  hl:eu G L.qa w.qu
  hw:G L.wd=some (.dK (wrK w.wr))
  ho:∃ vs,G L.od=some (.lst vs)/\bJ (kD G) vs w.out
  hr:∃ rs,G L.rd=some (.lst rs)/\bJ (FmI bs qs H0) rs w.rk
  hu:G L.ud=some (.dK (wrK w.qn))
  hh:kD H0 L.hv h
  hm:∃ t x1 x2 x3 x4 dl,L.m=.ref t/\H0 t=some (.tup [x1,x2,x3,.ref dl,x4])/\H0 dl=some (.lst (ds.map V.int))
  nd:L.all.Nodup
  fr:∀ a∈L.all,H0 a=none
  ok:nJ bs qs w
  wt:Wo h.t
  wa:Wo h.a
  wb:Wo h.b
section
variable {CD CS:ae} {bs qs:List Str} {H0 G G':Hp} {L:Lay} {h:Ev} {ds:List Int} {w:Wk}
theorem eu.keep (k:∀ a u,G a=some u->a∈L.qa.map (·.2)->G' a=some u) {qa:List (Str×ae)} {qu:List (Str×List Int)} (sub:∀ p∈qa,p∈L.qa) (q:eu G qa qu):eu G' qa qu:=by
  unfold eu at q |-
  induction q with
  | nil=>exact .nil
  | cons a _ ih=>exact .cons ⟨a.1,k _ _ a.2 (cG.mpr ⟨_,sub _ aA,rfl⟩)⟩ (ih fun p hp=>sub p (aa _ hp))
theorem Paired.mono {α β:Type} {R S:α->β->Prop} (f:∀ a b,R a b->S a b) {xs:List α} {ys:List β} (r:bJ R xs ys):bJ S xs ys:=L2.Paired.imp' f r
theorem Dg.same (g:Dg CD CS bs qs H0 G L h ds w) (s:cF G G'):Dg CD CS bs qs H0 G' L h ds w:=by
  obtain ⟨vs,o1,o2⟩:=g.ho
  obtain ⟨rs,r1,r2⟩:=g.hr
  exact ⟨g.sm.trans s,s _ _ g.hd,s _ _ g.hst,s _ _ g.hb,s _ _ g.hq,g.hl.keep (L:=L) (fun a u e _=>s _ _ e) (fun _ hp=>hp),s _ _ g.hw,⟨vs,s _ _ o1,Paired.mono (fun _ _ z=>z.same s) o2⟩,⟨rs,s _ _ r1,r2⟩,s _ _ g.hu,g.hh,g.hm,g.nd,g.fr,g.ok,g.wt,g.wa,g.wb⟩
structure Lay.Ne (L:Lay):Prop where
  ds:L.d≠L.st
  db:L.d≠L.bd
  dq:L.d≠L.qd
  dw:L.d≠L.wd
  do_:L.d≠L.od
  dr:L.d≠L.rd
  du:L.d≠L.ud
  dl:∀ a∈L.qa.map (·.2),L.d≠a
  sb:L.st≠L.bd
  sq:L.st≠L.qd
  sw:L.st≠L.wd
  so:L.st≠L.od
  sr:L.st≠L.rd
  su:L.st≠L.ud
  sl:∀ a∈L.qa.map (·.2),L.st≠a
  bq:L.bd≠L.qd
  bw:L.bd≠L.wd
  bo:L.bd≠L.od
  br:L.bd≠L.rd
  bu:L.bd≠L.ud
  bl:∀ a∈L.qa.map (·.2),L.bd≠a
  qw:L.qd≠L.wd
  qo:L.qd≠L.od
  qr:L.qd≠L.rd
  qu:L.qd≠L.ud
  ql:∀ a∈L.qa.map (·.2),L.qd≠a
  wo:L.wd≠L.od
  wr:L.wd≠L.rd
  wu:L.wd≠L.ud
  wl:∀ a∈L.qa.map (·.2),L.wd≠a
  or:L.od≠L.rd
  ou:L.od≠L.ud
  ol:∀ a∈L.qa.map (·.2),L.od≠a
  ru:L.rd≠L.ud
  rl:∀ a∈L.qa.map (·.2),L.rd≠a
  ul:∀ a∈L.qa.map (·.2),L.ud≠a
  ll:(L.qa.map (·.2)).Nodup
theorem Lay.ne (nd:L.all.Nodup):L.Ne:=by
  unfold Lay.all at nd
  have cut:∀ {a:ae} {xs:List ae},(a :: xs).Nodup->(∀ b∈xs,a≠b)/\xs.Nodup:=fun {a xs} z=>by
    obtain ⟨z1,z2⟩:=cI.mp z
    exact ⟨fun b hb e=>z1 (by rw [e]; exact hb),z2⟩
  obtain ⟨a1,nd⟩:=cut nd
  obtain ⟨a2,nd⟩:=cut nd
  obtain ⟨a3,nd⟩:=cut nd
  obtain ⟨a4,nd⟩:=cut nd
  obtain ⟨a5,nd⟩:=cut nd
  obtain ⟨a6,nd⟩:=cut nd
  obtain ⟨a7,nd⟩:=cut nd
  obtain ⟨a8,nd⟩:=cut nd
  have i1:∀ {b:ae} {xs:List ae},b∈b :: xs:=aA
  have i2:∀ {a b:ae} {xs:List ae},b∈xs->b∈a :: xs:=fun z=>aa _ z
  exact ⟨a1 _ i1,a1 _ (i2 i1),a1 _ (i2 (i2 i1)),a1 _ (i2 (i2 (i2 i1))),a1 _ (i2 (i2 (i2 (i2 i1)))),a1 _ (i2 (i2 (i2 (i2 (i2 i1))))),a1 _ (i2 (i2 (i2 (i2 (i2 (i2 i1)))))),fun a ha=>a1 _ (i2 (i2 (i2 (i2 (i2 (i2 (i2 ha))))))),a2 _ i1,a2 _ (i2 i1),a2 _ (i2 (i2 i1)),a2 _ (i2 (i2 (i2 i1))),a2 _ (i2 (i2 (i2 (i2 i1)))),a2 _ (i2 (i2 (i2 (i2 (i2 i1))))),fun a ha=>a2 _ (i2 (i2 (i2 (i2 (i2 (i2 ha)))))),a3 _ i1,a3 _ (i2 i1),a3 _ (i2 (i2 i1)),a3 _ (i2 (i2 (i2 i1))),a3 _ (i2 (i2 (i2 (i2 i1)))),fun a ha=>a3 _ (i2 (i2 (i2 (i2 (i2 ha))))),a4 _ i1,a4 _ (i2 i1),a4 _ (i2 (i2 i1)),a4 _ (i2 (i2 (i2 i1))),fun a ha=>a4 _ (i2 (i2 (i2 (i2 ha)))),a5 _ i1,a5 _ (i2 i1),a5 _ (i2 (i2 i1)),fun a ha=>a5 _ (i2 (i2 (i2 ha))),a6 _ i1,a6 _ (i2 i1),fun a ha=>a6 _ (i2 (i2 ha)),a7 _ i1,fun a ha=>a7 _ (i2 ha),fun a ha=>a8 _ ha,nd⟩
theorem gY {a:ae} {o:HO} (nt:∀ xs,G a≠some (.tup xs)) {vs:List V} {es:List Ev} (r:bJ (kD G) vs es):bJ (kD (upd G a o)) vs es:=
  Paired.mono (fun v e z=>by
    obtain ⟨t,k,e1,h1,h2⟩:=z
    refine ⟨t,k,e1,?_,?_⟩
    · rw [aY fun y=>nt _ (by rw [<- y]; exact h1)]
      exact h1
    · rw [aY fun y=>nt _ (by rw [<- y]; exact h2)]
      exact h2) r
theorem Dg.sm_upd (g:Dg CD CS bs qs H0 G L h ds w) {a:ae} (ha:a∈L.all) (o:HO):cF H0 (upd G a o):=fun b u e=>by
  rw [aY (aJ e (g.fr a ha))]
  exact g.sm _ _ e
theorem in_d:L.d∈L.all:=aA
theorem Ak:L.st∈L.all:=aa _ aA
theorem xI:L.bd∈L.all:=aa _ (aa _ aA)
theorem xJ:L.qd∈L.all:=aa _ (aa _ (aa _ aA))
theorem in_wd:L.wd∈L.all:=aa _ (aa _ (aa _ (aa _ aA)))
theorem xK:L.od∈L.all:=aa _ (aa _ (aa _ (aa _ (aa _ aA))))
theorem in_rd:L.rd∈L.all:=aa _ (aa _ (aa _ (aa _ (aa _ (aa _ aA)))))
theorem in_ud:L.ud∈L.all:=aa _ (aa _ (aa _ (aa _ (aa _ (aa _ (aa _ aA))))))
theorem BF {a:ae} (h:a∈L.qa.map (·.2)):a∈L.all:=aa _ (aa _ (aa _ (aa _ (aa _ (aa _ (aa _ (aa _ h)))))))
theorem aR {o o':HO} {a b:ae} (e:G a=some o) (n:a≠b):upd G b o' a=some o:=by rw [aY n]; exact e
theorem gZ {o:HO} {a:ae} (e:G a=some o) (n:∀ xs,o≠.tup xs):∀ xs,G a≠some (.tup xs):=fun xs z=>by
  rw [e] at z
  cases z
  exact n xs rfl
theorem Dg.box (g:Dg CD CS bs qs H0 G L h ds w) {x:Str} {n:Int} (wn:Wo n):Dg CD CS bs qs H0 (upd G L.bd (.dK (boK (jo w.bx x n)))) L h ds {w with bx:=jo w.bx x n}:=by
  have N:=Lay.ne g.nd
  obtain ⟨vs,o1,o2⟩:=g.ho
  obtain ⟨rs,r1,r2⟩:=g.hr
  refine ⟨g.sm_upd xI _,aR g.hd N.db,aR g.hst N.sb,ao,aR g.hq N.bq.symm,g.hl.keep (L:=L) (fun a u e m=>aR e (N.bl a m).symm) (fun _ hp=>hp),aR g.hw N.bw.symm,⟨vs,aR o1 N.bo.symm,gY (gZ g.hb (fun _ z=>by cases z)) o2⟩,⟨rs,aR r1 N.br.symm,r2⟩,aR g.hu N.bu.symm,g.hh,g.hm,g.nd,g.fr,?_,g.wt,g.wa,g.wb⟩
  obtain ⟨kb,kq,nb,nq,wb,wq,nw,sw,nu,su,wo,fw⟩:=g.ok
  refine ⟨(nr _ _ _).trans kb,kq,nb,nq,fun p hp=>?_,wq,nw,sw,nu,su,wo,fw⟩
  rcases oE hp with z | z
  · exact wb p z
  · rw [z]
    exact wn
theorem kP {xs:List Str} {x:Str} (h:xs.Nodup):(gP xs x).Nodup:=by
  unfold gP
  by_cases c:x∈xs
  · rw [if_pos c]
    exact h
  · rw [if_neg c]
    refine ez.mpr ⟨h,by simp,fun a ha b hb=>?_⟩
    rw [aQ.mp hb]
    exact fun z=>c (by rw [<- z]; exact ha)
theorem jN {xs:List Str} {x y:Str} (h:y∈gP xs x):y∈xs\/y=x:=by
  unfold gP at h
  by_cases c:x∈xs
  · rw [if_pos c] at h
    exact .inl h
  · rw [if_neg c] at h
    rcases cE.mp h with z | z
    · exact .inl z
    · exact .inr (aQ.mp z)
theorem Al {xs:List Str}:∀ {ys:List Str},xs.Nodup->(∀ x∈xs,x∈ys)->xs.length<=ys.length:=by
  induction xs with
  | nil=>intro ys _ _; exact bV _
  | cons x xs ih =>
    intro ys nd s
    obtain ⟨n1,n2⟩:=cI.mp nd
    have hx:x∈ys:=s x aA
    have:=ih (ys:=ys.erase x) n2 fun z hz=>(List.mem_erase_of_ne (fun e=>n1 (by rw [<- e]; exact hz))).mpr (s z (aa _ hz))
    rw [List.length_erase_of_mem hx] at this
    have:=List.length_pos_of_mem hx
    rw [bX]
    omega
theorem nJ.few (k:nJ bs qs w):w.wr.length < 100:=jm (Al k.nw k.sw) k.fw
theorem nJ.few2 (k:nJ bs qs w):w.qn.length < 100:=jm (Al k.nu k.su) k.fw
theorem xM (xs:List Str):(wrK xs).length=xs.length:=ai _
theorem eM:1000 < aE:=by decide
theorem Dg.wrote (g:Dg CD CS bs qs H0 G L h ds w) {x:Str} (hx:x∈bs++qs):Dg CD CS bs qs H0 (upd G L.wd (.dK (wrK (gP w.wr x)))) L h ds {w with wr:=gP w.wr x}:=by
  have N:=Lay.ne g.nd
  obtain ⟨vs,o1,o2⟩:=g.ho
  obtain ⟨rs,r1,r2⟩:=g.hr
  refine ⟨g.sm_upd in_wd _,aR g.hd N.dw,aR g.hst N.sw,aR g.hb N.bw,aR g.hq N.qw,g.hl.keep (L:=L) (fun a u e m=>aR e (N.wl a m).symm) (fun _ hp=>hp),ao,⟨vs,aR o1 N.wo.symm,gY (gZ g.hw (fun _ z=>by cases z)) o2⟩,⟨rs,aR r1 N.wr.symm,r2⟩,aR g.hu N.wu.symm,g.hh,g.hm,g.nd,g.fr,?_,g.wt,g.wa,g.wb⟩
  obtain ⟨kb,kq,nb,nq,wb,wq,nw,sw,nu,su,wo,fw⟩:=g.ok
  refine ⟨kb,kq,nb,nq,wb,wq,kP nw,fun y hy=>?_,nu,su,wo,fw⟩
  rcases jN hy with z | z
  · exact sw y z
  · rw [z]
    exact hx
theorem eu.at_ {x:Str}:∀ {qa:List (Str×ae)} {qu:List (Str×List Int)},eu G qa qu->x∈qu.map (·.1)->∃ l,qa.lookup x=some l/\G l=some (.lst ((gy qu x).map V.int))/\l∈qa.map (·.2)
  | _,_,.nil,m=>by cases m
  | (k,l) :: qa,(k',xs) :: qu,.cons a b,m=>by
    obtain ⟨e,ha⟩:=a
    dsimp only at e ha
    subst e
    by_cases c:x=k
    · subst c
      refine ⟨l,bQ,?_,aA⟩
      unfold gy
      rw [bQ]
      exact ha
    · have m':x∈qu.map (·.1):=by
        rcases az.mp m with z | z
        · exact absurd z c
        · exact z
      obtain ⟨l',h1,h2,h3⟩:=eu.at_ b m'
      refine ⟨l',?_,?_,aa _ h3⟩
      · rw [cL,beq_eq_false_iff_ne.mpr c]
        exact h1
      · unfold gy at h2 |-
        rw [cL,beq_eq_false_iff_ne.mpr c]
        exact h2
theorem jO {α:Type} {x:Str} {a:α}:∀ {ps:List (Str×α)},ps.lookup x=some a->(x,a)∈ps
  | [],h=>by cases h
  | (k,b) :: ps,h=>by
    by_cases c:x=k
    · subst c
      rw [bQ] at h
      cases h
      exact aA
    · rw [cL,beq_eq_false_iff_ne.mpr c] at h
      exact aa _ (jO h)
theorem yL {α:Type} {x:Str} {n:α} {ps:List (Str×α)} (h:x∉ps.map (·.1)):jo ps x n=ps:=by
  unfold jo
  have:∀ p∈ps,(if p.1=x then (p.1,n) else p)=p:=fun p hp=>if_neg fun e=>h (cG.mpr ⟨p,hp,e⟩)
  rw [km this]
  exact List.map_id _
theorem eu.set {x:Str} {l:ae} {ns:List Int}:∀ {qa:List (Str×ae)} {qu:List (Str×List Int)},eu G qa qu->(qa.map (·.2)).Nodup->(qu.map (·.1)).Nodup->qa.lookup x=some l->eu (upd G l (.lst (ns.map V.int))) qa (jo qu x ns)
  | _,_,.nil,_,_,e=>by cases e
  | (k,l0) :: qa,(k',xs) :: qu,.cons a b,nd,nk,e=>by
    obtain ⟨ek,ha⟩:=a
    dsimp only at ek ha
    subst ek
    obtain ⟨n1,n2⟩:=cI.mp nd
    obtain ⟨m1,m2⟩:=cI.mp nk
    by_cases c:x=k
    · subst c
      rw [bQ] at e
      cases e
      show eu _ _ ((if x=x then (x,ns) else (x,xs)) :: jo qu x ns)
      rw [if_pos rfl,yL m1]
      refine .cons ⟨rfl,ao⟩ ?_
      refine eu.keep (L:=⟨0,0,0,0,0,0,0,0,0,0,.non,.non,qa⟩) (G:=G) (fun a u e m=>aR e fun z=>n1 (by rw [<- z]; exact m)) (fun _ hp=>hp) b
    · rw [cL,beq_eq_false_iff_ne.mpr c] at e
      show eu _ _ ((if k=x then (k,ns) else (k,xs)) :: jo qu x ns)
      rw [if_neg fun z=>c z.symm]
      refine .cons ⟨rfl,aR ha fun z=>n1 ?_⟩ (eu.set b n2 m2 e)
      show l0∈qa.map (·.2)
      rw [show l0=l from z]
      exact cG.mpr ⟨_,jO e,rfl⟩
theorem Dg.queue (g:Dg CD CS bs qs H0 G L h ds w) {x:Str} {l:ae} {ns:List Int} (hl:L.qa.lookup x=some l) (len:ns.length<=30) (wn:∀ n∈ns,Wo n):Dg CD CS bs qs H0 (upd G l (.lst (ns.map V.int))) L h ds {w with qu:=jo w.qu x ns}:=by
  have N:=Lay.ne g.nd
  have ml:l∈L.qa.map (·.2):=cG.mpr ⟨_,jO hl,rfl⟩
  obtain ⟨vs,o1,o2⟩:=g.ho
  obtain ⟨rs,r1,r2⟩:=g.hr
  obtain ⟨kb,kq,nb,nq,wb,wq,nw,sw,nu,su,wo,fw⟩:=g.ok
  have gl:∃ xs,G l=some (.lst xs):=by
    have key:∀ {qa:List (Str×ae)} {qu:List (Str×List Int)},eu G qa qu->l∈qa.map (·.2)->∃ xs,G l=some (.lst xs):=fun {qa qu} q=>by
      induction q with
      | nil=>intro m; cases m
      | cons a _ ih =>
        intro m
        rcases az.mp m with z | z
        · rw [z]
          exact ⟨_,a.2⟩
        · exact ih z
    exact key g.hl ml
  obtain ⟨xs,gl⟩:=gl
  refine ⟨g.sm_upd (BF ml) _,aR g.hd (N.dl l ml),aR g.hst (N.sl l ml),aR g.hb (N.bl l ml),aR g.hq (N.ql l ml),g.hl.set N.ll (by rw [kq]; exact nq) hl,aR g.hw (N.wl l ml),⟨vs,aR o1 (N.ol l ml),gY (gZ gl (fun _ z=>by cases z)) o2⟩,⟨rs,aR r1 (N.rl l ml),r2⟩,aR g.hu (N.ul l ml),g.hh,g.hm,g.nd,g.fr,?_,g.wt,g.wa,g.wb⟩
  refine ⟨kb,(nr _ _ _).trans kq,nb,nq,wb,fun p hp=>?_,nw,sw,nu,su,wo,fw⟩
  rcases oE hp with z | z
  · exact wq p z
  · rw [z]
    exact ⟨len,wn⟩
theorem Dg.counts (g:Dg CD CS bs qs H0 G L h ds w) (dr:Nat) (se:Int):Dg CD CS bs qs H0 (upd G L.st (.ins CS L.dxs (mf (.ref L.bd) (.ref L.qd) (.int dr) (.int se)))) L h ds {w with dr:=dr,se:=se}:=by
  have N:=Lay.ne g.nd
  obtain ⟨vs,o1,o2⟩:=g.ho
  obtain ⟨rs,r1,r2⟩:=g.hr
  obtain ⟨kb,kq,nb,nq,wb,wq,nw,sw,nu,su,wo,fw⟩:=g.ok
  exact ⟨g.sm_upd Ak _,aR g.hd N.ds,ao,aR g.hb N.sb.symm,aR g.hq N.sq.symm,g.hl.keep (L:=L) (fun a u e m=>aR e (N.sl a m).symm) (fun _ hp=>hp),aR g.hw N.sw.symm,⟨vs,aR o1 N.so.symm,gY (gZ g.hst (fun _ z=>by cases z)) o2⟩,⟨rs,aR r1 N.sr.symm,r2⟩,aR g.hu N.su.symm,g.hh,g.hm,g.nd,g.fr,⟨kb,kq,nb,nq,wb,wq,nw,sw,nu,su,wo,fw⟩,g.wt,g.wa,g.wb⟩
theorem Dg.sent (g:Dg CD CS bs qs H0 G L h ds w) {vs:List V} {v:V} {e:Ev} (hv:G L.od=some (.lst vs)) (he:kD G v e) (we:Wo e.a/\Wo e.b):Dg CD CS bs qs H0 (upd G L.od (.lst (vs++[v]))) L h ds {w with out:=w.out++[e]}:=by
  have N:=Lay.ne g.nd
  obtain ⟨vs',o1,o2⟩:=g.ho
  obtain ⟨rs,r1,r2⟩:=g.hr
  rw [hv] at o1
  cases o1
  obtain ⟨kb,kq,nb,nq,wb,wq,nw,sw,nu,su,wo,fw⟩:=g.ok
  refine ⟨g.sm_upd xK _,aR g.hd N.do_,aR g.hst N.so,aR g.hb N.bo,aR g.hq N.qo,g.hl.keep (L:=L) (fun a u e m=>aR e (N.ol a m).symm) (fun _ hp=>hp),aR g.hw N.wo,⟨_,ao,?_⟩,⟨rs,aR r1 N.or.symm,r2⟩,aR g.hu N.ou.symm,g.hh,g.hm,g.nd,g.fr,⟨kb,kq,nb,nq,wb,wq,nw,sw,nu,su,fun x hx=>(cE.mp hx).elim (wo x) fun z=>by rw [aQ.mp z]; exact we,fw⟩,g.wt,g.wa,g.wb⟩
  exact gY (gZ hv (fun _ z=>by cases z)) (dB o2 he)
theorem Dg.ended (g:Dg CD CS bs qs H0 G L h ds w):Dg CD CS bs qs H0 (upd G L.d (.ins CD L.dx (dF L.m L.hv L.st L.wd L.od true L.rd L.ud))) L h ds {w with en:=true}:=by
  have N:=Lay.ne g.nd
  obtain ⟨vs,o1,o2⟩:=g.ho
  obtain ⟨rs,r1,r2⟩:=g.hr
  obtain ⟨kb,kq,nb,nq,wb,wq,nw,sw,nu,su,wo,fw⟩:=g.ok
  exact ⟨g.sm_upd in_d _,ao,aR g.hst N.ds.symm,aR g.hb N.db.symm,aR g.hq N.dq.symm,g.hl.keep (L:=L) (fun a u e m=>aR e (N.dl a m).symm) (fun _ hp=>hp),aR g.hw N.dw.symm,⟨vs,aR o1 N.do_.symm,gY (gZ g.hd (fun _ z=>by cases z)) o2⟩,⟨rs,aR r1 N.dr.symm,r2⟩,aR g.hu N.du.symm,g.hh,g.hm,g.nd,g.fr,⟨kb,kq,nb,nq,wb,wq,nw,sw,nu,su,wo,fw⟩,g.wt,g.wa,g.wb⟩
theorem Dg.reckoned (g:Dg CD CS bs qs H0 G L h ds w) {rs:List V} {v:V} {F:Fm} (hr:G L.rd=some (.lst rs)) (hF:FmI bs qs H0 v F):Dg CD CS bs qs H0 (upd G L.rd (.lst (rs++[v]))) L h ds {w with rk:=w.rk++[F]}:=by
  have N:=Lay.ne g.nd
  obtain ⟨vs,o1,o2⟩:=g.ho
  obtain ⟨rs',r1,r2⟩:=g.hr
  rw [hr] at r1
  cases r1
  obtain ⟨kb,kq,nb,nq,wb,wq,nw,sw,nu,su,wo,fw⟩:=g.ok
  exact ⟨g.sm_upd in_rd _,aR g.hd N.dr,aR g.hst N.sr,aR g.hb N.br,aR g.hq N.qr,g.hl.keep (L:=L) (fun a u e m=>aR e (N.rl a m).symm) (fun _ hp=>hp),aR g.hw N.wr,⟨vs,aR o1 N.or,gY (gZ hr (fun _ z=>by cases z)) o2⟩,⟨_,ao,dB r2 hF⟩,aR g.hu N.ru.symm,g.hh,g.hm,g.nd,g.fr,⟨kb,kq,nb,nq,wb,wq,nw,sw,nu,su,wo,fw⟩,g.wt,g.wa,g.wb⟩
theorem Dg.queued (g:Dg CD CS bs qs H0 G L h ds w) {x:Str} (hx:x∈bs++qs):Dg CD CS bs qs H0 (upd G L.ud (.dK (wrK (gP w.qn x)))) L h ds {w with qn:=gP w.qn x}:=by
  have N:=Lay.ne g.nd
  obtain ⟨vs,o1,o2⟩:=g.ho
  obtain ⟨rs,r1,r2⟩:=g.hr
  obtain ⟨kb,kq,nb,nq,wb,wq,nw,sw,nu,su,wo,fw⟩:=g.ok
  refine ⟨g.sm_upd in_ud _,aR g.hd N.du,aR g.hst N.su,aR g.hb N.bu,aR g.hq N.qu,g.hl.keep (L:=L) (fun a u e m=>aR e (N.ul a m).symm) (fun _ hp=>hp),aR g.hw N.wu,⟨vs,aR o1 N.ou,gY (gZ g.hu (fun _ z=>by cases z)) o2⟩,⟨rs,aR r1 N.ru,r2⟩,ao,g.hh,g.hm,g.nd,g.fr,⟨kb,kq,nb,nq,wb,wq,nw,sw,kP nu,fun y hy=>?_,wo,fw⟩,g.wt,g.wa,g.wb⟩
  rcases jN hy with z | z
  · exact su y z
  · rw [z]
    exact hx
theorem tV {x:Str} {ps:List (Str×Int)} (m:x∈ps.map (·.1)):kX (boK ps) (Sum.inr x)=some (.int (nZ ps x)):=by
  obtain ⟨a,h1,_⟩:=lG m
  have z:=nj V.int x ps
  rw [h1] at z
  unfold nZ
  rw [h1]
  exact z
theorem oa {x:Str} {l:ae} {qa:List (Str×ae)} (m:qa.lookup x=some l):kX (quK qa) (Sum.inr x)=some (.ref l):=by
  have z:=nj V.ref x qa
  rw [m] at z
  exact z
theorem xO {x:Str} (k:nJ bs qs w) (m:x∈bs):Wo (nZ w.bx x):=by
  obtain ⟨a,h1,h2⟩:=lG (ps:=w.bx) (x:=x) (by rw [k.kb]; exact m)
  unfold nZ
  rw [h1]
  exact k.wb _ h2
theorem lO {x:Str} (k:nJ bs qs w) (m:x∈qs):(gy w.qu x).length<=30/\∀ n∈gy w.qu x,Wo n:=by
  obtain ⟨a,h1,h2⟩:=lG (ps:=w.qu) (x:=x) (by rw [k.kq]; exact m)
  unfold gy
  rw [h1]
  exact k.wq _ h2
theorem Dg.asks (g:Dg CD CS bs qs H0 G L h ds w):(gX h w).Ok bs qs:=
  ⟨fun x m=>xO g.ok m,fun x m=>by
    have:=(lO g.ok m).1
    show (gy w.qu x).length<=1000
    omega,g.wa,g.wb,g.wt⟩
theorem Dg.holds {K:aj} (g:Dg CD CS bs qs H0 G L h ds w) {gl:ae} (hg:G gl=some (.lst [.int h.a,.int h.b])):Holds K CS bs qs G L.st gl (gX h w):=
  ⟨⟨L.dxs,L.bd,L.qd,_,_,_,g.hst,yK _ _ _ _,wM _ _ _ _,g.hb,g.hq,fun x m=>tV (by rw [g.ok.kb]; exact m),fun x m=>by
    obtain ⟨l,h1,h2,_⟩:=g.hl.at_ (x:=x) (by rw [g.ok.kq]; exact m)
    exact ⟨l,_,oa h1,h2,ai _⟩⟩,hg⟩
end
end My
namespace L2
open PySem
theorem pM.own {X:Cx} {E:XK} (hb:pM X E):PassesOwn (cm X.prog X.w) X.A X.env X.xe:=by
  rw [hb.xe]
  exact PassesOwn.leaving
end L2
namespace My
open PySem L2
structure Mt (K:aj) (C:ae) (x qual:Str) (st:dU) (ps:List Str) (f:ae) (fd:cH):Prop where
  F:Fun K x qual st f fd
  b:Binds K fd ps []
  m:kW K C x f
structure Am (K:aj) (mg:Str->Option af) (cf:Flt->ae):Prop where
  two:Fts K mg (cf .nought) (cf .great)
  mF:mg "Full"=some (.ref (cf .full))
  mD:mg "Dry"=some (.ref (cf .dry))
  mS:mg "Span"=some (.ref (cf .span))
  mL:mg "Late"=some (.ref (cf .late))
  xF:dI K (cf .full) nF "ValueError.__new__"=true
  xD:dI K (cf .dry) nF "ValueError.__new__"=true
  xS:dI K (cf .span) nF "ValueError.__new__"=true
  xL:dI K (cf .late) nF "ValueError.__new__"=true
def pB (cf:Flt->ae) (dg:Wk->Hp->Prop) (H0:Hp) (n:Nat) (r:Except Flt Wk) (Q:VK) (E:XK):Prop:=match r with
  | .ok w'=>∀ G',dg w' G'->w'.len<=n->Q .non G'
  | .error e=>∀ G',cF H0 G'->E (.ref (cf e)) none G'
theorem kn {cf:Flt->ae} {dg:Wk->Hp->Prop} {H0 G':Hp} {n:Nat} {h:Ev} {w:Wk} {f:Fm} {k:Wk->Int->Except Flt Wk} {Q0 Q:VK} {E:XK} (p:pB cf dg H0 n (rck h w f k) Q0 E) (s:cF H0 G')
    (hq:∀ r,ev (gX h w) f=.ok r->pB cf dg H0 n (k {w with rk:=w.rk++[f]} r) Q0 E->Q (.int r) G'):sT (cf .nought) (cf .great) (ev (gX h w) f) Q E G':=by
  unfold rck at p
  cases e:ev (gX h w) f with
  | ok r =>
    rw [e] at p
    exact hq r e p
  | nought =>
    rw [e] at p
    exact p G' s
  | great =>
    rw [e] at p
    exact p G' s
theorem wN {w:Wk} {F:Fm}:w.out.length + (w.rk++[F]).length<=w.len + 4:=by
  rw [ay]
  show _ + (_ + 1)<=w.out.length + w.rk.length + 4
  omega
theorem BG {w:Wk} {F F1 F2:Fm} {e:Ev}:(w.out++[e]).length + (w.rk++[F]++[F1]++[F2]).length<=w.len + 4:=by
  rw [ay,ay,ay,ay]
  show _ + 1 + (_ + 1 + 1 + 1)<=w.out.length + w.rk.length + 4
  omega
theorem xP {x:Str} {n:Int} {ps:List (Str×Int)} (m:x∈ps.map (·.1)):jt (boK ps) (Sum.inr x) (.int n)=boK (jo ps x n):=by
  obtain ⟨a,h1,_⟩:=lG m
  exact BD V.int x n (by rw [h1]; rfl)
theorem qg (ps:List (Str×Int)):(boK ps).length=ps.length:=ai _
section
variable {CD CS:ae} {bs qs:List Str} {H0 G G':Hp} {L:Lay} {h:Ev} {ds:List Int} {w:Wk}
theorem Dg.few (g:Dg CD CS bs qs H0 G L h ds w):(boK w.bx).length < aE/\(wrK w.wr).length < aE:=by
  have:=g.ok.few
  have:=g.ok.fw
  have:=eM
  rw [qg,xM]
  have e:=congrArg gF g.ok.kb
  rw [ai] at e
  rw [ay] at *
  omega
theorem Dg.putB (g:Dg CD CS bs qs H0 G L h ds w) {x:Str} {n:Int} (m:x∈bs):kY G L.bd (.str x) (.int n) (upd G L.bd (.dK (boK (jo w.bx x n)))):=by
  have z:=kY.k (k:=Sum.inr x) (v:=.int n) g.hb g.few.1
  rw [xP (by rw [g.ok.kb]; exact m)] at z
  exact z
theorem Dg.putW (g:Dg CD CS bs qs H0 G L h ds w) (x:Str):kY G L.wd (.str x) (.bl true) (upd G L.wd (.dK (wrK (gP w.wr x)))):=by
  have z:=kY.k (k:=Sum.inr x) (v:=.bl true) g.hw g.few.2
  rw [xH] at z
  exact z
theorem Dg.putU (g:Dg CD CS bs qs H0 G L h ds w) (x:Str):kY G L.ud (.str x) (.bl true) (upd G L.ud (.dK (wrK (gP w.qn x)))):=by
  have z:=kY.k (k:=Sum.inr x) (v:=.bl true) g.hu (by
    have:=g.ok.few2
    have:=eM
    rw [xM]
    omega)
  rw [xH] at z
  exact z
theorem Dg.getL (g:Dg CD CS bs qs H0 G L h ds w) {x:Str} (m:x∈qs):∃ l,L.qa.lookup x=some l/\G l=some (.lst ((gy w.qu x).map V.int))/\kd G L.qd (.str x) (some (.ref l)):=by
  obtain ⟨l,h1,h2,_⟩:=g.hl.at_ (x:=x) (by rw [g.ok.kq]; exact m)
  refine ⟨l,h1,h2,?_⟩
  have z:=kd.k (k:=Sum.inr x) g.hq
  rw [oa h1] at z
  exact z
end
section
variable {P:aX} {w:cz} {K:aj} {mg:Str->Option af} {base:cR} {f fN fR fF fW fT fD fL fQ CD CS CM:ae} {fd fdN fdR fdF fdW fdT fdD fdL fdQ:cH} {cf:Flt->ae} {bs qs:List Str}
def An (CD CS:ae) (bs qs:List Str):Sp:=fun vs H Q _=>∃ (H0:Hp) (L:Lay) (h:Ev) (ds:List Int) (w:Wk),vs=[.ref L.d]/\Dg CD CS bs qs H0 H L h ds w/\Q (.int h.t) H
theorem scNw:cD ["self"] ["self"] (aB gv):=⟨rfl,rfl,rfl,by decide +kernel,rfl,by decide +kernel,by decide +kernel⟩
theorem Ao (M:Mt K CD "now" "Doing.now" gv ["self"] f fd) (T:DT K mg CD):bZ P w K mg base CX0 1 f fd ["self"] (An CD CS bs qs):=by
  refine M.F.ok scNw (fun vs H Q E h=>?_) (fun cdv A outer s H vs Q E hr h=>?_)
  · obtain ⟨H0,L,e,ds,w,rfl,_⟩:=h
    rfl
  obtain ⟨H0,L,e,ds,w,rfl,g,q⟩:=h
  obtain ⟨t,k,ev,h1,h2⟩:=g.hh
  refine ⟨_,au (bD (aP bC (aP bC (cY (pv 0) rfl) ag (fun _ _=>rfl)) ag (fun _ _=>rfl))),?_⟩
  exact ⟨_,rfl,L.d,CD,L.dx,_,_,rfl,g.hd,T.cl,T.nH,BE _ _ _ _ _ _ _ _,t,_,_,_,ev,rfl,SqT.of (g.sm _ _ h1),rfl,k,_,_,_,rfl,rfl,SqT.of (g.sm _ _ h2),rfl,q⟩
def pC (cf:Flt->ae) (CD CS:ae) (bs qs:List Str):Sp:=fun vs H Q E=>∃ (H0:Hp) (L:Lay) (h:Ev) (ds:List Int) (w:Wk) (v:V) (F:Fm),vs=[.ref L.d,v]/\Dg CD CS bs qs H0 H L h ds w/\FmI bs qs H0 v F/\w.len < 400000/\∀ G',Dg CD CS bs qs H0 G' L h ds {w with rk:=w.rk++[F]}->sT (cf .nought) (cf .great) (ev (gX h w) F) Q E G'
theorem scRk:cD ["self","formula"] ["self","formula"] (aB d9):=⟨rfl,rfl,rfl,by decide +kernel,rfl,by decide +kernel,by decide +kernel⟩
theorem qh (M:Mt K CD "reckon" "Doing.reckon" d9 ["self","formula"] f fd) (MN:Mt K CD "now" "Doing.now" gv ["self"] fN fdN) (DW:Df K mg "worth_of" iQ ["formula","state","now","got"] fW fdW) (DT2:Df K mg "number_of_two" fc ["kind","first","second"] fT fdT) (DD:Df K mg "number_of_division" dA ["kind","first","second"] fD fdD)
    (DL:Df K mg "number_of_leaf" eQ ["formula","state","now","got"] fL fdL) (T:DT K mg CD) (TF:Am K mg cf) (TM:MdT K mg CM CS) (B:Bl mg):bZ P w K mg base (CXo P w) 18 f fd ["self","formula"] (pC cf CD CS bs qs):=by
  have GN:bZ P w K mg base CX0 1 fN fdN ["self"] (An CD CS bs qs):=Ao MN T
  have GW:bZ P w K mg base (CXo P w) 17 fW fdW ["formula","state","now","got"] (Ae K CS (cf .nought) (cf .great) bs qs 15):=CV DW DT2 DD DL TF.two TM B 15
  refine M.F.okX scRk (fun vs H Q E h=>?_) (fun cdv A outer s H vs Q E hr h=>?_)
  · obtain ⟨H0,L,e,ds,w,v,F,rfl,_⟩:=h
    rfl
  obtain ⟨H0,L,e,ds,w,v,F,rfl,g,hF,fw,q⟩:=h
  obtain ⟨t,k,eh,h1,h2⟩:=g.hh
  have r1:eN 1 _:=hr.mono (by omega)
  obtain ⟨rs,r1',r2⟩:=g.hr
  have g0:=g.reckoned r1' hF
  refine ⟨_,ah (dv (ia aW bA bB dR (cY (pv 0) rfl) (aw (pv 1) ak))) (au (bD (aN GW hr rfl DW.m DW.F.kp DW.b .nil (eg.passes fun _ _ _ z=>z) (aw (pv 1) (aw (cY (pv 0) rfl) (aw (qE (pv 0) T.cl MN.m GN r1 MN.b .nil bR) (aw (el (aw (aP bC (cY (pv 0) rfl) ag (fun _ _=>rfl)) (aw (aP bC (cY (pv 0) rfl) ag (fun _ _=>rfl)) ak))) ak))))))),?_⟩
  have rl:rs.length < aE:=by
    have z:rs.length=w.rk.length:=bL r2
    have:400000 < aE:=by decide
    have:w.out.length + w.rk.length < 400000:=fw
    omega
  refine ⟨_,rfl,L.d,CD,L.dx,_,_,rfl,g.hd,T.cl,T.nR,dF_r _ _ _ _ _ _ _ _,.inl ⟨rfl,_,SqL.of r1'⟩,_,rfl,L.rd,_,_,rfl,rfl,r1',rl,?_⟩
  refine ⟨_,rfl,_,rfl,L.d,CD,L.dx,_,_,rfl,g0.hd,T.cl,T.nS,rQ _ _ _ _ _ _ _ _,?_⟩
  refine ⟨_,rfl,L.d,L.dx,_,rfl,g0.hd,lY _ _ _ _ _ _ _ _ (by decide +kernel),H0,L,e,ds,_,rfl,g0,?_⟩
  refine ⟨_,rfl,L.d,CD,L.dx,_,_,rfl,g0.hd,T.cl,T.nH,BE _ _ _ _ _ _ _ _,t,_,_,_,eh,rfl,SqT.of (g0.sm _ _ h1),rfl,?_⟩
  refine ⟨_,rfl,L.d,CD,L.dx,_,_,rfl,g0.hd,T.cl,T.nH,BE _ _ _ _ _ _ _ _,t,_,_,_,eh,rfl,SqT.of (g0.sm _ _ h1),rfl,?_⟩
  refine ⟨lt2,fun l hl=>?_⟩
  have s2:=aM hl (.lst [.int e.a,.int e.b])
  have g2:=g0.same s2
  exact ⟨v,F,L.st,l,gX e w,rfl,(hF.1.same g2.sm),hF.2,g2.holds ao,g2.asks,q _ g2⟩
def Ap (CD CS:ae) (bs qs:List Str):Sp:=fun vs H Q _=>∃ (H0:Hp) (L:Lay) (h:Ev) (ds:List Int) (w:Wk) (x:Str),vs=[.ref L.d,.str x]/\Dg CD CS bs qs H0 H L h ds w/\x∈qs/\∀ G' l,Dg CD CS bs qs H0 G' L h ds {w with qn:=gP w.qn x}->L.qa.lookup x=some l->G' l=some (.lst ((gy w.qu x).map V.int))->Q (.ref l) G'
theorem scQo:cD ["self","name"] ["self","name"] (aB dP):=⟨rfl,rfl,rfl,by decide +kernel,rfl,by decide +kernel,by decide +kernel⟩
theorem Aq (M:Mt K CD "queue_of" "Doing.queue_of" dP ["self","name"] f fd) (T:DT K mg CD) (TM:MdT K mg CM CS):bZ P w K mg base CX0 1 f fd ["self","name"] (Ap CD CS bs qs):=by
  refine M.F.ok scQo (fun vs H Q E h=>?_) (fun cdv A outer s H vs Q E hr h=>?_)
  · obtain ⟨H0,L,e,ds,w,x,rfl,_⟩:=h
    rfl
  obtain ⟨H0,L,e,ds,w,x,rfl,g,hx,q⟩:=h
  have hu:=jZ hr
  refine ⟨_,ah (gu hu (cY (pv 0) rfl) (pv 1) j7 rfl) (au (bD (gs hu (cY (cY (pv 0) rfl) rfl) (pv 1) (fun _ _=>rfl)))),?_⟩
  have g1:=g.queued (x:=x) (bK _ hx)
  obtain ⟨l,hl,gl,dl⟩:=g1.getL hx
  refine ⟨_,rfl,L.d,CD,L.dx,_,_,rfl,g.hd,T.cl,T.nQ,dF_u _ _ _ _ _ _ _ _,_,rfl,L.ud,_,rfl,g.putU x,?_⟩
  exact ⟨_,rfl,L.d,CD,L.dx,_,_,rfl,g1.hd,T.cl,T.nS,rQ _ _ _ _ _ _ _ _,L.st,CS,L.dxs,_,_,rfl,g1.hst,TM.clS,TM.nQ,wM _ _ _ _,_,rfl,L.qd,_,rfl,dl,q _ l g1 hl gl⟩
def tW (CD CS:ae) (bs qs:List Str):Sp:=fun vs H Q _=>∃ (H0:Hp) (L:Lay) (h:Ev) (ds:List Int) (w:Wk) (x:Str) (n:Int),vs=[.ref L.d,.str x,.int n]/\Dg CD CS bs qs H0 H L h ds w/\x∈bs/\Wo n/\∀ G',Dg CD CS bs qs H0 G' L h ds (vc w x n)->Q .non G'
theorem scFl:cD ["self","box","worth"] ["self","box","worth"] (aB eZ):=⟨rfl,rfl,rfl,by decide +kernel,rfl,by decide +kernel,by decide +kernel⟩
theorem tX (M:Mt K CD "fill" "Doing.fill" eZ ["self","box","worth"] f fd) (T:DT K mg CD) (TM:MdT K mg CM CS):bZ P w K mg base CX0 1 f fd ["self","box","worth"] (tW CD CS bs qs):=by
  refine M.F.ok scFl (fun vs H Q E h=>?_) (fun cdv A outer s H vs Q E hr h=>?_)
  · obtain ⟨H0,L,e,ds,w,x,n,rfl,_⟩:=h
    rfl
  obtain ⟨H0,L,e,ds,w,x,n,rfl,g,hx,hn,q⟩:=h
  have hu:=jZ hr
  refine ⟨_,ah (gu hu (cY (cY (pv 0) rfl) rfl) (pv 1) (pv 2) rfl) (au (gu hu (cY (pv 0) rfl) (pv 1) j7 rfl)),?_⟩
  have g1:=g.box (x:=x) hn
  have g2:=g1.wrote (x:=x) (dC _ hx)
  refine ⟨_,rfl,_,rfl,L.d,CD,L.dx,_,_,rfl,g.hd,T.cl,T.nS,rQ _ _ _ _ _ _ _ _,L.st,CS,L.dxs,_,_,rfl,g.hst,TM.clS,TM.nB,yK _ _ _ _,_,rfl,L.bd,_,rfl,g.putB hx,?_⟩
  exact ⟨_,rfl,L.d,CD,L.dx,_,_,rfl,g1.hd,T.cl,T.nW,Ag _ _ _ _ _ _ _ _,_,rfl,L.wd,_,rfl,g1.putW x,q _ g2⟩
def wO (cf:Flt->ae) (CD CS:ae) (bs qs:List Str):Sp:=fun vs H Q E=>∃ (H0:Hp) (L:Lay) (h:Ev) (ds:List Int) (w:Wk) (x:Str) (v:V) (F:Fm),vs=[.ref L.d,.str x,v]/\Dg CD CS bs qs H0 H L h ds w/\x∈qs/\FmI bs qs H0 v F/\w.len < 400000 /\
  pB cf (fun w' G'=>Dg CD CS bs qs H0 G' L h ds w') H0 (w.len + 4) (doD h ds (.push x F) w) Q E
theorem Er:cD ["doing","name","formula","worth","queue"] ["doing","name","formula"] (aB jx):=⟨rfl,rfl,rfl,by decide +kernel,rfl,by decide +kernel,by decide +kernel⟩
theorem BH (D:Df K mg "do_push" jx ["doing","name","formula"] f fd) (MR:Mt K CD "reckon" "Doing.reckon" d9 ["self","formula"] fR fdR) (GR:bZ P w K mg base (CXo P w) 18 fR fdR ["self","formula"] (pC cf CD CS bs qs)) (MQ:Mt K CD "queue_of" "Doing.queue_of" dP ["self","name"] fQ fdQ) (T:DT K mg CD) (TF:Am K mg cf) (TM:MdT K mg CM CS) (B:Bl mg) :
    bZ P w K mg base (CXo P w) 19 f fd ["doing","name","formula"] (wO cf CD CS bs qs):=by
  have GQ:bZ P w K mg base CX0 1 fQ fdQ ["self","name"] (Ap CD CS bs qs):=Aq MQ T TM
  refine D.F.okX Er (fun vs H Q E h=>?_) (fun cdv A outer s H vs Q E hr h=>?_)
  · obtain ⟨H0,L,e,ds,w,x,v,F,rfl,_⟩:=h
    rfl
  obtain ⟨H0,L,e,ds,w,x,v,F,rfl,g,hx,hF,fw,p⟩:=h
  have hu:=jZ hr
  have r1:eN 1 _:=hr.mono (by omega)
  refine ⟨_,ah (bF (i:=3) Er.nd rfl (Or.inl rfl) (iL (pv 0) T.cl MR.m GR hr MR.b .nil (eg.passes fun _ _ _ z=>z) (aw (pv 2) ak)))
    (ah (bF (i:=4) Er.nd rfl (Or.inl rfl) (iL (pv 0) T.cl MQ.m GQ r1 MQ.b .nil bR (aw (pv 1) ak)))
    (ah (cK (bE op_ge (cu gU (by rfl) B.len cw (aw (pv 4) ak)) ag (bM _)) (au (ke eg rfl rfl TF.mF TF.xF (aw bN ak))) bH)
    (ah (dv (ia aW bA bB dR (pv 4) (aw (pv 3) ak)))
    (au (gu hu (cY (pv 0) rfl) (pv 1) j7 rfl))))),?_⟩
  simp only [doD] at p
  refine ⟨_,rfl,L.d,L.dx,_,rfl,g.hd,lY _ _ _ _ _ _ _ _ (by decide +kernel),_,rfl,H0,L,e,ds,w,v,F,rfl,g,hF,fw,fun G0 g0=>?_⟩
  refine kn p g0.sm fun n en p=>?_
  dsimp only at p
  refine ⟨_,rfl,L.d,L.dx,_,rfl,g0.hd,lY _ _ _ _ _ _ _ _ (by decide +kernel),_,rfl,H0,L,e,ds,_,x,rfl,g0,hx,fun G1 l g1 hl gl=>?_⟩
  refine ⟨_,rfl,l,_,rfl,.inl (SqL.of gl),_,_,rfl,rfl,_,rfl,gH (fun c=>?_) (fun c=>?_)⟩
  · have c:(30:Int)<=((((gy w.qu x).map V.int).length:Nat):Int):=gc c
    rw [ai] at c
    rw [if_pos (by omega)] at p
    exact ⟨(by show 1<=aE; decide),p _ g1.sm⟩
  · have c:¬ (30:Int)<=((((gy w.qu x).map V.int).length:Nat):Int):=hU c
    rw [ai] at c
    rw [if_neg (by omega)] at p
    have wn:Wo n:=j1 g1.asks (hF.1.same g1.sm) en
    have gq:=lO g1.ok hx
    have g2:=g1.queue (x:=x) (l:=l) (ns:=gy w.qu x++[n]) hl (by rw [ay]; simp only [bX,jh]; omega) (fun m hm=>by
      rcases cE.mp hm with z | z
      · exact gq.2 m z
      · rw [aQ.mp z]
        exact wn)
    have g3:=g2.wrote (x:=x) (bK _ hx)
    have lt:((gy w.qu x).map V.int).length < aE:=by
      rw [ai]
      have:=eM
      omega
    refine ⟨_,rfl,.inl ⟨rfl,_,SqL.of gl⟩,_,rfl,l,_,_,rfl,rfl,gl,lt,?_⟩
    have eq:(gy w.qu x).map V.int++[V.int n]=(gy w.qu x++[n]).map V.int:=by rw [aV]; rfl
    rw [eq]
    exact ⟨_,rfl,L.d,CD,L.dx,_,_,rfl,g2.hd,T.cl,T.nW,Ag _ _ _ _ _ _ _ _,_,rfl,L.wd,_,rfl,g2.putW x,p _ g3 (wN (w:=w) (F:=F))⟩
end
end My
namespace My
open PySem L2
theorem vd (ds:List Int) (i:Nat) (h:i < ds.length):(ds.map V.int)[i]?=some (.int (ds.getD i 0)):=by
  rw [dk,cC h,List.getD_eq_getElem?_getD,cC h]
  rfl
section
variable {P:aX} {w:cz} {K:aj} {mg:Str->Option af} {base:cR} {f fN fR fF CD CS CM:ae} {fd fdN fdR fdF:cH} {cf:Flt->ae} {bs qs:List Str}
def tY (cf:Flt->ae) (CD CS:ae) (bs qs:List Str):Sp:=fun vs H Q E=>∃ (H0:Hp) (L:Lay) (h:Ev) (ds:List Int) (w:Wk) (x:Str) (v:V) (F:Fm),vs=[.ref L.d,.str x,v]/\Dg CD CS bs qs H0 H L h ds w/\x∈bs/\FmI bs qs H0 v F/\w.len < 400000 /\
  pB cf (fun w' G'=>Dg CD CS bs qs H0 G' L h ds w') H0 (w.len + 4) (doD h ds (.draw x F) w) Q E
theorem BI:cD ["doing","box","formula","divisor","draws","draw"] ["doing","box","formula"] (aB jz):=⟨rfl,rfl,rfl,by decide +kernel,rfl,by decide +kernel,by decide +kernel⟩
theorem Ar (D:Df K mg "do_draw" jz ["doing","box","formula"] f fd) (MR:Mt K CD "reckon" "Doing.reckon" d9 ["self","formula"] fR fdR) (GR:bZ P w K mg base (CXo P w) 18 fR fdR ["self","formula"] (pC cf CD CS bs qs)) (MF:Mt K CD "fill" "Doing.fill" eZ ["self","box","worth"] fF fdF) (T:DT K mg CD) (TF:Am K mg cf) (TM:MdT K mg CM CS) (B:Bl mg) :
    bZ P w K mg base (CXo P w) 19 f fd ["doing","box","formula"] (tY cf CD CS bs qs):=by
  have GF:bZ P w K mg base CX0 1 fF fdF ["self","box","worth"] (tW CD CS bs qs):=tX MF T TM
  refine D.F.okX BI (fun vs H Q E h=>?_) (fun cdv A outer s H vs Q E hr h=>?_)
  · obtain ⟨H0,L,e,ds,w,x,v,F,rfl,_⟩:=h
    rfl
  obtain ⟨H0,L,e,ds,w,x,v,F,rfl,g,hx,hF,fw,p⟩:=h
  have r1:eN 1 _:=hr.mono (by omega)
  refine ⟨_,ah (bF (i:=3) BI.nd rfl (Or.inl rfl) (iL (pv 0) T.cl MR.m GR hr MR.b .nil (eg.passes fun _ _ _ z=>z) (aw (pv 2) ak)))
    (ah (cK (bE nK (pv 3) ag (bM _)) (au (ke eg rfl rfl TF.two.mN TF.two.xN (aw bN ak))) bH)
    (ah (bF (i:=4) BI.nd rfl (Or.inl rfl) (aP bC (cY (pv 0) rfl) ag (fun _ _=>rfl)))
    (ah (cK (ik (uC (pv 4) (fun _=>rfl))) (au (ke eg rfl rfl TF.mD TF.xD (aw bN ak))) bH)
    (ah (bF (i:=5) BI.nd rfl (Or.inl rfl) (aP bT (pv 4) (cJ kU (cY (cY (pv 0) rfl) rfl) (cu gU (by rfl) B.len cw (aw (pv 4) ak))) (fun _ _=>rfl)))
    (ah (rZ (cY (pv 0) rfl) ag zx)
    (au (dv (iL (pv 0) T.cl MF.m GF r1 MF.b .nil bR (aw (pv 1) (aw (cJ kU (pv 5) (pv 3)) ak)))))))))),?_⟩
  simp only [doD] at p
  refine ⟨_,rfl,L.d,L.dx,_,rfl,g.hd,lY _ _ _ _ _ _ _ _ (by decide +kernel),_,rfl,H0,L,e,ds,w,v,F,rfl,g,hF,fw,fun G1 g1=>?_⟩
  refine kn p g1.sm fun n en p=>?_
  refine ⟨_,rfl,_,_,rfl,rfl,_,rfl,gH (fun c=>?_) (fun c=>?_)⟩
  · rw [if_pos (gc c)] at p
    exact ⟨(by show 1<=aE; decide),p _ g1.sm⟩
  have c:¬ n < 1:=hU c
  rw [if_neg c] at p
  obtain ⟨t,x1,x2,x3,x4,dl,em,hm,hdl⟩:=g1.hm
  refine ⟨_,rfl,L.d,CD,L.dx,_,_,rfl,g1.hd,T.cl,T.nM,Ek _ _ _ _ _ _ _ _,t,_,_,_,em,rfl,SqT.of (g1.sm _ _ hm),rfl,?_⟩
  have hdl1:=g1.sm _ _ hdl
  refine ⟨_,rfl,_,.inl ⟨_,SqL.of hdl1,rfl⟩,?_⟩
  cases hds:ds with
  | nil =>
    rw [hds] at p
    refine eC ?_
    exact ⟨(by show 1<=aE; decide),p _ g1.sm⟩
  | cons d0 dr =>
    rw [<- hds]
    have ne:¬ ds=[]:=by rw [hds]; intro z; cases z
    have pos:0 < ds.length:=by rw [hds]; exact mX _
    rw [if_neg ne] at p
    have nb:(!(!(ds.map V.int).isEmpty))=false:=by rw [hds]; rfl
    rw [nb]
    refine dY ?_
    have lt:w.dr % ds.length < ds.length:=Nat.mod_lt _ pos
    have ix:atI (ds.map V.int) ((w.dr:Int) % (((ds.map V.int).length:Nat):Int))=some (.int (ds.getD (w.dr % ds.length) 0)):=by
      rw [ai,<- BJ]
      exact jG (vd ds _ lt)
    refine ⟨_,rfl,_,rfl,L.d,CD,L.dx,_,_,rfl,g1.hd,T.cl,T.nS,rQ _ _ _ _ _ _ _ _,L.st,CS,L.dxs,_,_,rfl,g1.hst,TM.clS,TM.nD,Ah _ _ _ _,_,rfl,dl,_,rfl,.inl (SqL.of hdl1),_,_,rfl,rfl,(by rw [ai]; omega),dl,_,_,_,rfl,rfl,SqL.of hdl1,ix,?_⟩
    refine ⟨_,rfl,L.d,CD,L.dx,_,_,rfl,g1.hd,T.cl,T.nS,rQ _ _ _ _ _ _ _ _,L.st,CS,L.dxs,_,_,rfl,g1.hst,TM.clS,TM.nD,Ah _ _ _ _,_,_,rfl,rfl,L.dxs,_,g1.hst,Aj _ _ _ _,?_⟩
    rw [En]
    have g2:=g1.counts (w.dr + 1) w.se
    have wn:Wo n:=j1 g1.asks (hF.1.same g1.sm) en
    have wm:Wo (ds.getD (w.dr % ds.length) 0 % n):=by
      have a1:=ie (ds.getD (w.dr % ds.length) 0) (show n≠0 by omega)
      have a2:=gk (ds.getD (w.dr % ds.length) 0) (show 0 < n by omega)
      unfold Wo at wn |-
      omega
    exact ⟨_,rfl,L.d,L.dx,_,rfl,g2.hd,lY _ _ _ _ _ _ _ _ (by decide +kernel),_,rfl,_,rfl,_,rfl,_,_,rfl,rfl,(by omega),H0,L,e,ds,_,x,_,rfl,g2,hx,wm,fun G' g3=>p G' g3 (wN (w:=w) (F:=F))⟩
def wQ (cf:Flt->ae) (CD CS:ae) (bs qs:List Str):Sp:=fun vs H Q E=>∃ (H0:Hp) (L:Lay) (h:Ev) (ds:List Int) (w:Wk) (t:ae) (u u1 u2:V) (to:Int) (sg:Str) (rk:Int) (F F1 F2:Fm),vs=[.ref L.d,.ref t]/\Dg CD CS bs qs H0 H L h ds w/\H0 t=some (.tup [.str "send",.int to,.str sg,u,.int rk,u1,u2]) /\
  FmI bs qs H0 u F/\FmI bs qs H0 u1 F1/\FmI bs qs H0 u2 F2/\w.len + 4 < 400000/\pB cf (fun w' G'=>Dg CD CS bs qs H0 G' L h ds w') H0 (w.len + 4) (doD h ds (.send to sg F rk F1 F2) w) Q E
theorem yM:cD ["doing","deed","span","first","second","when","key"] ["doing","deed"] (aB jA):=⟨rfl,rfl,rfl,by decide +kernel,rfl,by decide +kernel,by decide +kernel⟩
theorem BK (D:Df K mg "do_send" jA ["doing","deed"] f fd) (MR:Mt K CD "reckon" "Doing.reckon" d9 ["self","formula"] fR fdR) (GR:bZ P w K mg base (CXo P w) 18 fR fdR ["self","formula"] (pC cf CD CS bs qs)) (MN:Mt K CD "now" "Doing.now" gv ["self"] fN fdN) (T:DT K mg CD) (TF:Am K mg cf) (TM:MdT K mg CM CS) (B:Bl mg) :
    bZ P w K mg base (CXo P w) 19 f fd ["doing","deed"] (wQ cf CD CS bs qs):=by
  have GN:bZ P w K mg base CX0 1 fN fdN ["self"] (An CD CS bs qs):=Ao MN T
  refine D.F.okX yM (fun vs H Q E h=>?_) (fun cdv A outer s H vs Q E hr h=>?_)
  · obtain ⟨H0,L,e,ds,w,t,u,u1,u2,to,sg,rk,F,F1,F2,rfl,_⟩:=h
    rfl
  obtain ⟨H0,L,e,ds,w,t,u,u1,u2,to,sg,rk,F,F1,F2,rfl,g,ht,hF,hF1,hF2,lo,p⟩:=h
  have r1:eN 1 _:=hr.mono (by omega)
  refine ⟨_,ah (bF (i:=2) yM.nd rfl (Or.inl rfl) (iL (pv 0) T.cl MR.m GR hr MR.b .nil (eg.passes fun _ _ _ z=>z) (aw (aP bC (pv 1) ag (fun _ _=>rfl)) ak)))
    (ah (cK (kH (bE nK (pv 2) ag (bM _)) (j8 (bE kK (pv 2) (cJ iG ag ag) (bM _)))).pt (au (ke eg rfl rfl TF.mS TF.xS (aw bN ak))) bH)
    (ah (bF (i:=3) yM.nd rfl (Or.inl rfl) (iL (pv 0) T.cl MR.m GR hr MR.b .nil (eg.passes fun _ _ _ z=>z) (aw (aP bC (pv 1) ag (fun _ _=>rfl)) ak)))
    (ah (bF (i:=4) yM.nd rfl (Or.inl rfl) (iL (pv 0) T.cl MR.m GR hr MR.b .nil (eg.passes fun _ _ _ z=>z) (aw (aP bC (pv 1) ag (fun _ _=>rfl)) ak)))
    (ah (bF (i:=5) yM.nd rfl (Or.inl rfl) (cJ fZ (qE (pv 0) T.cl MN.m GN r1 MN.b .nil bR) (pv 2)))
    (ah (cK (bE kK (pv 5) (cJ iG ag ag) (bM _)) (au (ke eg rfl rfl TF.mL TF.xL (aw bN ak))) bH)
    (ah (bF (i:=6) yM.nd rfl (Or.inl rfl) (eO (aw (pv 5) (aw (aP bC (pv 1) ag (fun _ _=>rfl)) (aw (aP bC (cY (pv 0) rfl) ag (fun _ _=>rfl)) (aw (cY (cY (pv 0) rfl) rfl) ak))))))
    (ah (rZ (cY (pv 0) rfl) ag zx)
    (au (dv (ia aW bA bB dR (cY (pv 0) rfl) (aw (eO (aw (pv 6) (aw (aP bC (pv 1) ag (fun _ _=>rfl)) (aw (aP bC (pv 1) ag (fun _ _=>rfl)) (aw (pv 3) (aw (pv 4) ak)))))) ak))))))))))),?_⟩
  simp only [doD] at p
  have f0:w.len < 400000:=by omega
  have f1:Wk.len {w with rk:=w.rk++[F]} < 400000:=by
    show w.out.length + (w.rk++[F]).length < 400000
    rw [ay]
    have:w.out.length + w.rk.length + 4 < 400000:=lo
    show _ + (_ + 1) < _
    omega
  have f2:Wk.len {w with rk:=w.rk++[F]++[F1]} < 400000:=by
    show w.out.length + (w.rk++[F]++[F1]).length < 400000
    rw [ay,ay]
    have:w.out.length + w.rk.length + 4 < 400000:=lo
    show _ + (_ + 1 + 1) < _
    omega
  have l1:1<=aE:=by decide
  have c6:oX 10 6:=⟨by decide,by decide,by decide⟩
  have c12:oX 10 12:=⟨by decide,by decide,by decide⟩
  have tt:∀ {G:Hp},cF H0 G->SqT K G t [.str "send",.int to,.str sg,u,.int rk,u1,u2]:=fun {G} z=>SqT.of (z _ _ ht)
  refine ⟨_,rfl,L.d,L.dx,_,rfl,g.hd,lY _ _ _ _ _ _ _ _ (by decide +kernel),_,rfl,t,_,_,_,rfl,rfl,tt g.sm,rfl,H0,L,e,ds,w,u,F,rfl,g,hF,f0,fun G1 g1=>?_⟩
  refine kn p g1.sm fun n en p=>?_
  refine ⟨_,rfl,_,_,rfl,rfl,_,rfl,gH (fun c=>?_) (fun c=>?_)⟩
  · rw [if_pos (.inl (gc c))] at p
    exact eC ⟨l1,p _ g1.sm⟩
  have c:¬ n < 1:=hU c
  refine ⟨_,rfl,_,_,rfl,rfl,c6,_,_,rfl,rfl,_,rfl,gH (fun c2=>?_) (fun c2=>?_)⟩
  · rw [if_pos (.inr (gc c2))] at p
    exact ⟨l1,p _ g1.sm⟩
  have c2:¬ 10 ^ 6 < n:=hU c2
  rw [if_neg (fun z=>z.elim c c2)] at p
  refine ⟨_,rfl,L.d,L.dx,_,rfl,g1.hd,lY _ _ _ _ _ _ _ _ (by decide +kernel),_,rfl,t,_,_,_,rfl,rfl,tt g1.sm,rfl,H0,L,e,ds,_,u1,F1,rfl,g1,hF1,f1,fun G2 g2=>?_⟩
  refine kn p g2.sm fun n1 en1 p=>?_
  refine ⟨_,rfl,L.d,L.dx,_,rfl,g2.hd,lY _ _ _ _ _ _ _ _ (by decide +kernel),_,rfl,t,_,_,_,rfl,rfl,tt g2.sm,rfl,H0,L,e,ds,_,u2,F2,rfl,g2,hF2,f2,fun G3 g3=>?_⟩
  refine kn p g3.sm fun n2 en2 p=>?_
  refine ⟨_,rfl,L.d,L.dx,_,rfl,g3.hd,lY _ _ _ _ _ _ _ _ (by decide +kernel),H0,L,e,ds,_,rfl,g3,_,rfl,_,_,rfl,rfl,?_⟩
  refine ⟨_,rfl,_,_,rfl,rfl,c12,_,_,rfl,rfl,_,rfl,gH (fun c3=>?_) (fun c3=>?_)⟩
  · rw [if_pos (show 10 ^ 12 < e.t + n from gc c3)] at p
    exact ⟨l1,p _ g3.sm⟩
  rw [if_neg (show ¬ 10 ^ 12 < e.t + n from hU c3)] at p
  obtain ⟨th,kh,eh,h1,h2⟩:=g3.hh
  refine ⟨_,rfl,_,rfl,t,_,_,_,rfl,rfl,tt g3.sm,rfl,_,rfl,L.d,CD,L.dx,_,_,rfl,g3.hd,T.cl,T.nH,BE _ _ _ _ _ _ _ _,th,_,_,_,eh,rfl,SqT.of (g3.sm _ _ h1),rfl,_,rfl,L.d,CD,L.dx,_,_,rfl,g3.hd,T.cl,T.nS,rQ _ _ _ _ _ _ _ _,L.st,CS,L.dxs,_,_,rfl,g3.hst,TM.clS,TM.nS,Ai _ _ _ _,(by show 4<=aE; decide),fun ky hk=>?_⟩
  have s4:=aM hk (.tup [.int (e.t + n),.int rk,.int e.to,.int w.se])
  have g4:=g3.same s4
  refine ⟨_,rfl,L.d,CD,L.dx,_,_,rfl,g4.hd,T.cl,T.nS,rQ _ _ _ _ _ _ _ _,L.st,CS,L.dxs,_,_,rfl,g4.hst,TM.clS,TM.nS,Ai _ _ _ _,_,_,rfl,rfl,L.dxs,_,g4.hst,Aj _ _ _ _,?_⟩
  rw [Eo]
  have g5:=g4.counts w.dr (w.se + 1)
  have hky:∀ {G:Hp} {o o':HO},G ky=some (.tup [.int (e.t + n),.int rk,.int e.to,.int w.se])->G L.st=some o'->(∀ xs,o'≠.tup xs)->upd G L.st o ky=some (.tup [.int (e.t + n),.int rk,.int e.to,.int w.se]):=fun h1 h2 h3=>aR h1 (gJ h1 h2 (fun z=>h3 _ z.symm))
  have k5:=hky (o:=.ins CS L.dxs (mf (.ref L.bd) (.ref L.qd) (.int w.dr) (.int (w.se + 1)))) (ao:upd G3 ky _ ky=_) g4.hst (fun xs z=>by cases z)
  obtain ⟨vs,o1,o2⟩:=g5.ho
  refine ⟨_,rfl,L.d,CD,L.dx,_,_,rfl,g5.hd,T.cl,T.nO,dF_o _ _ _ _ _ _ _ _,.inl ⟨rfl,_,SqL.of o1⟩,?_⟩
  refine ⟨_,rfl,_,rfl,t,_,_,_,rfl,rfl,tt g5.sm,rfl,_,rfl,t,_,_,_,rfl,rfl,tt g5.sm,rfl,_,rfl,_,rfl,lt5,fun ev hev=>?_⟩
  have s6:=aM hev (.tup [.ref ky,.int to,.str sg,.int n1,.int n2])
  have g6:=g5.same s6
  have ol:vs.length < aE:=by
    have:=bL o2
    have z:vs.length=w.out.length:=this
    have:400000 < aE:=by decide
    have:w.out.length + w.rk.length + 4 < 400000:=lo
    omega
  refine ⟨L.od,vs,_,rfl,rfl,s6 _ _ o1,ol,?_⟩
  have g7:=g6.sent (v:=.ref ev) (e:=⟨e.t + n,rk,e.to,w.se,to,sg,n1,n2⟩) (s6 _ _ o1) ⟨ev,ky,rfl,ao,s6 _ _ k5⟩ ⟨j1 g1.asks (hF1.1.same g1.sm) en1,j1 g2.asks (hF2.1.same g2.sm) en2⟩
  exact p _ g7 (BG (w:=w) (F:=F) (F1:=F1) (F2:=F2))
end
end My
namespace My
open PySem L2
mutual
def Dd.size:Dd->Nat
  | .pull _ _ o=>o.size + 1
  | .ife _ t e=>t.size + e.size + 1
  | _=>1
def Ds.size:Ds->Nat
  | .nil=>0
  | .cons d r=>d.size + r.size
end
theorem pB.le {cf:Flt->ae} {dg:Wk->Hp->Prop} {H0:Hp} {m n:Nat} {r:Except Flt Wk} {Q:VK} {E:XK} (p:pB cf dg H0 n r Q E) (h:m<=n):pB cf dg H0 m r Q E:=by
  cases r with
  | ok w=>exact fun G g l=>p G g (cU l h)
  | error e=>exact p
section
variable {P:aX} {w:cz} {K:aj} {mg:Str->Option af} {base:cR} {f fR fF fP fD fU fW fS f1 fQ CD CS CM:ae} {fd fdR fdF fdP fdD fdU fdW fdS fd1 fdQ:cH} {cf:Flt->ae} {bs qs:List Str}
def qU (cf:Flt->ae) (CD CS:ae) (bs qs:List Str) (n:Nat):Sp:=fun vs H Q E=>∃ (H0:Hp) (L:Lay) (h:Ev) (ds:List Int) (w:Wk) (v:V) (D:Ds),vs=[.ref L.d,v]/\Dg CD CS bs qs H0 H L h ds w/\kO H0 (eA bs qs H0 D) v/\D.deep < n/\w.len + 4 * D.size < 400000 /\
  pB cf (fun w' G'=>Dg CD CS bs qs H0 G' L h ds w') H0 (w.len + 4 * D.size) (doS h ds D w) Q E
def spDd (cf:Flt->ae) (CD CS:ae) (bs qs:List Str) (n:Nat):Sp:=fun vs H Q E=>∃ (H0:Hp) (L:Lay) (h:Ev) (ds:List Int) (w:Wk) (v:V) (D:Dd),vs=[.ref L.d,v]/\Dg CD CS bs qs H0 H L h ds w/\dZ bs qs H0 D v/\D.deep < n/\w.len + 4 * D.size < 400000 /\
  pB cf (fun w' G'=>Dg CD CS bs qs H0 G' L h ds w') H0 (w.len + 4 * D.size) (doD h ds D w) Q E
def As (cf:Flt->ae) (CD CS:ae) (bs qs:List Str) (n:Nat):Sp:=fun vs H Q E=>∃ (H0:Hp) (L:Lay) (h:Ev) (ds:List Int) (w:Wk) (q x:Str) (v:V) (D:Ds),vs=[.ref L.d,.str q,.str x,v]/\Dg CD CS bs qs H0 H L h ds w/\q∈qs/\x∈bs/\kO H0 (eA bs qs H0 D) v/\D.deep < n/\w.len + 4 * D.size < 400000 /\
  pB cf (fun w' G'=>Dg CD CS bs qs H0 G' L h ds w') H0 (w.len + 4 * D.size) (doD h ds (.pull q x D) w) Q E
theorem scPl:cD ["doing","name","box","otherwise","queue"] ["doing","name","box","otherwise"] (aB jy):=⟨rfl,rfl,rfl,by decide +kernel,rfl,by decide +kernel,by decide +kernel⟩
theorem BL {n k:Nat} (hk:1<=k) (D:Df K mg "do_pull" jy ["doing","name","box","otherwise"] f fd) (DD:Df K mg "do_deeds" gB ["doing","deeds"] fD fdD) (GD:bZ P w K mg base (CXo P w) k fD fdD ["doing","deeds"] (qU cf CD CS bs qs n)) (MF:Mt K CD "fill" "Doing.fill" eZ ["self","box","worth"] fF fdF) (MQ:Mt K CD "queue_of" "Doing.queue_of" dP ["self","name"] fQ fdQ) (T:DT K mg CD) (TM:MdT K mg CM CS) :
    bZ P w K mg base (CXo P w) (k + 1) f fd ["doing","name","box","otherwise"] (As cf CD CS bs qs n):=by
  have GF:bZ P w K mg base CX0 1 fF fdF ["self","box","worth"] (tW CD CS bs qs):=tX MF T TM
  have GQ:bZ P w K mg base CX0 1 fQ fdQ ["self","name"] (Ap CD CS bs qs):=Aq MQ T TM
  refine D.F.okX scPl (fun vs H Q E h=>?_) (fun cdv A outer s H vs Q E hr h=>?_)
  · obtain ⟨H0,L,e,ds,w,q,x,v,D,rfl,_⟩:=h
    rfl
  obtain ⟨H0,L,e,ds,w,q,x,v,D,rfl,g,hq,hx,hv,hn,ho,p⟩:=h
  have r1:eN 1 _:=hr.mono hk
  have hu:=jZ hr
  refine ⟨_,ah (bF (i:=4) scPl.nd rfl (Or.inl rfl) (iL (pv 0) T.cl MQ.m GQ r1 MQ.b .nil bR (aw (pv 1) ak)))
    (au (cK (uC (pv 4) (fun _=>rfl))
      (ah (dv (iL (pv 0) T.cl MF.m GF r1 MF.b .nil bR (aw (pv 2) (aw (ia aW mh mi uG (pv 4) (aw ag ak)) ak))))
      (au (gu hu (cY (pv 0) rfl) (pv 1) j7 rfl)))
      (au (dv (aN GD hr rfl DD.m DD.F.kp DD.b .nil (eg.passes fun _ _ _ z=>z) (aw (pv 0) (aw (pv 3) ak))))))),?_⟩
  simp only [doD] at p
  refine ⟨_,rfl,L.d,L.dx,_,rfl,g.hd,lY _ _ _ _ _ _ _ _ (by decide +kernel),_,rfl,H0,L,e,ds,w,q,rfl,g,hq,fun G0 l g0 hl gl=>?_⟩
  refine ⟨_,rfl,_,.inl ⟨_,SqL.of gl,rfl⟩,?_⟩
  have gq:(gy w.qu q).length<=30/\∀ n∈gy w.qu q,Wo n:=lO g.ok hq
  cases e1:gy w.qu q with
  | nil =>
    rw [e1] at p
    refine dY ?_
    exact ⟨_,rfl,_,rfl,H0,L,e,ds,_,v,D,rfl,g0,hv,hn,ho,p⟩
  | cons m ms =>
    rw [e1] at p gl gq
    refine eC ?_
    have g1:=g0.queue (x:=q) (l:=l) (ns:=ms) hl (by have:=gq.1; rw [bX] at this; omega) (fun z hz=>gq.2 z (aa _ hz))
    refine ⟨_,rfl,L.d,L.dx,_,rfl,g0.hd,lY _ _ _ _ _ _ _ _ (by decide +kernel),_,rfl,_,rfl,.inl ⟨rfl,_,SqL.of gl⟩,l,_,_,0,.int m,rfl,rfl,gl,(by decide),(by decide),(p5 (n:=((m :: ms).map V.int).length) (i:=0) (j:=0) (by unfold ixN; rw [if_pos (by decide),if_pos (by rw [ai,bX]; omega)]; rfl)).1,rfl,?_⟩
    refine ⟨H0,L,e,ds,_,x,m,rfl,g1,hx,gq.2 m aA,fun G2 g2=>?_⟩
    have g3:=g2.wrote (x:=q) (bK _ hq)
    exact ⟨_,rfl,L.d,CD,L.dx,_,_,rfl,g2.hd,T.cl,T.nW,Ag _ _ _ _ _ _ _ _,_,rfl,L.wd,_,rfl,g2.putW q,p _ g3 (BM _ _)⟩
theorem scDd:cD ["doing","deed","kind"] ["doing","deed"] (aB jw):=⟨rfl,rfl,rfl,by decide +kernel,rfl,by decide +kernel,by decide +kernel⟩
theorem BN {n k:Nat} (hk:19<=k) (D:Df K mg "do_deed" jw ["doing","deed"] f fd) (DD:Df K mg "do_deeds" gB ["doing","deeds"] fD fdD) (GD:bZ P w K mg base (CXo P w) k fD fdD ["doing","deeds"] (qU cf CD CS bs qs n))
    (MF:Mt K CD "fill" "Doing.fill" eZ ["self","box","worth"] fF fdF) (MR:Mt K CD "reckon" "Doing.reckon" d9 ["self","formula"] fR fdR) (GR:bZ P w K mg base (CXo P w) 18 fR fdR ["self","formula"] (pC cf CD CS bs qs))
    (DP:Df K mg "do_pull" jy ["doing","name","box","otherwise"] fP fdP) (DU:Df K mg "do_push" jx ["doing","name","formula"] fU fdU) (GU:bZ P w K mg base (CXo P w) 19 fU fdU ["doing","name","formula"] (wO cf CD CS bs qs))
    (DW:Df K mg "do_draw" jz ["doing","box","formula"] fW fdW) (GW:bZ P w K mg base (CXo P w) 19 fW fdW ["doing","box","formula"] (tY cf CD CS bs qs)) (DS:Df K mg "do_send" jA ["doing","deed"] fS fdS) (GS:bZ P w K mg base (CXo P w) 19 fS fdS ["doing","deed"] (wQ cf CD CS bs qs)) (MQ:Mt K CD "queue_of" "Doing.queue_of" dP ["self","name"] fQ fdQ) (T:DT K mg CD) (TM:MdT K mg CM CS) :
    bZ P w K mg base (CXo P w) (k + 2) f fd ["doing","deed"] (spDd cf CD CS bs qs (n + 1)):=by
  have GF:bZ P w K mg base CX0 1 fF fdF ["self","box","worth"] (tW CD CS bs qs):=tX MF T TM
  have GP:bZ P w K mg base (CXo P w) (k + 1) fP fdP ["doing","name","box","otherwise"] (As cf CD CS bs qs n):=BL (by omega) DP DD GD MF MQ T TM
  refine D.F.okX scDd (fun vs H Q E h=>?_) (fun cdv A outer s H vs Q E hr h=>?_)
  · obtain ⟨H0,L,e,ds,w,v,D,rfl,_⟩:=h
    rfl
  obtain ⟨H0,L,e,ds,w,v,D,rfl,g,hv,hn,ho,p⟩:=h
  have r1:eN 1 _:=hr.mono (by omega)
  have r18:eN 18 _:=hr.mono (by omega)
  have r19:eN 19 _:=hr.mono (by omega)
  have rk:eN k _:=hr.mono (by omega)
  refine ⟨_,ah (bF (i:=2) scDd.nd rfl (Or.inl rfl) (aP bC (pv 1) ag (fun _ _=>rfl)))
    (au (cK (bE di (pv 2) bN (bM _)) (au (dv (iL (pv 0) T.cl MF.m GF r1 MF.b .nil bR (aw (aP bC (pv 1) ag (fun _ _=>rfl)) (aw (iL (pv 0) T.cl MR.m GR r18 MR.b .nil (eg.passes fun _ _ _ z=>z) (aw (aP bC (pv 1) ag (fun _ _=>rfl)) ak)) ak)))))
    (au (cK (bE di (pv 2) bN (bM _)) (au (dv (aN GU r19 rfl DU.m DU.F.kp DU.b .nil (eg.passes fun _ _ _ z=>z) (aw (pv 0) (aw (aP bC (pv 1) ag (fun _ _=>rfl)) (aw (aP bC (pv 1) ag (fun _ _=>rfl)) ak))))))
    (au (cK (bE di (pv 2) bN (bM _)) (au (dv (aN GP hr rfl DP.m DP.F.kp DP.b .nil (eg.passes fun _ _ _ z=>z) (aw (pv 0) (aw (aP bC (pv 1) ag (fun _ _=>rfl)) (aw (aP bC (pv 1) ag (fun _ _=>rfl)) (aw (aP bC (pv 1) ag (fun _ _=>rfl)) ak)))))))
    (au (cK (bE di (pv 2) bN (bM _)) (au (dv (aN GW r19 rfl DW.m DW.F.kp DW.b .nil (eg.passes fun _ _ _ z=>z) (aw (pv 0) (aw (aP bC (pv 1) ag (fun _ _=>rfl)) (aw (aP bC (pv 1) ag (fun _ _=>rfl)) ak))))))
    (au (cK (bE di (pv 2) bN (bM _)) (au (dv (aN GS r19 rfl DS.m DS.F.kp DS.b .nil (eg.passes fun _ _ _ z=>z) (aw (pv 0) (aw (pv 1) ak)))))
    (au (cK (bE di (pv 2) bN (bM _)) (au (dv (aN GD rk rfl DD.m DD.F.kp DD.b .nil (eg.passes fun _ _ _ z=>z) (aw (pv 0) (aw (qq (bE zr (iL (pv 0) T.cl MR.m GR r18 MR.b .nil (eg.passes fun _ _ _ z=>z) (aw (aP bC (pv 1) ag (fun _ _=>rfl)) ak)) ag (bM _)) (aP bC (pv 1) ag (fun _ _=>rfl)) (aP bC (pv 1) ag (fun _ _=>rfl))) ak)))))
    (au (cK (bE di (pv 2) bN (bM _)) (au (jk (pv 0) j7 rfl)) bH)))))))))))))),?_⟩
  have no:∀ {m:Str},wK.contains m=false->(dF L.m L.hv L.st L.wd L.od w.en L.rd L.ud).lookup m=none:=fun z=>lY _ _ _ _ _ _ _ _ z
  have nx:∀ {a b:Str} {p1 p2:Prop},(a == b)=false->p2->(if decide (V.str a=V.str b)=true then p1 else p2):=fun z q=>fz (kl (sne z)) (dY q)
  have yx:∀ {a:Str} {p1 p2:Prop},p1->(if decide (V.str a=V.str a)=true then p1 else p2):=fun q=>fz (pA _) (eC q)
  have fw:w.len < 400000:=by omega
  cases D with
  | put x F =>
    obtain ⟨t,u,rfl,ht,hx,hF⟩:=(by simpa only [dZ] using hv)
    have tt:=SqT.of (K:=K) (g.sm _ _ ht)
    simp only [doD] at p
    refine ⟨_,rfl,t,_,_,_,rfl,rfl,tt,rfl,_,rfl,rfl,_,rfl,yx ?_⟩
    refine ⟨_,rfl,L.d,L.dx,_,rfl,g.hd,no (by decide +kernel),_,rfl,t,_,_,_,rfl,rfl,tt,rfl,?_⟩
    refine ⟨_,rfl,L.d,L.dx,_,rfl,g.hd,no (by decide +kernel),_,rfl,t,_,_,_,rfl,rfl,tt,rfl,H0,L,e,ds,w,u,F,rfl,g,hF,fw,fun G1 g1=>?_⟩
    refine kn p g1.sm fun m em p=>?_
    exact ⟨H0,L,e,ds,_,x,m,rfl,g1,hx,j1 g1.asks (hF.1.same g1.sm) em,fun G' g'=>p G' g' (wN (w:=w) (F:=F))⟩
  | push x F =>
    obtain ⟨t,u,rfl,ht,hx,hF⟩:=(by simpa only [dZ] using hv)
    have tt:=SqT.of (K:=K) (g.sm _ _ ht)
    refine ⟨_,rfl,t,_,_,_,rfl,rfl,tt,rfl,_,rfl,rfl,_,rfl,nx (by decide +kernel) ?_⟩
    refine ⟨_,rfl,rfl,_,rfl,yx ?_⟩
    exact ⟨_,rfl,_,rfl,t,_,_,_,rfl,rfl,tt,rfl,_,rfl,t,_,_,_,rfl,rfl,tt,rfl,H0,L,e,ds,w,x,u,F,rfl,g,hx,hF,fw,p⟩
  | pull q x o =>
    obtain ⟨t,u,rfl,ht,hq,hx,hl⟩:=(by simpa only [dZ] using hv)
    have tt:=SqT.of (K:=K) (g.sm _ _ ht)
    simp only [Dd.deep] at hn
    simp only [Dd.size] at ho p
    refine ⟨_,rfl,t,_,_,_,rfl,rfl,tt,rfl,_,rfl,rfl,_,rfl,nx (by decide +kernel) ?_⟩
    refine ⟨_,rfl,rfl,_,rfl,nx (by decide +kernel) ?_⟩
    refine ⟨_,rfl,rfl,_,rfl,yx ?_⟩
    exact ⟨_,rfl,_,rfl,t,_,_,_,rfl,rfl,tt,rfl,_,rfl,t,_,_,_,rfl,rfl,tt,rfl,_,rfl,t,_,_,_,rfl,rfl,tt,rfl,H0,L,e,ds,w,q,x,u,o,rfl,g,hq,hx,hl,(by omega),(by omega),p.le (by omega)⟩
  | draw x F =>
    obtain ⟨t,u,rfl,ht,hx,hF⟩:=(by simpa only [dZ] using hv)
    have tt:=SqT.of (K:=K) (g.sm _ _ ht)
    refine ⟨_,rfl,t,_,_,_,rfl,rfl,tt,rfl,_,rfl,rfl,_,rfl,nx (by decide +kernel) ?_⟩
    refine ⟨_,rfl,rfl,_,rfl,nx (by decide +kernel) ?_⟩
    refine ⟨_,rfl,rfl,_,rfl,nx (by decide +kernel) ?_⟩
    refine ⟨_,rfl,rfl,_,rfl,yx ?_⟩
    exact ⟨_,rfl,_,rfl,t,_,_,_,rfl,rfl,tt,rfl,_,rfl,t,_,_,_,rfl,rfl,tt,rfl,H0,L,e,ds,w,x,u,F,rfl,g,hx,hF,fw,p⟩
  | send to sg F rk F1 F2 =>
    obtain ⟨t,u,u1,u2,rfl,ht,hF,hF1,hF2⟩:=(by simpa only [dZ] using hv)
    have tt:=SqT.of (K:=K) (g.sm _ _ ht)
    simp only [Dd.size] at ho p
    refine ⟨_,rfl,t,_,_,_,rfl,rfl,tt,rfl,_,rfl,rfl,_,rfl,nx (by decide +kernel) ?_⟩
    refine ⟨_,rfl,rfl,_,rfl,nx (by decide +kernel) ?_⟩
    refine ⟨_,rfl,rfl,_,rfl,nx (by decide +kernel) ?_⟩
    refine ⟨_,rfl,rfl,_,rfl,nx (by decide +kernel) ?_⟩
    refine ⟨_,rfl,rfl,_,rfl,yx ?_⟩
    exact ⟨_,rfl,_,rfl,H0,L,e,ds,w,t,u,u1,u2,to,sg,rk,F,F1,F2,rfl,g,ht,hF,hF1,hF2,(by omega),p⟩
  | ife F x y =>
    obtain ⟨t,u,u1,u2,rfl,ht,hF,hX,hY⟩:=(by simpa only [dZ] using hv)
    simp only [Dd.deep] at hn
    simp only [Dd.size] at ho p
    simp only [doD] at p
    have tt:=SqT.of (K:=K) (g.sm _ _ ht)
    refine ⟨_,rfl,t,_,_,_,rfl,rfl,tt,rfl,_,rfl,rfl,_,rfl,nx (by decide +kernel) ?_⟩
    refine ⟨_,rfl,rfl,_,rfl,nx (by decide +kernel) ?_⟩
    refine ⟨_,rfl,rfl,_,rfl,nx (by decide +kernel) ?_⟩
    refine ⟨_,rfl,rfl,_,rfl,nx (by decide +kernel) ?_⟩
    refine ⟨_,rfl,rfl,_,rfl,nx (by decide +kernel) ?_⟩
    refine ⟨_,rfl,rfl,_,rfl,yx ?_⟩
    refine ⟨_,rfl,_,rfl,L.d,L.dx,_,rfl,g.hd,no (by decide +kernel),_,rfl,t,_,_,_,rfl,rfl,tt,rfl,H0,L,e,ds,w,u,F,rfl,g,hF,fw,fun G1 g1=>?_⟩
    have tt1:=SqT.of (K:=K) (g1.sm _ _ ht)
    have lw:Wk.len {w with rk:=w.rk++[F]}=w.len + 1:=by
      show w.out.length + (w.rk++[F]).length=w.out.length + w.rk.length + 1
      rw [ay]
      rfl
    refine kn p g1.sm fun m em p=>?_
    refine ⟨rfl,_,rfl,?_⟩
    by_cases c:m=0
    · subst c
      rw [if_pos rfl] at p
      refine fz (b:=false) rfl (dY ?_)
      exact ⟨_,rfl,t,_,_,_,rfl,rfl,tt1,rfl,H0,L,e,ds,_,u2,y,rfl,g1,hY,(by omega),(by rw [lw]; omega),p.le (by rw [lw]; omega)⟩
    · rw [if_neg c] at p
      refine fz (b:=true) (by rw [decide_eq_false (fun z=>c (jU z))]; rfl) (eC ?_)
      exact ⟨_,rfl,t,_,_,_,rfl,rfl,tt1,rfl,H0,L,e,ds,_,u1,x,rfl,g1,hX,(by omega),(by rw [lw]; omega),p.le (by rw [lw]; omega)⟩
  | fin =>
    obtain ⟨t,rfl,ht⟩:=(by simpa only [dZ] using hv)
    have tt:=SqT.of (K:=K) (g.sm _ _ ht)
    simp only [doD] at p
    refine ⟨_,rfl,t,_,_,_,rfl,rfl,tt,rfl,_,rfl,rfl,_,rfl,nx (by decide +kernel) ?_⟩
    refine ⟨_,rfl,rfl,_,rfl,nx (by decide +kernel) ?_⟩
    refine ⟨_,rfl,rfl,_,rfl,nx (by decide +kernel) ?_⟩
    refine ⟨_,rfl,rfl,_,rfl,nx (by decide +kernel) ?_⟩
    refine ⟨_,rfl,rfl,_,rfl,nx (by decide +kernel) ?_⟩
    refine ⟨_,rfl,rfl,_,rfl,nx (by decide +kernel) ?_⟩
    refine ⟨_,rfl,rfl,_,rfl,yx ?_⟩
    refine ⟨_,rfl,L.d,CD,L.dx,_,rfl,g.hd,T.cl,T.nE,Ep _ _ _ _ _ _ _ _,?_⟩
    rw [Em]
    exact p _ g.ended (BM _ _)
theorem scDs:cD ["doing","deeds","deed"] ["doing","deeds"] (aB gB):=⟨rfl,rfl,rfl,by decide +kernel,rfl,by decide +kernel,by decide +kernel⟩
theorem yN {n k:Nat} (D:Df K mg "do_deeds" gB ["doing","deeds"] f fd) (D1:Df K mg "do_deed" jw ["doing","deed"] f1 fd1) (G1:bZ P w K mg base (CXo P w) k f1 fd1 ["doing","deed"] (spDd cf CD CS bs qs n)) :
    bZ P w K mg base (CXo P w) (k + 1) f fd ["doing","deeds"] (qU cf CD CS bs qs n):=by
  refine D.F.okX scDs (fun vs H Q E h=>?_) (fun cdv A outer s H vs Q E hr h=>?_)
  · obtain ⟨H0,L,e,ds,w,v,D,rfl,_⟩:=h
    rfl
  obtain ⟨H0,L,e,ds,w,v,D,rfl,g,⟨l,vs,rfl,hl,hlen,hD⟩,hn,ho,p⟩:=h
  refine ⟨_,au (fq eg.own rfl (fj (pv 1)) (cP (i:=2) scDs.nd rfl (Or.inl rfl)) (au (dv (aN G1 hr rfl D1.m D1.F.kp D1.b .nil (eg.passes fun _ _ _ z=>z) (aw (pv 0) (aw (pv 2) ak)))))),?_⟩
  refine ⟨_,rfl,l,rfl,⟨_,SqL.of (g.sm _ _ hl)⟩,fY (K:=K) (a:=l) (xs:=vs) (fun i σ G=>∃ (D':Ds) (w':Wk) (u:Option V),σ=[some (.ref L.d),some (.ref l),u]/\Dg CD CS bs qs H0 G L e ds w'/\eA bs qs H0 D' (vs.drop i)/\D'.deep < n/\w'.len + 4 * D'.size<=w.len + 4 * D.size /\
    pB cf (fun w' G'=>Dg CD CS bs qs H0 G' L e ds w') H0 (w.len + 4 * D.size) (doS e ds D' w') Q E) ⟨D,w,none,rfl,g,hD,hn,aS _,p⟩ ?_ ?_ ?_⟩
  · rintro i σ G _ ⟨D',w',u,rfl,g',_⟩
    exact SqL.of (g'.sm _ _ hl)
  · rintro i x σ G hi ⟨D',w',u,rfl,g',hD',hn',ho',p'⟩
    have lt:i < vs.length:=(aL.mp hi).1
    have hx:vs[i]=x:=(aL.mp hi).2
    rw [tZ lt,hx] at hD'
    cases D' with
    | nil =>
      simp only [eA] at hD'
      cases hD'
    | cons d r =>
      obtain ⟨v0,vr,ev,hd,hr'⟩:=(by simpa only [eA] using hD')
      cases ev
      simp only [Ds.deep] at hn'
      simp only [Ds.size] at ho'
      refine ⟨_,rfl,_,rfl,H0,L,e,ds,w',x,d,rfl,g',hd,(by omega),(by omega),?_⟩
      simp only [doS] at p'
      cases ed:doD e ds d w' with
      | error er =>
        rw [ed] at p'
        exact p'
      | ok w2 =>
        rw [ed] at p'
        intro G2 g2 l2
        exact ⟨r,w2,_,rfl,g2,hr',(by omega),(by omega),p'⟩
  · rintro σ G ⟨D',w',u,rfl,g',hD',hn',ho',p'⟩
    rw [A4] at hD'
    cases D' with
    | nil =>
      simp only [doS] at p'
      exact p' G g' (by omega)
    | cons d r =>
      obtain ⟨v0,vr,ev,_⟩:=(by simpa only [eA] using hD')
      cases ev
theorem ve (D:Df K mg "do_deeds" gB ["doing","deeds"] f fd) (D1:Df K mg "do_deed" jw ["doing","deed"] f1 fd1)
    (MF:Mt K CD "fill" "Doing.fill" eZ ["self","box","worth"] fF fdF) (MR:Mt K CD "reckon" "Doing.reckon" d9 ["self","formula"] fR fdR) (GR:bZ P w K mg base (CXo P w) 18 fR fdR ["self","formula"] (pC cf CD CS bs qs))
    (DP:Df K mg "do_pull" jy ["doing","name","box","otherwise"] fP fdP) (DU:Df K mg "do_push" jx ["doing","name","formula"] fU fdU) (GU:bZ P w K mg base (CXo P w) 19 fU fdU ["doing","name","formula"] (wO cf CD CS bs qs))
    (DW:Df K mg "do_draw" jz ["doing","box","formula"] fW fdW) (GW:bZ P w K mg base (CXo P w) 19 fW fdW ["doing","box","formula"] (tY cf CD CS bs qs)) (DS:Df K mg "do_send" jA ["doing","deed"] fS fdS) (GS:bZ P w K mg base (CXo P w) 19 fS fdS ["doing","deed"] (wQ cf CD CS bs qs)) (MQ:Mt K CD "queue_of" "Doing.queue_of" dP ["self","name"] fQ fdQ) (T:DT K mg CD) (TM:MdT K mg CM CS) :
    ∀ n:Nat,bZ P w K mg base (CXo P w) (20 + 3 * n) f fd ["doing","deeds"] (qU cf CD CS bs qs n)
  | 0=>by
    have no:∀ vs H Q E,¬ qU cf CD CS bs qs 0 vs H Q E:=fun vs H Q E h=>by
      obtain ⟨H0,L,e,ds,w,v,D,_,_,_,hn,_⟩:=h
      omega
    exact ⟨fun vs H Q E h=>absurd h (no vs H Q E),fun A outer s H args us vs Q E _ _ _ _ h=>absurd h (no vs H Q E)⟩
  | n + 1=>yN D D1 (BN (n:=n) (k:=20 + 3 * n) (by omega) D1 D (ve D D1 MF MR GR DP DU GU DW GW DS GS MQ T TM n) MF MR GR DP DU GU DW GW DS GS MQ T TM)
end
end My
namespace L2
open PySem PySem.Spec PyProof.Rows
theorem wR {X:Cx}:kJ X (.type "dict") (fun xs H Q=>∃ d kvs,xs=[V.ref d]/\H d=some (.dK kvs)/\∀ p,H p=none->Q (.ref p) (upd H p (.dK kvs))):=by
  intro pins s σ H xs us Q I r h
  obtain ⟨d,kvs,rfl,hd,q⟩:=h
  obtain ⟨u,rfl,ru⟩:=vals1 r
  cases ru
  obtain ⟨hz,n1,ws,k1,m1⟩:=(show eP X.prog X.w H s.heap d (.dK kvs) from I.hok d _ hd)
  refine kt_call_dict (knd:=fg X.prog X.w) n1 m1 (by rw [<- k1.length]; exact hz) fun h' hn sb=>?_
  have kk:∀ b o,s.heap.get? b=some o->h'.get? b=some o:=fun b o e=>(sb.2 b (cA (bO e))).trans (aU _ e)
  exact ⟨.ref s.heap.objs.size,_,I.laid (a:=s.heap.objs.size) (o:=.dK kvs) (t':=s.toks) kk (aS _) (qI hz (beq_eq_false_iff_ne.mpr (eS (cA I.big))) k1 hn),rfl,q _ (I.hok.fresh (aS _))⟩
end L2
namespace My
open PySem L2
def qV (CS:ae) (H:Hp) (st:ae) (bx:List (Str×Int)) (qu:List (Str×List Int)) (dr:Nat) (se:Int):Prop:=
  ∃ dx bd qd qa,H st=some (.ins CS dx (mf (.ref bd) (.ref qd) (.int dr) (.int se)))/\H bd=some (.dK (boK bx))/\H qd=some (.dK (quK qa))/\eu H qa qu
theorem eu.same {G G':Hp} (s:cF G G') {qa:List (Str×ae)} {qu:List (Str×List Int)} (q:eu G qa qu):eu G' qa qu:=
  eu.keep (L:=⟨0,0,0,0,0,0,0,0,0,0,.non,.non,qa⟩) (fun a u e _=>s _ _ e) (fun _ h=>h) q
theorem qV.same {CS:ae} {H H':Hp} (s:cF H H') {st:ae} {bx:List (Str×Int)} {qu:List (Str×List Int)} {dr:Nat} {se:Int} (h:qV CS H st bx qu dr se):qV CS H' st bx qu dr se:=by
  obtain ⟨dx,bd,qd,qa,h1,h2,h3,h4⟩:=h
  exact ⟨dx,bd,qd,qa,s _ _ h1,s _ _ h2,s _ _ h3,h4.same s⟩
structure StNew (CS:ae) (H G:Hp) (st:ae) (bx:List (Str×Int)) (qu:List (Str×List Int)) (dr:Nat) (se:Int) (dxs bd qd:ae) (qa:List (Str×ae)):Prop where
  sm:cF H G
  hst:G st=some (.ins CS dxs (mf (.ref bd) (.ref qd) (.int dr) (.int se)))
  hb:G bd=some (.dK (boK bx))
  hq:G qd=some (.dK (quK qa))
  hl:eu G qa qu
  nd:(st :: bd :: qd :: qa.map (·.2)).Nodup
  fr:∀ a∈st :: bd :: qd :: qa.map (·.2),H a=none
def Au (CS:ae):Sp:=fun vs H Q _=>∃ (st:ae) (bx:List (Str×Int)) (qu:List (Str×List Int)) (dr:Nat) (se:Int),vs=[.ref st]/\qV CS H st bx qu dr se/\(qu.map (·.1)).Nodup/\qu.length < 100 /\
  ∀ (G:Hp) (st' dxs bd qd:ae) (qa:List (Str×ae)),StNew CS H G st' bx qu dr se dxs bd qd qa->Q (.ref st') G
theorem oF {qa:List (Str×ae)} {x:Str} {l:ae} (h:x∉qa.map (·.1)):jt (quK qa) (Sum.inr x) (.ref l)=quK (qa++[(x,l)]):=by
  have e:qa.lookup x=none:=by
    cases z:qa.lookup x with
    | none=>rfl
    | some a=>exact absurd (cG.mpr ⟨_,jO z,rfl⟩) h
  unfold jt
  have v:kX (quK qa) (Sum.inr x)=none:=by
    have z:=nj V.ref x qa
    rw [e] at z
    exact z
  rw [lC,v]
  show (if false=true then _ else _)=_
  rw [if_neg (by decide)]
  unfold quK
  rw [aV]
  rfl
theorem kQ (qa:List (Str×ae)):(quK qa).length=qa.length:=ai _
theorem eu.len {G:Hp} {qa:List (Str×ae)} {qu:List (Str×List Int)} (q:eu G qa qu):qa.length=qu.length:=bL q
theorem eu.nm {G:Hp}:∀ {qa:List (Str×ae)} {qu:List (Str×List Int)},eu G qa qu->qa.map (·.1)=qu.map (·.1):=by
  intro qa qu p
  induction p with
  | nil=>rfl
  | cons a b ih=>rw [dN,dN,a.1,ih]
theorem eu.nth {G:Hp}:∀ {qa:List (Str×ae)} {qu:List (Str×List Int)} {i:Nat} {p:Str×ae},eu G qa qu->qa[i]?=some p->∃ q,qu[i]?=some q/\p.1=q.1/\G p.2=some (.lst (q.2.map V.int))
  | _,_,i,p,.nil,h=>by simp at h
  | _ :: _,_ :: _,0,p,.cons a b,h=>by
    simp at h
    subst h
    exact ⟨_,rfl,a.1,a.2⟩
  | _ :: _,_ :: _,i + 1,p,.cons a b,h=>by
    obtain ⟨q,h1,h2⟩:=eu.nth (i:=i) (p:=p) b (by simpa using h)
    exact ⟨q,by simpa using h1,h2⟩
section
variable {P:aX} {w:cz} {K:aj} {mg:Str->Option af} {base:cR} {f fI CD CS CM:ae} {fd fdI:cH}
theorem BO:cD ["self","queues","name","worths"] ["self"] (aB gx):=⟨rfl,rfl,rfl,by decide +kernel,rfl,by decide +kernel,by decide +kernel⟩
theorem BP (F:Fun K "copy" "State.copy" gx f fd) (MS:Mk K CS fI) (FI:Fun K "__init__" "State.__init__" gW fI fdI) (bI:Binds K fdI ["self","boxes","queues","drawn","sent"] []) (B:Bl mg) (T:MdT K mg CM CS) :
    bZ P w K mg base CX0 3 f fd ["self"] (Au CS):=by
  have GI:bZ P w K mg base CX0 1 fI fdI ["self","boxes","queues","drawn","sent"] (Eg CS):=CO FI T
  refine F.ok BO (fun vs H Q E h=>?_) (fun cdv A outer s H vs Q E hr h=>?_)
  · obtain ⟨st,bx,qu,dr,se,rfl,_⟩:=h
    rfl
  obtain ⟨st,bx,qu,dr,se,rfl,⟨dx,bd,qd,qa,hst,hb,hq,hl⟩,ndq,lq,k⟩:=h
  have hu:=jZ hr
  refine ⟨_,ah (bF (i:=1) BO.nd rfl (Or.inl rfl) jn)
    (ah (qf (fq cj rfl (zU (cY (pv 0) rfl)) (nV rfl (eX (cP (i:=2) BO.nd rfl (Or.inl rfl)) (eX (cP (i:=3) BO.nd rfl (Or.inl rfl)) kI))) (au (gu hu (pv 1) (pv 2) (hV jl (by rfl) B.list boot_list (aw (pv 3) ak)) rfl))))
    (au (bD (pZ MS GI hr (by rfl) T.mS bI .nil bR (aw (hV wR (by rfl) B.dict boot_dict (aw (cY (pv 0) rfl) ak)) (aw (pv 1) (aw (cY (pv 0) rfl) (aw (cY (pv 0) rfl) ak)))))))),?_⟩
  intro d hd
  have s1:cF H (upd H d (.dK [])):=aM hd _
  have nf:∀ (ob:Obj) (u:HO),H qd≠some (.frz ob u):=fun ob u z=>by
    rw [hq] at z
    cases z
  have ndd:d≠qd:=(aJ hq hd).symm
  have nlq:(qa.map (·.1)).Nodup:=by
    rw [hl.nm]
    exact ndq
  refine ⟨_,rfl,st,CS,dx,_,_,rfl,s1 _ _ hst,T.clS,T.nQ,wM _ _ _ _,qd,_,rfl,s1 _ _ hq,nf,fun od=>?_⟩
  refine yD (d:=qd) (od:=od) (kvs:=quK qa) (fun i σ G=>∃ (v2 v3:Option V) (qa':List (Str×ae)),σ=[some (.ref st),some (.ref d),v2,v3]/\G qd=some (.frz od (.dK (quK qa)))/\(∀ b o,H b=some o->b≠qd->G b=some o)/\G d=some (.dK (quK qa')) /\
    eu G qa' (qu.take i)/\(qa'.map (·.2)).Nodup/\∀ a∈qa'.map (·.2),H a=none/\a≠d) ⟨none,none,[],rfl,ao,fun b o e n=>?_,?_,?_,nU,fun a h=>by cases h⟩ ?_ ?_ ?_
  · rw [aY n]
    exact s1 _ _ e
  · rw [aY ndd]
    exact ao
  · rw [eK]
    exact .nil
  · rintro i σ G _ ⟨_,_,_,_,h1,_⟩
    exact h1
  · rintro i kv t σ G hi ⟨v2,v3,qa',rfl,g1,g2,g3,g4,g5,g6⟩ ht
    obtain ⟨p,hp,rfl⟩:∃ p,qa[i]?=some p/\kv=((Sum.inr p.1:Key),V.ref p.2):=by
      unfold quK at hi
      rw [dk] at hi
      cases z:qa[i]? with
      | none =>
        rw [z] at hi
        cases hi
      | some p =>
        rw [z] at hi
        cases hi
        exact ⟨p,rfl,rfl⟩
    obtain ⟨q,hq1,hq2,hq3⟩:=hl.nth hp
    have st_:=aM ht (.tup [kV (Sum.inr p.1),.ref p.2])
    have npq:p.2≠qd:=gJ hq3 hq (by intro z; cases z)
    refine ⟨t,_,rfl,SqT.of ao,rfl,_,_,rfl,_,_,rfl,rfl,?_⟩
    refine ⟨_,rfl,p.2,_,rfl,.inl (SqL.of (st_ _ _ (g2 _ _ hq3 npq))),fun l hl'=>?_⟩
    have sl:=aM hl' (.lst (q.2.map V.int))
    have gd2:=sl _ _ (st_ _ _ g3)
    have lti:i < qu.length:=(aL.mp hq1).1
    have tk:(qu.take (i + 1))=qu.take i++[q]:=by
      rw [ff,hq1]
      rfl
    have nin:p.1∉qa'.map (·.1):=by
      rw [g4.nm,hq2]
      intro z
      have nd2:((qu.take (i + 1)).map (·.1)).Nodup:=by
        rw [oG]
        exact ndq.sublist (gG _ _)
      rw [tk,aV] at nd2
      exact (ez.mp nd2).2.2 _ z q.1 (by simp) rfl
    have len':(quK qa').length < aE:=by
      have z:=g4.len
      rw [cT] at z
      rw [kQ]
      have:=eM
      omega
    have dp:=kY.k (k:=Sum.inr p.1) (v:=.ref l) gd2 len'
    rw [oF nin] at dp
    refine ⟨_,rfl,_,rfl,d,_,rfl,dp,?_⟩
    have nlG:G l=none:=by
      cases z:G l with
      | none=>rfl
      | some o =>
        have:=st_ _ _ z
        rw [hl'] at this
        cases this
    have nl0:H l=none:=by
      cases z:H l with
      | none=>rfl
      | some o =>
        by_cases c:l=qd
        · rw [c,g1] at nlG
          cases nlG
        · rw [g2 _ _ z c] at nlG
          cases nlG
    have nld:l≠d:=fun z=>by rw [z,g3] at nlG; cases nlG
    refine ⟨_,_,qa'++[(p.1,l)],rfl,?_,fun b o e n=>?_,ao,?_,?_,fun a ha=>?_⟩
    · rw [aY ndd.symm]
      exact sl _ _ (st_ _ _ g1)
    · rw [aY (aJ e hd)]
      exact sl _ _ (st_ _ _ (g2 _ _ e n))
    · rw [tk]
      have old:eu (upd (upd (upd G t (.tup [kV (Sum.inr p.1),.ref p.2])) l (.lst (q.2.map V.int))) d (.dK (quK (qa'++[(p.1,l)])))) qa' (qu.take i):=
        eu.keep (L:=⟨0,0,0,0,0,0,0,0,0,0,.non,.non,qa'⟩) (fun a u e m=>aR (sl _ _ (st_ _ _ e)) (g6 a m).2) (fun _ h=>h) g4
      exact dB old ⟨hq2,aR ao nld⟩
    · rw [aV]
      refine ez.mpr ⟨g5,by simp,fun a ha b hb=>?_⟩
      rw [aQ.mp hb]
      intro z
      obtain ⟨pp,hpp,e⟩:=cG.mp ha
      obtain ⟨j,hj⟩:=dh hpp
      obtain ⟨_,_,_,y⟩:=g4.nth hj
      rw [e,z,nlG] at y
      cases y
    · rw [aV] at ha
      rcases cE.mp ha with z | z
      · exact g6 a z
      · rw [aQ.mp z]
        exact ⟨nl0,nld⟩
  · rintro σ G ⟨v2,v3,qa',rfl,g1,g2,g3,g4,g5,g6⟩
    rw [kQ,hl.len,cM] at g4
    refine ⟨qd,od,_,g1,nf,?_⟩
    have sH:cF H (upd G qd (.dK (quK qa))):=fun b o e=>by
      by_cases c:b=qd
      · rw [c,ao]
        rw [c,hq] at e
        exact e
      · rw [aY c]
        exact g2 _ _ e c
    have g3':upd G qd (.dK (quK qa)) d=some (.dK (quK qa')):=aR g3 ndd
    have g4':eu (upd G qd (.dK (quK qa))) qa' qu:=
      eu.keep (L:=⟨0,0,0,0,0,0,0,0,0,0,.non,.non,qa'⟩) (fun a u e m=>aR e (aJ hq (g6 a m).1).symm) (fun _ h=>h) g4
    generalize upd G qd (.dK (quK qa))=G2 at sH g3' g4'
    refine ⟨_,rfl,st,CS,dx,_,_,rfl,sH _ _ hst,T.clS,T.nB,yK _ _ _ _,bd,_,rfl,sH _ _ hb,fun e he=>?_⟩
    have s3:=aM he (.dK (boK bx))
    refine ⟨_,rfl,_,rfl,st,CS,dx,_,_,rfl,s3 _ _ (sH _ _ hst),T.clS,T.nD,Ah _ _ _ _,_,rfl,st,CS,dx,_,_,rfl,s3 _ _ (sH _ _ hst),T.clS,T.nS,Ai _ _ _ _,?_⟩
    intro x dx' nx ndx nex
    refine ⟨x,dx',_,_,_,_,rfl,ao,fun H' hx bt=>⟨rfl,?_⟩⟩
    have sm:cF (upd G2 e (.dK (boK bx))) H':=fun b o e2=>by
      have cx:b≠x:=aJ e2 nx
      refine bt b o ?_ cx
      rw [aY cx,aY (aJ e2 ndx)]
      exact e2
    have sm2:=s3.trans sm
    have fresh:∀ {a:ae},upd G2 e (.dK (boK bx)) a=none->H a=none:=fun {a} z=>by
      cases y:H a with
      | none=>rfl
      | some o =>
        rw [s3 _ _ (sH _ _ y)] at z
        cases z
    have he0:H e=none:=by
      cases y:H e with
      | none=>rfl
      | some o =>
        rw [sH _ _ y] at he
        cases he
    refine k H' x dx' e d qa' ⟨sH.trans sm2,hx,sm _ _ ao,sm2 _ _ g3',g4'.same sm2,?_,?_⟩
    · have nx_e:x≠e:=(aJ (ao:upd G2 e (.dK (boK bx)) e=_) nx).symm
      have nx_d:x≠d:=(aJ (s3 _ _ g3') nx).symm
      have ne_d:e≠d:=(aJ g3' he).symm
      have ql:∀ a∈qa'.map (·.2),∃ o,G2 a=some o:=fun a ha=>by
        obtain ⟨pp,hpp,e⟩:=cG.mp ha
        obtain ⟨j,hj⟩:=dh hpp
        obtain ⟨_,_,_,y⟩:=g4'.nth hj
        rw [<- e]
        exact ⟨_,y⟩
      refine cI.mpr ⟨fun z=>?_,cI.mpr ⟨fun z=>?_,cI.mpr ⟨fun z=>(g6 d z).2 rfl,g5⟩⟩⟩
      · rcases az.mp z with z | z
        · exact nx_e z
        · rcases az.mp z with z | z
          · exact nx_d z
          · obtain ⟨o,y⟩:=ql x z
            exact (aJ (s3 _ _ y) nx) rfl
      · rcases az.mp z with z | z
        · exact ne_d z
        · obtain ⟨o,y⟩:=ql e z
          exact (aJ y he) rfl
    · intro a ha
      rcases az.mp ha with z | z
      · rw [z]
        exact fresh nx
      · rcases az.mp z with z | z
        · rw [z]
          exact he0
        · rcases az.mp z with z | z
          · rw [z]
            exact hd
          · exact (g6 a z).1
end
end My
namespace My
open PySem L2
theorem Dg.base {CD CS:ae} {bs qs:List Str} {H0 H0' G G':Hp} {L:Lay} {h:Ev} {ds:List Int} {w:Wk} (g:Dg CD CS bs qs H0 G L h ds w) (s:cF G G') (s0:cF H0 H0') (s1:cF H0' G') (fr:∀ a∈L.all,H0' a=none):Dg CD CS bs qs H0' G' L h ds w:=by
  obtain ⟨t,x1,x2,x3,x4,dl,em,hm,hdl⟩:=g.hm
  have g':=g.same s
  obtain ⟨rs,r1,r2⟩:=g'.hr
  exact ⟨s1,g'.hd,g'.hst,g'.hb,g'.hq,g'.hl,g'.hw,g'.ho,⟨rs,r1,Paired.mono (fun _ _ z=>z.same s0) r2⟩,g'.hu,g.hh.same s0,⟨t,x1,x2,x3,x4,dl,em,s0 _ _ hm,s0 _ _ hdl⟩,g.nd,fr,g.ok,g.wt,g.wa,g.wb⟩
theorem eu.there {G:Hp} {qa:List (Str×ae)} {qu:List (Str×List Int)} (q:eu G qa qu) {a:ae} (h:a∈qa.map (·.2)):∃ xs,G a=some (.lst xs):=by
  obtain ⟨pp,hpp,e⟩:=cG.mp h
  obtain ⟨j,hj⟩:=dh hpp
  obtain ⟨_,_,_,y⟩:=q.nth hj
  rw [<- e]
  exact ⟨_,y⟩
theorem Dg.there {CD CS:ae} {bs qs:List Str} {H0 G:Hp} {L:Lay} {h:Ev} {ds:List Int} {w:Wk} (g:Dg CD CS bs qs H0 G L h ds w):∀ a∈L.all,∃ o,G a=some o:=fun a ha=>by
  obtain ⟨vs,o1,_⟩:=g.ho
  obtain ⟨rs,r1,_⟩:=g.hr
  unfold Lay.all at ha
  simp only [az] at ha
  rcases ha with rfl | rfl | rfl | rfl | rfl | rfl | rfl | rfl | ha
  · exact ⟨_,g.hd⟩
  · exact ⟨_,g.hst⟩
  · exact ⟨_,g.hb⟩
  · exact ⟨_,g.hq⟩
  · exact ⟨_,g.hw⟩
  · exact ⟨_,o1⟩
  · exact ⟨_,r1⟩
  · exact ⟨_,g.hu⟩
  · obtain ⟨xs,e⟩:=g.hl.there ha
    exact ⟨_,e⟩
def yO (bs qs:List Str) (H:Hp) (v:V) (p:Str×Ds):Prop:=∃ t u,v=.ref t/\H t=some (.tup [.str p.1,u])/\kO H (eA bs qs H p.2) u
def iT (hs:List (Str×Ds)) (sg:Str):Ds:=(hs.lookup sg).getD .nil
theorem yO.same {bs qs:List Str} {H H':Hp} (s:cF H H') {v:V} {p:Str×Ds} (h:yO bs qs H v p):yO bs qs H' v p:=by
  obtain ⟨t,u,e,h1,h2⟩:=h
  exact ⟨t,u,e,s _ _ h1,h2.same s (eA.same s p.2)⟩
section
variable {P:aX} {w:cz} {K:aj} {mg:Str->Option af} {base:cR} {f fC fI CD CS CM:ae} {fd fdC fdI:cH} {bs qs:List Str}
theorem fv {G:Hp} {a b:ae} {o:HO} (h:upd G a o b=none):b≠a/\G b=none:=by
  by_cases c:b=a
  · rw [c,ao] at h
    cases h
  · rw [aY c] at h
    exact ⟨c,h⟩
theorem vg {G:Hp} {d wd od rd ud a:ae} {i3 i4 i6 i7 i8 o:HO} (hwd:G wd=none) (hod:G od=none) (hrd:G rd=none) (hud:G ud=none) (e:G a=some o) (n:a≠d):upd (upd (upd (upd (upd (upd (upd (upd (upd G d i3) wd (.dK [])) d i4) od (.lst [])) d i6) rd (.lst [])) d i7) ud (.dK [])) d i8 a=some o:=
  aR (aR (aR (aR (aR (aR (aR (aR (aR e n) (aJ e hwd)) n) (aJ e hod)) n) (aJ e hrd)) n) (aJ e hud)) n
def Es (CD CS:ae) (bs qs:List Str):Sp:=fun vs H Q _=>∃ (H0:Hp) (d dx st:ae) (m hv:V) (h:Ev) (ds:List Int) (bx:List (Str×Int)) (qu:List (Str×List Int)) (dr:Nat) (se:Int),vs=[.ref d,m,.ref st,hv]/\H d=some (.ins CD dx [])/\H0 d=none/\cF H0 H/\qV CS H0 st bx qu dr se /\
  kD H0 hv h/\(∃ t x1 x2 x3 x4 dl,m=.ref t/\H0 t=some (.tup [x1,x2,x3,.ref dl,x4])/\H0 dl=some (.lst (ds.map V.int)))/\nJ bs qs ⟨bx,qu,dr,se,[],[],false,[],[]⟩/\Wo h.t/\Wo h.a/\Wo h.b /\
  ∀ (G:Hp) (L:Lay),L.d=d->L.m=m->Dg CD CS bs qs H0 G L h ds ⟨bx,qu,dr,se,[],[],false,[],[]⟩->Q .non G
theorem scDI:cD ["self","machine","state","happening"] ["self","machine","state","happening"] (aB iC):=⟨rfl,rfl,rfl,by decide +kernel,rfl,by decide +kernel,by decide +kernel⟩
theorem ok_DI (F:Fun K "__init__" "Doing.__init__" iC f fd) (MC:Mt K CS "copy" "State.copy" gx ["self"] fC fdC) (GC:bZ P w K mg base CX0 3 fC fdC ["self"] (Au CS)) (T:DT K mg CD) (TM:MdT K mg CM CS):bZ P w K mg base CX0 4 f fd ["self","machine","state","happening"] (Es CD CS bs qs):=by
  refine F.ok scDI (fun vs H Q E h=>?_) (fun cdv A outer s H vs Q E hr h=>?_)
  · obtain ⟨H0,d,dx,st,m,hv,h,ds,bx,qu,dr,se,rfl,_⟩:=h
    rfl
  obtain ⟨H0,d,dx,st,m,hv,h,ds,bx,qu,dr,se,rfl,hd,nd0,s0,hS,hE,hM,ok,wt,wa,wb,k⟩:=h
  refine ⟨_,ah (jk (pv 0) (pv 1) rfl) (ah (jk (pv 0) (pv 3) rfl) (ah (jk (pv 0) (qE (pv 2) TM.clS MC.m GC hr MC.b .nil bR) rfl) (ah (jk (pv 0) jn rfl) (ah (jk (pv 0) (el ak) rfl) (ah (jk (pv 0) j7 rfl) (ah (jk (pv 0) (el ak) rfl) (au (jk (pv 0) jn rfl)))))))),?_⟩
  have l1:=jI "machine" m []
  have l2:=jI "happening" hv (ej "machine" m [])
  simp only [jh] at l1
  refine ⟨_,rfl,_,rfl,d,CD,dx,[],rfl,hd,T.cl,T.nM,(by show 0 < 1000; decide),?_⟩
  refine ⟨_,rfl,_,rfl,d,CD,dx,_,rfl,ao,T.cl,T.nH,(by omega),?_⟩
  rw [w5]
  have sd:∀ (o:HO),cF H0 (upd H d o):=fun o b u e=>by
    rw [aY (aJ e nd0)]
    exact s0 _ _ e
  obtain ⟨dxs0,bd0,qd0,qa0,hst0,_⟩:=id hS
  refine ⟨_,rfl,st,dxs0,_,rfl,sd _ _ _ hst0,st_no _ _ _ _ (by decide +kernel),st,bx,qu,dr,se,rfl,hS.same (sd _),(by rw [ok.kq]; exact ok.nq),?_,fun G st' dxs bd qd qa N=>?_⟩
  · have e:=congrArg gF ok.kq
    rw [ai] at e
    have:=ok.fw
    rw [ay] at this
    show qu.length < 100
    have e:qu.length=qs.length:=e
    omega
  have gd:G d=some (.ins CD dx (ej "happening" hv (ej "machine" m []))):=N.sm _ _ ao
  have l3:=jI "state" (.ref st') (ej "happening" hv (ej "machine" m []))
  have l4:=fun wd=>jI "written" (.ref wd) (ej "state" (.ref st') (ej "happening" hv (ej "machine" m [])))
  have l5:=fun od wd=>jI "outgoing" (.ref od) (ej "written" (.ref wd) (ej "state" (.ref st') (ej "happening" hv (ej "machine" m []))))
  refine ⟨_,rfl,d,CD,dx,_,rfl,gd,T.cl,T.nS,(by omega),?_⟩
  have l6:=fun od wd=>jI "ends" (.bl false) (ej "outgoing" (.ref od) (ej "written" (.ref wd) (ej "state" (.ref st') (ej "happening" hv (ej "machine" m [])))))
  have l7:=fun rd od wd=>jI "reckoned" (.ref rd) (ej "ends" (.bl false) (ej "outgoing" (.ref od) (ej "written" (.ref wd) (ej "state" (.ref st') (ej "happening" hv (ej "machine" m []))))))
  intro wd hwd
  obtain ⟨nwd,hwd⟩:=fv hwd
  refine ⟨_,rfl,d,CD,dx,_,rfl,(by rw [aY nwd.symm]; exact ao),T.cl,T.nW,(by omega),bV _,fun od hod=>?_⟩
  obtain ⟨nod,hod⟩:=fv hod
  obtain ⟨now_,hod⟩:=fv hod
  obtain ⟨_,hod⟩:=fv hod
  have l4':=l4 wd
  have l5':=l5 od wd
  have l6':=l6 od wd
  refine ⟨_,rfl,d,CD,dx,_,rfl,(by rw [aY nod.symm]; exact ao),T.cl,T.nO,(by omega),?_⟩
  refine ⟨_,rfl,d,CD,dx,_,rfl,ao,T.cl,T.nE,(by omega),bV _,fun rd hrd=>?_⟩
  rw [w5] at hrd |-
  obtain ⟨nrd,hrd⟩:=fv hrd
  obtain ⟨nro,hrd⟩:=fv hrd
  obtain ⟨_,hrd⟩:=fv hrd
  obtain ⟨nrw,hrd⟩:=fv hrd
  obtain ⟨_,hrd⟩:=fv hrd
  have l7':=l7 rd od wd
  refine ⟨_,rfl,d,CD,dx,_,rfl,(by rw [aY nrd.symm]; exact ao),T.cl,T.nR,(by omega),?_⟩
  intro ud hud
  obtain ⟨nud,hud⟩:=fv hud
  obtain ⟨nur,hud⟩:=fv hud
  obtain ⟨_,hud⟩:=fv hud
  obtain ⟨nuo,hud⟩:=fv hud
  obtain ⟨_,hud⟩:=fv hud
  obtain ⟨nuw,hud⟩:=fv hud
  obtain ⟨_,hud⟩:=fv hud
  refine ⟨_,rfl,d,CD,dx,_,rfl,(by rw [aY nud.symm]; exact ao),T.cl,T.nQ,(by omega),?_⟩
  rw [El]
  have frH:∀ {a:ae},G a=none->H0 a=none:=fun {a} z=>by
    cases y:H0 a with
    | none=>rfl
    | some o =>
      rw [N.sm _ _ (sd _ _ _ y)] at z
      cases z
  have fr0:∀ a∈st' :: bd :: qd :: qa.map (·.2),H0 a=none/\a≠d:=fun a ha=>by
    have z:=N.fr a ha
    have n:a≠d:=fun y=>by
      rw [y,ao] at z
      cases z
    rw [aY n] at z
    refine ⟨?_,n⟩
    cases y:H0 a with
    | none=>rfl
    | some o =>
      rw [s0 _ _ y] at z
      cases z
  have thG:∀ a∈st' :: bd :: qd :: qa.map (·.2),∃ o,G a=some o:=fun a ha=>by
    simp only [az] at ha
    rcases ha with rfl | rfl | rfl | ha
    · exact ⟨_,N.hst⟩
    · exact ⟨_,N.hb⟩
    · exact ⟨_,N.hq⟩
    · obtain ⟨xs,e⟩:=N.hl.there ha
      exact ⟨_,e⟩
  have i1:∀ {b:ae} {xs:List ae},b∈b :: xs:=aA
  have i2:∀ {a b:ae} {xs:List ae},b∈xs->b∈a :: xs:=fun z=>aa _ z
  refine k _ ⟨d,dx,st',dxs,bd,qd,wd,od,rd,ud,m,hv,qa⟩ rfl rfl ⟨fun b o e=>vg hwd hod hrd hud (N.sm _ _ (sd _ _ _ e)) (aJ e nd0),ao,vg hwd hod hrd hud N.hst (fr0 _ i1).2,vg hwd hod hrd hud N.hb (fr0 _ (i2 i1)).2,vg hwd hod hrd hud N.hq (fr0 _ (i2 (i2 i1))).2,?_,?_,⟨[],?_,.nil⟩,⟨[],?_,.nil⟩,?_,hE,hM,?_,?_,ok,wt,wa,wb⟩
  · exact eu.keep (L:=⟨0,0,0,0,0,0,0,0,0,0,.non,.non,qa⟩) (fun a u e m=>vg hwd hod hrd hud e (fr0 a (i2 (i2 (i2 m)))).2) (fun _ h=>h) N.hl
  · show upd _ d _ wd=some (.dK [])
    rw [aY nwd,aY nuw.symm,aY nwd,aY nrw.symm,aY nwd,aY now_.symm,aY nwd,ao]
  · show upd _ d _ od=some (.lst [])
    rw [aY nod,aY nuo.symm,aY nod,aY nro.symm,aY nod,ao]
  · show upd _ d _ rd=some (.lst [])
    rw [aY nrd,aY nur.symm,aY nrd,ao]
  · show upd _ d _ ud=some (.dK [])
    rw [aY nud,ao]
  · have nd:=N.nd
    have hn:∀ {a:ae} {xs:List ae},a∉xs->xs.Nodup->(a :: xs).Nodup:=fun p q=>cI.mpr ⟨p,q⟩
    obtain ⟨n1,nd⟩:=cI.mp nd
    obtain ⟨n2,nd⟩:=cI.mp nd
    obtain ⟨n3,nd⟩:=cI.mp nd
    simp only [az,not_or] at n1 n2 n3
    have wdn:∀ a∈st' :: bd :: qd :: qa.map (·.2),a≠wd:=fun a ha z=>by
      obtain ⟨o,y⟩:=thG a ha
      rw [z,hwd] at y
      cases y
    have odn:∀ a∈st' :: bd :: qd :: qa.map (·.2),a≠od:=fun a ha z=>by
      obtain ⟨o,y⟩:=thG a ha
      rw [z,hod] at y
      cases y
    have rdn:∀ a∈st' :: bd :: qd :: qa.map (·.2),a≠rd:=fun a ha z=>by
      obtain ⟨o,y⟩:=thG a ha
      rw [z,hrd] at y
      cases y
    have udn:∀ a∈st' :: bd :: qd :: qa.map (·.2),a≠ud:=fun a ha z=>by
      obtain ⟨o,y⟩:=thG a ha
      rw [z,hud] at y
      cases y
    show (d :: st' :: bd :: qd :: wd :: od :: rd :: ud :: qa.map (·.2)).Nodup
    refine hn ?_ (hn ?_ (hn ?_ (hn ?_ (hn ?_ (hn ?_ (hn ?_ (hn ?_ nd)))))))
    · simp only [az,not_or]
      exact ⟨fun z=>(fr0 _ i1).2 z.symm,fun z=>(fr0 _ (i2 i1)).2 z.symm,fun z=>(fr0 _ (i2 (i2 i1))).2 z.symm,nwd.symm,nod.symm,nrd.symm,nud.symm,fun z=>(fr0 d (i2 (i2 (i2 z)))).2 rfl⟩
    · simp only [az,not_or]
      exact ⟨n1.1,n1.2.1,wdn _ i1,odn _ i1,rdn _ i1,udn _ i1,n1.2.2⟩
    · simp only [az,not_or]
      exact ⟨n2.1,wdn _ (i2 i1),odn _ (i2 i1),rdn _ (i2 i1),udn _ (i2 i1),n2.2⟩
    · simp only [az,not_or]
      exact ⟨wdn _ (i2 (i2 i1)),odn _ (i2 (i2 i1)),rdn _ (i2 (i2 i1)),udn _ (i2 (i2 i1)),n3⟩
    · simp only [az,not_or]
      exact ⟨now_.symm,nrw.symm,nuw.symm,fun z=>wdn wd (i2 (i2 (i2 z))) rfl⟩
    · simp only [az,not_or]
      exact ⟨nro.symm,nuo.symm,fun z=>odn od (i2 (i2 (i2 z))) rfl⟩
    · simp only [az,not_or]
      exact ⟨nur.symm,fun z=>rdn rd (i2 (i2 (i2 z))) rfl⟩
    · exact fun z=>udn ud (i2 (i2 (i2 z))) rfl
  · intro a ha
    unfold Lay.all at ha
    simp only [az] at ha
    rcases ha with rfl | rfl | rfl | rfl | rfl | rfl | rfl | rfl | ha
    · exact nd0
    · exact (fr0 _ i1).1
    · exact (fr0 _ (i2 i1)).1
    · exact (fr0 _ (i2 (i2 i1))).1
    · exact frH hwd
    · exact frH hod
    · exact frH hrd
    · exact frH hud
    · exact (fr0 a (i2 (i2 (i2 ha)))).1
def Et (bs qs:List Str):Sp:=fun vs H Q _=>∃ (H0:Hp) (t hl:ae) (x0 x1 x2 x3:V) (hv:List V) (hs:List (Str×Ds)) (sg:Str),vs=[.ref t,.str sg]/\cF H0 H/\H0 t=some (.tup [x0,x1,x2,x3,.ref hl])/\H0 hl=some (.lst hv)/\bJ (yO bs qs H0) hv hs /\
  (∀ u,kO H0 (eA bs qs H0 (iT hs sg)) u->Q u H)/\∀ l,H l=none->iT hs sg=.nil->Q (.ref l) (upd H l (.lst []))
theorem scBy:cD ["machine","sign","heard"] ["machine","sign"] (aB fH):=⟨rfl,rfl,rfl,by decide +kernel,rfl,by decide +kernel,by decide +kernel⟩
theorem jF {α β:Type} {R:α->β->Prop}:∀ {xs:List α} {ys:List β} {i:Nat} {x:α},bJ R xs ys->xs[i]?=some x->∃ y,ys[i]?=some y/\R x y
  | _,_,i,x,.nil,h=>by simp at h
  | _,_,0,x,.cons a b,h=>by
    simp at h
    subst h
    exact ⟨_,rfl,a⟩
  | _,_,i + 1,x,.cons a b,h=>by
    obtain ⟨y,h1,h2⟩:=jF (i:=i) (x:=x) b (by simpa using h)
    exact ⟨y,by simpa using h1,h2⟩
theorem ok_by (D:Df K mg "deeds_by_sign" fH ["machine","sign"] f fd):bZ P w K mg base CX0 1 f fd ["machine","sign"] (Et bs qs):=by
  refine D.F.ok scBy (fun vs H Q E h=>?_) (fun cdv A outer s H vs Q E hr h=>?_)
  · obtain ⟨H0,t,hl,x0,x1,x2,x3,hv,hs,sg,rfl,_⟩:=h
    rfl
  obtain ⟨H0,t,hl,x0,x1,x2,x3,hv,hs,sg,rfl,sm,ht,hh,pr,k1,k2⟩:=h
  have ht:=sm _ _ ht
  have hh:=sm _ _ hh
  refine ⟨_,ah (fq cj rfl (fj (aP bC (pv 0) ag (fun _ _=>rfl))) (cP (i:=2) scBy.nd rfl (Or.inl rfl)) (au (cK (bE di (aP bC (pv 2) ag (fun _ _=>rfl)) (pv 1) (bM _)) (au (bD (aP bC (pv 2) ag (fun _ _=>rfl)))) bH)))
    (au (bD (el ak))),?_⟩
  refine ⟨_,rfl,t,_,_,_,rfl,rfl,SqT.of ht,rfl,hl,rfl,⟨_,SqL.of hh⟩,fY (K:=K) (a:=hl) (xs:=hv) (fun i σ G=>G=H/\(∃ u,σ=[some (.ref t),some (.str sg),u])/\iT hs sg=iT (hs.drop i) sg) ⟨rfl,⟨_,rfl⟩,by rw [List.drop_zero]⟩ ?_ ?_ ?_⟩
  · rintro i σ G _ ⟨rfl,_⟩
    exact SqL.of hh
  · rintro i x σ G hi ⟨rfl,⟨u,rfl⟩,e⟩
    obtain ⟨p,hp,t',u',rfl,ht',hl'⟩:=jF pr hi
    have ht':=sm _ _ ht'
    have lt:i < hs.length:=(aL.mp hp).1
    have hx:hs[i]=p:=(aL.mp hp).2
    rw [tZ lt,hx] at e
    obtain ⟨pn,pd⟩:=p
    refine ⟨_,rfl,t',_,_,_,rfl,rfl,SqT.of ht',rfl,_,rfl,rfl,_,rfl,?_⟩
    by_cases c:pn=sg
    · subst c
      refine fz (pA _) (eC ?_)
      refine ⟨_,rfl,t',_,_,_,rfl,rfl,SqT.of ht',rfl,k1 u' ?_⟩
      rw [e]
      unfold iT
      rw [bQ]
      exact hl'
    · refine fz (kl c) (dY ?_)
      refine ⟨rfl,⟨_,rfl⟩,?_⟩
      rw [e]
      unfold iT
      rw [cL,beq_eq_false_iff_ne.mpr (fun z=>c z.symm)]
  · rintro σ G ⟨rfl,⟨u,rfl⟩,e⟩
    have ln:=bL pr
    rw [ln,A4] at e
    exact ⟨bV _,fun l hl'=>k2 l hl' e⟩
end
end My
namespace My
open PySem L2
structure og (bs qs:List Str) (ds:List Int) (hs:List (Str×Ds)) (H:Hp) (m:V):Prop where
  ex:∃ (t bl ql dl hl:ae) (nm:V) (vb hv:List V),m=.ref t/\H t=some (.tup [nm,.ref bl,.ref ql,.ref dl,.ref hl])/\H bl=some (.lst vb)/\bJ (fun v (x:Str)=>∃ a n,v=.ref a/\H a=some (.tup [.str x,n])) vb bs/\H ql=some (.lst (qs.map V.str))/\H dl=some (.lst (ds.map V.int))/\H hl=some (.lst hv)/\bJ (yO bs qs H) hv hs
theorem og.same {bs qs:List Str} {ds:List Int} {hs:List (Str×Ds)} {H H':Hp} (s:cF H H') {m:V} (h:og bs qs ds hs H m):og bs qs ds hs H' m:=by
  obtain ⟨t,bl,ql,dl,hl,nm,vb,hv,e,h1,h2,h3,h4,h5,h6,h7⟩:=h
  exact ⟨t,bl,ql,dl,hl,nm,vb,hv,e,s _ _ h1,s _ _ h2,Paired.mono (fun v x z=>by
    obtain ⟨a,n,e,y⟩:=z
    exact ⟨a,n,e,s _ _ y⟩) h3,s _ _ h4,s _ _ h5,s _ _ h6,Paired.mono (fun _ _ z=>z.same s) h7⟩
def wrB (bs:List Str) (w:Wk):List (Str×Int):=(bs.filter fun x=>decide (x∈w.wr)).map fun x=>(x,nZ w.bx x)
def wrQ (qs:List Str) (w:Wk):List (Str×List Int):=(qs.filter fun x=>decide (x∈w.wr)).map fun x=>(x,gy w.qu x)
def pX (G:Hp) (v:V) (p:Str×Int):Prop:=∃ t,v=.ref t/\G t=some (.tup [.str p.1,.int p.2])
def rR (G:Hp) (v:V) (p:Str×ae):Prop:=∃ t,v=.ref t/\G t=some (.tup [.str p.1,.ref p.2])
theorem pX.keep {G G':Hp} (k:∀ a xs,G a=some (.tup xs)->G' a=some (.tup xs)) {v:V} {p:Str×Int} (h:pX G v p):pX G' v p:=by
  obtain ⟨t,e,h1⟩:=h
  exact ⟨t,e,k _ _ h1⟩
theorem rR.keep {G G':Hp} (k:∀ a xs,G a=some (.tup xs)->G' a=some (.tup xs)) {v:V} {p:Str×ae} (h:rR G v p):rR G' v p:=by
  obtain ⟨t,e,h1⟩:=h
  exact ⟨t,e,k _ _ h1⟩
structure WrIn (bs qs:List Str) (w:Wk) (H G:Hp) (wl:ae) (ws1 ws2:List V) (qa:List (Str×ae)):Prop where
  hl:G wl=some (.lst (ws1++ws2))
  b:bJ (pX G) ws1 (wrB bs w)
  q:bJ (rR G) ws2 qa
  l:eu G qa (wrQ qs w)
  nd:(wl :: qa.map (·.2)).Nodup
  fr:∀ a∈wl :: qa.map (·.2),H a=none
theorem kR {p:Str->Bool} {xs:List Str} {i:Nat} {x:Str} (h:xs[i]?=some x):(xs.take (i + 1)).filter p=(xs.take i).filter p++if p x=true then [x] else []:=by
  rw [ff,h,List.filter_append]
  show _++[x].filter p=_
  by_cases c:p x=true
  · rw [if_pos c,List.filter_cons_of_pos c]
    rfl
  · rw [if_neg c,List.filter_cons_of_neg c]
    rfl
theorem gz {H G:Hp} {a:ae} (s:cF H G) (n:H a=none) (o:HO):cF H (upd G a o):=fun b u e=>by
  rw [aY (aJ e n)]
  exact s _ _ e
theorem none_of {H G:Hp} (s:cF H G) {a:ae} (n:G a=none):H a=none:=by
  cases z:H a with
  | none=>rfl
  | some o =>
    rw [s _ _ z] at n
    cases n
section
variable {P:aX} {w:cz} {K:aj} {mg:Str->Option af} {base:cR} {f CD CS CM:ae} {fd:cH} {bs qs:List Str}
def spWr (CD CS:ae) (bs qs:List Str):Sp:=fun vs H Q _=>∃ (H0:Hp) (L:Lay) (h:Ev) (ds:List Int) (w:Wk) (hs:List (Str×Ds)),vs=[.ref L.d]/\Dg CD CS bs qs H0 H L h ds w/\og bs qs ds hs H0 L.m /\
  ∀ (G:Hp) (wl:ae) (ws1 ws2:List V) (qa:List (Str×ae)),cF H G->WrIn bs qs w H G wl ws1 ws2 qa->Q (.ref wl) G
theorem BQ:cD ["doing","writes","box","name"] ["doing"] (aB i9):=⟨rfl,rfl,rfl,by decide +kernel,rfl,by decide +kernel,by decide +kernel⟩
theorem yP (D:Df K mg "writes_of" i9 ["doing"] f fd) (T:DT K mg CD) (TM:MdT K mg CM CS) (B:Bl mg):bZ P w K mg base CX0 1 f fd ["doing"] (spWr CD CS bs qs):=by
  refine D.F.ok BQ (fun vs H Q E h=>?_) (fun cdv A outer s H vs Q E hr h=>?_)
  · obtain ⟨H0,L,h,ds,w,hs,rfl,_⟩:=h
    rfl
  obtain ⟨H0,L,h,ds,w,hs,rfl,g,⟨t,bl,ql,dl,hl,nm,vb,hv,em,ht,hbl,pb,hql,hdl,hhl,_⟩,k⟩:=h
  have hu:=jZ hr
  refine ⟨_,ah (bF (i:=1) BQ.nd rfl (Or.inl rfl) (el ak))
    (ah (fq cj rfl (fj (aP bC (cY (pv 0) rfl) ag (fun _ _=>rfl))) (cP (i:=2) BQ.nd rfl (Or.inl rfl)) (au (cK (qp (wg hu (aP bC (pv 2) ag (fun _ _=>rfl)) (cY (pv 0) rfl)))
      (au (dv (ia aW bA bB dR (pv 1) (aw (eO (aw (aP bC (pv 2) ag (fun _ _=>rfl)) (aw (gs hu (cY (cY (pv 0) rfl) rfl) (aP bC (pv 2) ag (fun _ _=>rfl)) (fun _ _=>rfl)) ak))) ak)))) bH)))
    (ah (fq cj rfl (fj (aP bC (cY (pv 0) rfl) ag (fun _ _=>rfl))) (cP (i:=3) BQ.nd rfl (Or.inl rfl)) (au (cK (qp (wg hu (pv 3) (cY (pv 0) rfl)))
      (au (dv (ia aW bA bB dR (pv 1) (aw (eO (aw (pv 3) (aw (hV jl (by rfl) B.list boot_list (aw (gs hu (cY (cY (pv 0) rfl) rfl) (pv 3) (fun _ _=>rfl)) ak)) ak))) ak)))) bH)))
    (au (bD (pv 1))))),?_⟩
  have big:=eM
  have fw:=g.ok.fw
  rw [ay] at fw
  refine ⟨bV _,fun wl hwl=>?_⟩
  have s0:=aM hwl (.lst [])
  have inW:∀ {G:Hp} (g:Dg CD CS bs qs H0 G L h ds w) (x:Str),kd G L.wd (.str x) (if x∈w.wr then some (.bl true) else none):=fun {G} g x=>by
    have z:=kd.k (k:=Sum.inr x) g.hw
    rw [xE] at z
    exact z
  refine ⟨_,rfl,L.d,CD,L.dx,_,_,rfl,s0 _ _ g.hd,T.cl,T.nM,Ek _ _ _ _ _ _ _ _,t,_,_,_,em,rfl,SqT.of (s0 _ _ (g.sm _ _ ht)),rfl,bl,rfl,⟨_,SqL.of (s0 _ _ (g.sm _ _ hbl))⟩,?_⟩
  refine fY (K:=K) (a:=bl) (xs:=vb) (fun i σ G=>∃ (u:Option V) (ws:List V),σ=[some (.ref L.d),some (.ref wl),u,none]/\cF H G/\G wl=some (.lst ws)/\bJ (pX G) ws (((bs.take i).filter fun x=>decide (x∈w.wr)).map fun x=>(x,nZ w.bx x))) ⟨none,[],rfl,s0,ao,by rw [eK]; exact .nil⟩ ?_ ?_ ?_
  · rintro i σ G _ ⟨_,_,rfl,sm,_⟩
    exact SqL.of (sm _ _ (g.sm _ _ hbl))
  · rintro i x σ G hi ⟨u,ws,rfl,sm,gw,pw⟩
    have g1:=g.same sm
    obtain ⟨y,hy,a,n,rfl,ha⟩:=jF pb hi
    have ha:=g1.sm _ _ ha
    have my:y∈bs:=cy hy
    have ft:=kR (p:=fun x=>decide (x∈w.wr)) hy
    refine ⟨_,rfl,a,_,_,_,rfl,rfl,SqT.of ha,rfl,_,rfl,L.d,CD,L.dx,_,_,rfl,g1.hd,T.cl,T.nW,Ag _ _ _ _ _ _ _ _,L.wd,_,rfl,inW g1 y,_,rfl,?_⟩
    by_cases c:y∈w.wr
    · rw [if_pos c]
      rw [if_pos (decide_eq_true c)] at ft
      refine eC ?_
      refine ⟨_,rfl,.inl ⟨rfl,_,SqL.of gw⟩,_,rfl,a,_,_,_,rfl,rfl,SqT.of ha,rfl,_,rfl,L.d,CD,L.dx,_,_,rfl,g1.hd,T.cl,T.nS,rQ _ _ _ _ _ _ _ _,L.st,CS,L.dxs,_,_,rfl,g1.hst,TM.clS,TM.nB,yK _ _ _ _,_,rfl,a,_,_,_,rfl,rfl,SqT.of ha,rfl,L.bd,_,rfl,(by have z:=kd.k (k:=Sum.inr y) g1.hb; rw [tV (by rw [g1.ok.kb]; exact my)] at z; exact z),lt2,fun tt htt=>?_⟩
      have st_:=aM htt (.tup [.str y,.int (nZ w.bx y)])
      have lw:=bL pw
      have lf:(((bs.take i).filter fun x=>decide (x∈w.wr)).map fun x=>(x,nZ w.bx x)).length<=bs.length:=by
        rw [ai]
        refine cU (ei _ _) ?_
        rw [cT]
        omega
      refine ⟨wl,ws,_,rfl,rfl,st_ _ _ gw,(by omega),_,_,rfl,gz (sm.trans st_) hwl _,ao,?_⟩
      rw [ft,aV]
      have kp:∀ b xs,upd G tt (.tup [.str y,.int (nZ w.bx y)]) b=some (.tup xs)->upd (upd G tt (.tup [.str y,.int (nZ w.bx y)])) wl (.lst (ws++[.ref tt])) b=some (.tup xs):=fun b xs z=>aR z (gJ z (st_ _ _ gw) (by intro q; cases q))
      exact dB (Paired.mono (fun _ _ z=>(z.keep fun b xs e=>st_ _ _ e).keep kp) pw) ⟨tt,rfl,kp _ _ ao⟩
    · rw [if_neg c]
      rw [if_neg (by rw [decide_eq_false c]; decide),dj] at ft
      refine dY ⟨_,ws,rfl,sm,gw,?_⟩
      rw [ft]
      exact pw
  rintro σ G ⟨u,ws1,rfl,sm,gw,pw⟩
  have g1:=g.same sm
  have ev1:vb.length=bs.length:=bL pb
  rw [ev1,cM] at pw
  refine ⟨_,rfl,L.d,CD,L.dx,_,_,rfl,g1.hd,T.cl,T.nM,Ek _ _ _ _ _ _ _ _,t,_,_,_,em,rfl,SqT.of (g1.sm _ _ ht),rfl,ql,rfl,⟨_,SqL.of (g1.sm _ _ hql)⟩,?_⟩
  refine fY (K:=K) (a:=ql) (xs:=qs.map V.str) (fun i σ G=>∃ (u v:Option V) (ws2:List V) (qa:List (Str×ae)),σ=[some (.ref L.d),some (.ref wl),u,v]/\cF H G/\G wl=some (.lst (ws1++ws2))/\bJ (pX G) ws1 (wrB bs w)/\bJ (rR G) ws2 qa /\
    eu G qa (((qs.take i).filter fun x=>decide (x∈w.wr)).map fun x=>(x,gy w.qu x))/\(wl :: qa.map (·.2)).Nodup/\∀ a∈wl :: qa.map (·.2),H a=none) ⟨_,_,[],[],rfl,sm,by rw [dj]; exact gw,pw,.nil,by rw [eK]; exact .nil,by simp,fun a ha=>by rw [aQ.mp ha]; exact hwl⟩ ?_ ?_ ?_
  · rintro i σ G _ ⟨_,_,_,_,rfl,sm,_⟩
    exact SqL.of (sm _ _ (g.sm _ _ hql))
  · rintro i x σ G hi ⟨u,v,ws2,qa,rfl,sm,gw,pw,pq,pl,nd,fr⟩
    have g1:=g.same sm
    obtain ⟨y,hy,rfl⟩:∃ y,qs[i]?=some y/\x=.str y:=by
      rw [dk] at hi
      cases z:qs[i]? with
      | none =>
        rw [z] at hi
        cases hi
      | some y =>
        rw [z] at hi
        cases hi
        exact ⟨y,rfl,rfl⟩
    have my:y∈qs:=cy hy
    have ft:=kR (p:=fun x=>decide (x∈w.wr)) hy
    refine ⟨_,rfl,_,rfl,L.d,CD,L.dx,_,_,rfl,g1.hd,T.cl,T.nW,Ag _ _ _ _ _ _ _ _,L.wd,_,rfl,inW g1 y,_,rfl,?_⟩
    by_cases c:y∈w.wr
    · rw [if_pos c]
      rw [if_pos (decide_eq_true c)] at ft
      refine eC ?_
      obtain ⟨l,h1,h2,h3⟩:=g1.getL my
      refine ⟨_,rfl,.inl ⟨rfl,_,SqL.of gw⟩,_,rfl,_,rfl,L.d,CD,L.dx,_,_,rfl,g1.hd,T.cl,T.nS,rQ _ _ _ _ _ _ _ _,L.st,CS,L.dxs,_,_,rfl,g1.hst,TM.clS,TM.nQ,wM _ _ _ _,_,rfl,L.qd,_,rfl,h3,l,_,rfl,.inl (SqL.of h2),fun nl hnl=>?_⟩
      have sn:=aM hnl (.lst ((gy w.qu y).map V.int))
      refine ⟨lt2,fun tt htt=>?_⟩
      have st_:=aM htt (.tup [.str y,.ref nl])
      have lw:=bL pq
      have lb:=bL pw
      have lq:=bL pl
      have lf:(((qs.take i).filter fun x=>decide (x∈w.wr)).map fun x=>(x,gy w.qu x)).length<=qs.length:=by
        rw [ai]
        refine cU (ei _ _) ?_
        rw [cT]
        omega
      have lf2:(wrB bs w).length<=bs.length:=by
        unfold wrB
        rw [ai]
        exact ei _ _
      have gw':=st_ _ _ (sn _ _ gw)
      have nlw:nl≠wl:=(aJ gw hnl).symm
      have kp:∀ b xs,upd (upd G nl (.lst ((gy w.qu y).map V.int))) tt (.tup [.str y,.ref nl]) b=some (.tup xs)->upd (upd (upd G nl (.lst ((gy w.qu y).map V.int))) tt (.tup [.str y,.ref nl])) wl (.lst (ws1++ws2++[.ref tt])) b=some (.tup xs):=fun b xs z=>aR z (gJ z gw' (by intro q; cases q))
      refine ⟨wl,_,_,rfl,rfl,gw',(by rw [ay]; omega),_,_,ws2++[.ref tt],qa++[(y,nl)],rfl,gz ((sm.trans sn).trans st_) hwl _,(by rw [<- pP]; exact ao),?_,?_,?_,?_,?_⟩
      · exact Paired.mono (fun _ _ z=>(z.keep fun b xs e=>st_ _ _ (sn _ _ e)).keep kp) pw
      · exact dB (Paired.mono (fun _ _ z=>(z.keep fun b xs e=>st_ _ _ (sn _ _ e)).keep kp) pq) ⟨tt,rfl,kp _ _ ao⟩
      · rw [ft,aV]
        refine dB (eu.keep (L:=⟨0,0,0,0,0,0,0,0,0,0,.non,.non,qa⟩) (fun a u e m=>aR (st_ _ _ (sn _ _ e)) fun z=>?_) (fun _ h=>h) pl) ⟨rfl,aR (st_ _ _ ao) nlw⟩
        rw [z] at m
        exact (cI.mp nd).1 m
      · rw [aV,<- qi]
        refine ez.mpr ⟨nd,by simp,fun a ha b hb=>?_⟩
        rw [aQ.mp hb]
        intro z
        rcases az.mp ha with q | q
        · exact nlw ((show a=nl from z).symm.trans q)
        · obtain ⟨xs,q⟩:=pl.there q
          rw [show a=nl from z,hnl] at q
          cases q
      · intro a ha
        rw [aV,<- qi] at ha
        rcases cE.mp ha with z | z
        · exact fr a z
        · rw [aQ.mp z]
          exact none_of sm hnl
    · rw [if_neg c]
      rw [if_neg (by rw [decide_eq_false c]; decide),dj] at ft
      refine dY ⟨_,_,ws2,qa,rfl,sm,gw,pw,pq,?_,nd,fr⟩
      rw [ft]
      exact pl
  rintro σ G ⟨u,v,ws2,qa,rfl,sm,gw,pw,pq,pl,nd,fr⟩
  rw [ai,cM] at pl
  exact ⟨_,rfl,k G wl ws1 ws2 qa sm ⟨gw,pw,pq,pl,nd,fr⟩⟩
end
end My
namespace My
open PySem L2
structure yQ (CD CS:ae) (bs qs:List Str) (H G:Hp) (L:Lay) (h:Ev) (ds:List Int) (w:Wk) (t rc wl:ae) (ws1 ws2:List V) (qa:List (Str×ae)):Prop where
  dg:∃ H0,cF H H0/\Dg CD CS bs qs H0 G L h ds w
  ht:G t=some (.tup [.ref L.st,.ref rc,.bl w.en])
  hrc:∃ k,G rc=some (.tup [.ref k,.int h.to,.str h.sg,.int h.a,.int h.b,.ref wl,.ref L.od])/\H k=some (.tup [.int h.t,.int h.r,.int h.fr,.int h.c])
  wr:WrIn bs qs w H G wl ws1 ws2 qa
  nd:(L.all++wl :: qa.map (·.2)).Nodup
theorem yQ.sm {CD CS:ae} {bs qs:List Str} {H G:Hp} {L:Lay} {h:Ev} {ds:List Int} {w:Wk} {t rc wl:ae} {ws1 ws2:List V} {qa:List (Str×ae)} (n:yQ CD CS bs qs H G L h ds w t rc wl ws1 ws2 qa):cF H G:=by
  obtain ⟨H0,s,g⟩:=n.dg
  exact s.trans g.sm
def w0 (bx:List (Str×Int)) (qu:List (Str×List Int)) (dr:Nat) (se:Int):Wk:=⟨bx,qu,dr,se,[],[],false,[],[]⟩
section
variable {P:aX} {w:cz} {K:aj} {mg:Str->Option af} {base:cR} {f fI fS fB fW fO CD CS CM:ae} {fd fdI fdS fdB fdW fdO:cH} {bs qs:List Str} {cf:Flt->ae}
def Av (cf:Flt->ae) (CM CD CS:ae) (bs qs:List Str) (n:Nat):Sp:=fun vs H Q E=>∃ (m dxm ml st:ae) (fs:List (Str×V)) (ms:List V) (hv mv:V) (h:Ev) (ds:List Int) (hs:List (Str×Ds)) (bx:List (Str×Int)) (qu:List (Str×List Int)) (dr:Nat) (se:Int),vs=[.ref m,.ref st,hv]/\H m=some (.ins CM dxm fs)/\fs.lookup ("machines":Str)=some (.ref ml)/\H ml=some (.lst ms) /\
  kD H hv h/\atI ms h.to=some mv/\og bs qs ds hs H mv/\qV CS H st bx qu dr se/\nJ bs qs (w0 bx qu dr se)/\Wo h.t/\Wo h.a/\Wo h.b/\(iT hs h.sg).deep < n/\(iT hs h.sg).size < 100000 /\
  match doS h ds (iT hs h.sg) (w0 bx qu dr se) with
  | .ok w'=>∀ (G:Hp) (L:Lay) (t rc wl:ae) (ws1 ws2:List V) (qa:List (Str×ae)),yQ CD CS bs qs H G L h ds w' t rc wl ws1 ws2 qa->Q (.ref t) G
  | .error e=>∀ G,cF H G->E (.ref (cf e)) none G
theorem by_go {CD CS:ae} {bs qs:List Str} {H G:Hp} {L:Lay} {h:Ev} {ds:List Int} {w:Wk} {tm hl:ae} {x0 x1 x2 x3:V} {hvs:List V} {hs:List (Str×Ds)} {sg:Str} {Q1:VK} {E:XK} (g:Dg CD CS bs qs H G L h ds w) (htm:H tm=some (.tup [x0,x1,x2,x3,.ref hl])) (hhl:H hl=some (.lst hvs)) (ph:bJ (yO bs qs H) hvs hs)
    (k:∀ (H0 G1:Hp) (u:V),cF H H0->cF G G1->Dg CD CS bs qs H0 G1 L h ds w->kO H0 (eA bs qs H0 (iT hs sg)) u->Q1 u G1):Et bs qs [.ref tm,.str sg] G Q1 E:=by
  refine ⟨H,tm,hl,_,_,_,_,hvs,hs,sg,rfl,g.sm,htm,hhl,ph,fun u hu=>k H G u (cF.refl _) (cF.refl _) g hu,fun l hl' e=>?_⟩
  have sl:=aM hl' (.lst [])
  have nl:=none_of g.sm hl'
  have s0:=aM nl (.lst [])
  have s1:cF (upd H l (.lst [])) (upd G l (.lst [])):=fun b o z=>by
    by_cases c:b=l
    · rw [c] at z |-
      rw [ao] at z |-
      exact z
    · rw [aY c] at z |-
      exact g.sm _ _ z
  refine k _ _ _ s0 sl (g.base sl s0 s1 fun a ha=>?_) ⟨l,[],rfl,ao,by show 0 < 1000; decide,?_⟩
  · obtain ⟨o,z⟩:=g.there a ha
    rw [aY (aJ z hl')]
    exact g.fr a ha
  · rw [e]
    simp only [eA]
def CZ (cf:Flt->ae) (CM CD CS:ae) (bs qs:List Str) (n:Nat):Sp:=fun vs H Q E=>∃ (m dxm ml st:ae) (fs:List (Str×V)) (ms:List V) (hv mv:V) (h:Ev) (ds:List Int) (hs:List (Str×Ds)) (bx:List (Str×Int)) (qu:List (Str×List Int)) (dr:Nat) (se:Int),vs=[.ref m,.ref st,hv]/\H m=some (.ins CM dxm fs)/\fs.lookup ("machines":Str)=some (.ref ml)/\H ml=some (.lst ms) /\
  kD H hv h/\atI ms h.to=some mv/\og bs qs ds hs H mv/\qV CS H st bx qu dr se/\nJ bs qs (w0 bx qu dr se)/\Wo h.t/\Wo h.a/\Wo h.b/\(iT hs h.sg).deep < n/\(iT hs h.sg).size < 100000 /\
  match doS h ds (iT hs h.sg) (w0 bx qu dr se) with
  | .ok w'=>∀ (H0 G:Hp) (L:Lay),cF H H0->Dg CD CS bs qs H0 G L h ds w'->L.m=mv->Q (.ref L.d) G
  | .error e=>∀ G,cF H G->E (.ref (cf e)) none G
theorem Eu:cD ["model","state","happening","machine","doing"] ["model","state","happening"] (aB jv):=⟨rfl,rfl,rfl,by decide +kernel,rfl,by decide +kernel,by decide +kernel⟩
theorem Ew {n:Nat} (D:Df K mg "doing_of" jv ["model","state","happening"] f fd) (MD:Mk K CD fI) (bI:Binds K fdI ["self","machine","state","happening"] []) (GI:bZ P w K mg base CX0 4 fI fdI ["self","machine","state","happening"] (Es CD CS bs qs))
    (DS:Df K mg "do_deeds" gB ["doing","deeds"] fS fdS) (GS:bZ P w K mg base (CXo P w) (20 + 3 * n) fS fdS ["doing","deeds"] (qU cf CD CS bs qs n)) (DB:Df K mg "deeds_by_sign" fH ["machine","sign"] fB fdB) (T:DT K mg CD) (TM:MdT K mg CM CS) :
    bZ P w K mg base (CXo P w) (20 + 3 * n + 1) f fd ["model","state","happening"] (CZ cf CM CD CS bs qs n):=by
  have GB:bZ P w K mg base CX0 1 fB fdB ["machine","sign"] (Et bs qs):=ok_by DB
  refine D.F.okX Eu (fun vs H Q E h=>?_) (fun cdv A outer s H vs Q E hr h=>?_)
  · obtain ⟨m,dxm,ml,st,fs,ms,hv,mv,h,ds,hs,bx,qu,dr,se,rfl,_⟩:=h
    rfl
  obtain ⟨m,dxm,ml,st,fs,ms,hv,mv,h,ds,hs,bx,qu,dr,se,rfl,hm,hfs,hml,hE,hmv,hM,hS,ok,wt,wa,wb,dn,sz,p⟩:=h
  have r1:eN 1 _:=hr.mono (by omega)
  have r5:eN 5 _:=hr.mono (by omega)
  refine ⟨_,ah (bF (i:=3) Eu.nd rfl (Or.inl rfl) (aP bT (cY (pv 0) rfl) (aP bC (pv 2) ag (fun _ _=>rfl)) (fun _ _=>rfl)))
    (ah (bF (i:=4) Eu.nd rfl (Or.inl rfl) (pZ MD GI r5 (by rfl) T.mD bI .nil bR (aw (pv 3) (aw (pv 1) (aw (pv 2) ak)))))
    (ah (dv (aN GS hr (by rfl) DS.m DS.F.kp DS.b .nil (eg.passes fun _ _ _ z=>z) (aw (pv 4) (aw (aN GB r1 (by rfl) DB.m DB.F.kp DB.b .nil bR (aw (pv 3) (aw (aP bC (pv 2) ag (fun _ _=>rfl)) ak))) ak))))
    (au (bD (pv 4))))),?_⟩
  obtain ⟨th,kh,rfl,hth,hkh⟩:=id hE
  obtain ⟨tm,bl,ql,dl,hl,nm,vb,hvs,rfl,htm,hbl,pb,hql,hdl,hhl,ph⟩:=hM.ex
  refine ⟨_,rfl,m,CM,dxm,_,_,rfl,hm,TM.clM,TM.nM,hfs,_,rfl,th,_,_,_,rfl,rfl,SqT.of hth,rfl,ml,_,_,_,rfl,rfl,SqL.of hml,hmv,?_⟩
  refine ⟨_,rfl,_,rfl,_,rfl,?_⟩
  intro d dx nd_ ndx nne
  have sA:cF H (upd (upd H dx (.own d)) d (.ins CD dx [])):=fun b o e=>by
    rw [aY (aJ e nd_),aY (aJ e ndx)]
    exact e
  refine ⟨H,d,dx,st,.ref tm,.ref th,h,ds,bx,qu,dr,se,rfl,ao,nd_,sA,hS,hE,⟨tm,_,_,_,_,dl,rfl,htm,hdl⟩,ok,wt,wa,wb,fun G L eL em g=>⟨rfl,?_⟩⟩
  have gth:=g.sm _ _ hth
  refine ⟨_,rfl,_,rfl,_,rfl,th,_,_,_,rfl,rfl,SqT.of gth,rfl,?_⟩
  subst eL
  refine by_go (E:=E0) g htm hhl ph fun H0 G1 u s0 s1 g1 hu=>?_
  refine ⟨H0,L,h,ds,w0 bx qu dr se,u,iT hs h.sg,rfl,g1,hu,dn,(by show 0 + _ < _; omega),?_⟩
  have mid:∀ {dg:Wk->Hp->Prop} {r:Except Flt Wk} {Q1:VK} {k:Nat},r=doS h ds (iT hs h.sg) (w0 bx qu dr se)->(∀ w' G2,r=.ok w'->dg w' G2->Q1 .non G2)->pB cf dg H0 k r Q1 E:=fun {dg r Q1 k} e q=>by
    cases r with
    | ok w'=>exact fun G2 g2 _=>q w' G2 rfl g2
    | error er =>
      rw [<- e] at p
      exact fun G2 s2=>p G2 (s0.trans s2)
  refine mid rfl fun w' G2 ew g2=>?_
  rw [ew] at p
  exact ⟨_,rfl,p H0 G2 L s0 g2 em⟩
theorem Ex:cD ["model","state","happening","doing","record"] ["model","state","happening"] (aB px):=⟨rfl,rfl,rfl,by decide +kernel,rfl,by decide +kernel,by decide +kernel⟩
theorem BR {n:Nat} (D:Df K mg "done" px ["model","state","happening"] f fd) (DO:Df K mg "doing_of" jv ["model","state","happening"] fO fdO) (MD:Mk K CD fI) (bI:Binds K fdI ["self","machine","state","happening"] []) (GI:bZ P w K mg base CX0 4 fI fdI ["self","machine","state","happening"] (Es CD CS bs qs))
    (DS:Df K mg "do_deeds" gB ["doing","deeds"] fS fdS) (GS:bZ P w K mg base (CXo P w) (20 + 3 * n) fS fdS ["doing","deeds"] (qU cf CD CS bs qs n)) (DB:Df K mg "deeds_by_sign" fH ["machine","sign"] fB fdB) (DW:Df K mg "writes_of" i9 ["doing"] fW fdW) (T:DT K mg CD) (TM:MdT K mg CM CS) (B:Bl mg) :
    bZ P w K mg base (CXo P w) (20 + 3 * n + 2) f fd ["model","state","happening"] (Av cf CM CD CS bs qs n):=by
  have GO:bZ P w K mg base (CXo P w) (20 + 3 * n + 1) fO fdO ["model","state","happening"] (CZ cf CM CD CS bs qs n):=Ew DO MD bI GI DS GS DB T TM
  have GW:bZ P w K mg base CX0 1 fW fdW ["doing"] (spWr CD CS bs qs):=yP DW T TM B
  refine D.F.okX Ex (fun vs H Q E h=>?_) (fun cdv A outer s H vs Q E hr h=>?_)
  · obtain ⟨m,dxm,ml,st,fs,ms,hv,mv,h,ds,hs,bx,qu,dr,se,rfl,_⟩:=h
    rfl
  obtain ⟨m,dxm,ml,st,fs,ms,hv,mv,h,ds,hs,bx,qu,dr,se,rfl,hm,hfs,hml,hE,hmv,hM,hS,ok,wt,wa,wb,dn,sz,p⟩:=h
  have r1:eN 1 _:=hr.mono (by omega)
  refine ⟨_,ah (bF (i:=3) Ex.nd rfl (Or.inl rfl) (aN GO hr (by rfl) DO.m DO.F.kp DO.b .nil (eg.passes fun _ _ _ z=>z) (aw (pv 0) (aw (pv 1) (aw (pv 2) ak)))))
    (ah (bF (i:=4) Ex.nd rfl (Or.inl rfl) (cJ Bi (pv 2) (eO (aw (aN GW r1 (by rfl) DW.m DW.F.kp DW.b .nil bR (aw (pv 3) ak)) (aw (cY (pv 3) rfl) ak)))))
    (au (bD (eO (aw (cY (pv 3) rfl) (aw (pv 4) (aw (cY (pv 3) rfl) ak))))))),?_⟩
  obtain ⟨th,kh,rfl,hth,hkh⟩:=id hE
  refine ⟨_,rfl,_,rfl,_,rfl,m,dxm,ml,st,fs,ms,_,mv,h,ds,hs,bx,qu,dr,se,rfl,hm,hfs,hml,hE,hmv,hM,hS,ok,wt,wa,wb,dn,sz,?_⟩
  cases ew:doS h ds (iT hs h.sg) (w0 bx qu dr se) with
  | error e =>
    rw [ew] at p
    exact p
  | ok w' =>
  rw [ew] at p
  intro H0 G2 L s0 g2 em
  have hth2:=g2.sm _ _ (s0 _ _ hth)
  have gM:og bs qs ds hs H0 L.m:=by
    rw [em]
    exact hM.same s0
  refine ⟨_,rfl,_,rfl,H0,L,h,ds,w',hs,rfl,g2,gM,fun G3 wl ws1 ws2 qa s3 wr=>?_⟩
  have g3:=g2.same s3
  refine ⟨_,rfl,L.d,CD,L.dx,_,_,rfl,g3.hd,T.cl,T.nO,dF_o _ _ _ _ _ _ _ _,lt2,fun tt htt=>?_⟩
  have s4:=aM htt (.tup [.ref wl,.ref L.od])
  refine ⟨th,tt,_,_,rfl,rfl,SqT.of (s4 _ _ (s3 _ _ hth2)),SqT.of ao,(by intro z; cases z),(by show 7<=aE; decide),(fun z=>by cases z),fun _ rc hrc=>?_⟩
  have s5:=aM hrc (.tup [.ref kh,.int h.to,.str h.sg,.int h.a,.int h.b,.ref wl,.ref L.od])
  have g5:=(g3.same s4).same s5
  refine ⟨_,rfl,L.d,CD,L.dx,_,_,rfl,g5.hd,T.cl,T.nS,rQ _ _ _ _ _ _ _ _,_,rfl,_,rfl,L.d,CD,L.dx,_,_,rfl,g5.hd,T.cl,T.nE,dF_e _ _ _ _ _ _ _ _,(by show 3<=aE; decide),fun t ht=>?_⟩
  have s6:=aM ht (.tup [.ref L.st,.ref rc,.bl w'.en])
  have s46:=(s4.trans s5).trans s6
  refine p _ L t rc wl ws1 ws2 qa ⟨⟨H0,s0,g5.same s6⟩,ao,⟨kh,s6 _ _ ao,hkh⟩,⟨s46 _ _ wr.hl,Paired.mono (fun _ _ z=>z.keep fun b xs e=>s46 _ _ e) wr.b,Paired.mono (fun _ _ z=>z.keep fun b xs e=>s46 _ _ e) wr.q,wr.l.same s46,wr.nd,fun a ha=>none_of (s0.trans g2.sm) (wr.fr a ha)⟩,?_⟩
  refine ez.mpr ⟨g2.nd,wr.nd,fun a ha b hb z=>?_⟩
  obtain ⟨o,y⟩:=g2.there a ha
  rw [z,wr.fr b hb] at y
  cases y
end
end My
namespace My
open PySem L2
theorem aO {t u:TS} {D:lB} {σ:St} {H:Hp} (h:t {D with nx:=u D} σ H):tSeq t u D σ H:=h
theorem cN {te:TE} {g:TG} {D:lB} {σ:St} {H:Hp} (h:te σ H fun x H1=>g x σ H1 D.nx):A8 te g D σ H:=h
theorem aZ {i:Nat} {v:V} {σ:St} {H:Hp} {Q:St->Hp->Prop} (h:Q (σ.set i (some v)) H):w6 i v σ H Q:=h
theorem tup_i {t:TA} {σ:St} {H:Hp} {Q:VK} (h:t σ H fun xs H1=>xs.length<=aE/\∀ p,H1 p=none->Q (.ref p) (upd H1 p (.tup xs))):tTup t σ H Q:=h
theorem lst_i {t:TA} {σ:St} {H:Hp} {Q:VK} (h:t σ H fun xs H1=>xs.length<=aE/\∀ p,H1 p=none->Q (.ref p) (upd H1 p (.lst xs))):Dx t σ H Q:=h
end My
namespace My
open PySem L2
section
variable {X:Cx} {e:cZ} {ta:TE} {f:Str} {pos:Pos}
theorem Aw (K:aj) (hK:X.K=K):kJ X (.type "list") (fun xs H Q=>∃ p ys,xs=[.ref p]/\(SqL K H p ys\/SqT K H p ys)/\∀ l,H l=none->Q (.ref l) (upd H l (.lst ys))):=by
  rw [<- hK]
  exact jl
end
end My
namespace My
open PySem L2
theorem xQ {H:Hp} {n:Nat} {t:ae} {xs:List V} (ht:H t=some (.tup xs)\/H t=some (.lst xs)) (T:Tree H n (.ref t)):∃ m,n=m + 1/\∀ x∈xs,Tree H m x:=by
  cases n with
  | zero=>exact T.elim
  | succ m =>
    refine ⟨m,rfl,?_⟩
    rcases T with T | ⟨p,ys,e,h1,_,h2⟩
    · exact T.elim
    · cases e
      have exy:xs=ys:=by
        rcases ht with ht | ht <;> rcases h1 with h1 | h1 <;> rw [ht] at h1 <;> cases h1 <;> rfl
      rw [exy]
      exact h2
theorem iJ {H H':Hp} {n:Nat} {t:ae} {xs:List V} {v':V} (ht:H t=some (.tup xs)) (T:Tree H n (.ref t)) (al:Alike H H' n (.ref t) v'):∃ m t' ys,v'=.ref t'/\H' t'=some (.tup ys)/\bJ (Alike H H' m) xs ys/\∀ x∈xs,Tree H m x:=by
  obtain ⟨m,rfl,h⟩:=xQ (.inl ht) T
  obtain ⟨t',ys,e,h1,h2⟩:=pz ht al
  exact ⟨m,t',ys,e,h1,h2,h⟩
theorem qW {H H':Hp} {n:Nat} {t:ae} {xs:List V} {v':V} (ht:H t=some (.lst xs)) (T:Tree H n (.ref t)) (al:Alike H H' n (.ref t) v'):∃ m t' ys,v'=.ref t'/\H' t'=some (.lst ys)/\bJ (Alike H H' m) xs ys/\∀ x∈xs,Tree H m x:=by
  obtain ⟨m,rfl,h⟩:=xQ (.inr ht) T
  obtain ⟨t',ys,e,h1,h2⟩:=ng ht al
  exact ⟨m,t',ys,e,h1,h2,h⟩
theorem dJ {R:V->V->Prop} {x:V} {xs ys:List V} (r:bJ R (x :: xs) ys):∃ y yr,ys=y :: yr/\R x y/\bJ R xs yr:=by
  cases r with
  | cons a b=>exact ⟨_,_,rfl,a,b⟩
theorem lH {R:V->V->Prop} {ys:List V} (r:bJ R [] ys):ys=[]:=by
  cases r
  rfl
theorem iu.alike {bs qs:List Str} {H H':Hp} {v:V} {F:Fm} (h:iu bs qs H v F):∀ {n:Nat} {v':V},Tree H n v->Alike H H' n v v'->iu bs qs H' v' F:=by
  induction h with
  | num h1 h2 =>
    intro n v' T al
    obtain ⟨m,t',ys,rfl,g1,g2,_⟩:=iJ h1 T al
    rw [iF g2 (by intro x hx; simp only [az,bY,or_false] at hx; rcases hx with rfl | rfl <;> exact trivial)] at g1
    exact .num g1 h2
  | box h1 h2 =>
    intro n v' T al
    obtain ⟨m,t',ys,rfl,g1,g2,_⟩:=iJ h1 T al
    rw [iF g2 (by intro x hx; simp only [az,bY,or_false] at hx; rcases hx with rfl | rfl <;> exact trivial)] at g1
    exact .box g1 h2
  | long h1 h2 =>
    intro n v' T al
    obtain ⟨m,t',ys,rfl,g1,g2,_⟩:=iJ h1 T al
    rw [iF g2 (by intro x hx; simp only [az,bY,or_false] at hx; rcases hx with rfl | rfl <;> exact trivial)] at g1
    exact .long g1 h2
  | got h1 =>
    intro n v' T al
    obtain ⟨m,t',ys,rfl,g1,g2,_⟩:=iJ h1 T al
    rw [iF g2 (by intro x hx; simp only [az,bY,or_false] at hx; rcases hx with rfl | rfl <;> exact trivial)] at g1
    exact .got g1
  | now h1 =>
    intro n v' T al
    obtain ⟨m,t',ys,rfl,g1,g2,_⟩:=iJ h1 T al
    rw [iF g2 (by intro x hx; rw [aQ.mp hx]; exact trivial)] at g1
    exact .now g1
  | two h1 h2 _ _ i1 i2 =>
    intro n v' T al
    obtain ⟨m,t',ys,rfl,g1,g2,tr⟩:=iJ h1 T al
    obtain ⟨y0,yr,rfl,a0,g2⟩:=dJ g2
    obtain ⟨y1,yr,rfl,a1,g2⟩:=dJ g2
    obtain ⟨y2,yr,rfl,a2,g2⟩:=dJ g2
    obtain rfl:=lH g2
    have e0:=e7 (v:=.str _) trivial a0
    rw [e0] at g1
    exact .two g1 h2 (i1 (tr _ (by simp)) a1) (i2 (tr _ (by simp)) a2)
theorem FmI.alike {bs qs:List Str} {H H':Hp} {v v':V} {F:Fm} {n:Nat} (h:FmI bs qs H v F) (T:Tree H n v) (al:Alike H H' n v v'):FmI bs qs H' v' F:=⟨h.1.alike T al,h.2⟩
theorem kO.alike {H H':Hp} {R R':List V->Prop} {v v':V} {n:Nat} (h:kO H R v) (T:Tree H n v) (al:Alike H H' n v v') (k:∀ m vs ys,R vs->bJ (Alike H H' m) vs ys->(∀ x∈vs,Tree H m x)->R' ys):kO H' R' v':=by
  obtain ⟨l,vs,rfl,h1,h2,h3⟩:=h
  obtain ⟨m,t',ys,rfl,g1,g2,tr⟩:=qW h1 T al
  exact ⟨t',ys,rfl,g1,by rw [<- bL g2]; exact h2,k m vs ys h3 g2 tr⟩
mutual
theorem dZ.alike {bs qs:List Str} {H H':Hp}:∀ (d:Dd) (v v':V) (n:Nat),dZ bs qs H d v->Tree H n v->Alike H H' n v v'->dZ bs qs H' d v'
  | .put x f,v,v',n,h,T,al=>by
    obtain ⟨t,u,rfl,h1,h2,h3⟩:=(by simpa only [dZ] using h)
    obtain ⟨m,t',ys,rfl,g1,g2,tr⟩:=iJ h1 T al
    obtain ⟨y0,yr,rfl,a0,g2⟩:=dJ g2
    obtain ⟨y1,yr,rfl,a1,g2⟩:=dJ g2
    obtain ⟨y2,yr,rfl,a2,g2⟩:=dJ g2
    obtain rfl:=lH g2
    rw [e7 (v:=.str _) trivial a0,e7 (v:=.str _) trivial a1] at g1
    simp only [dZ]
    exact ⟨t',y2,rfl,g1,h2,h3.alike (tr _ (by simp)) a2⟩
  | .push x f,v,v',n,h,T,al=>by
    obtain ⟨t,u,rfl,h1,h2,h3⟩:=(by simpa only [dZ] using h)
    obtain ⟨m,t',ys,rfl,g1,g2,tr⟩:=iJ h1 T al
    obtain ⟨y0,yr,rfl,a0,g2⟩:=dJ g2
    obtain ⟨y1,yr,rfl,a1,g2⟩:=dJ g2
    obtain ⟨y2,yr,rfl,a2,g2⟩:=dJ g2
    obtain rfl:=lH g2
    rw [e7 (v:=.str _) trivial a0,e7 (v:=.str _) trivial a1] at g1
    simp only [dZ]
    exact ⟨t',y2,rfl,g1,h2,h3.alike (tr _ (by simp)) a2⟩
  | .pull q x o,v,v',n,h,T,al=>by
    obtain ⟨t,u,rfl,h1,h2,h3,h4⟩:=(by simpa only [dZ] using h)
    obtain ⟨m,t',ys,rfl,g1,g2,tr⟩:=iJ h1 T al
    obtain ⟨y0,yr,rfl,a0,g2⟩:=dJ g2
    obtain ⟨y1,yr,rfl,a1,g2⟩:=dJ g2
    obtain ⟨y2,yr,rfl,a2,g2⟩:=dJ g2
    obtain ⟨y3,yr,rfl,a3,g2⟩:=dJ g2
    obtain rfl:=lH g2
    rw [e7 (v:=.str _) trivial a0,e7 (v:=.str _) trivial a1,e7 (v:=.str _) trivial a2] at g1
    simp only [dZ]
    exact ⟨t',y3,rfl,g1,h2,h3,h4.alike (tr _ (by simp)) a3 fun m vs ys a b c=>eA.alike o vs ys m a b c⟩
  | .draw x f,v,v',n,h,T,al=>by
    obtain ⟨t,u,rfl,h1,h2,h3⟩:=(by simpa only [dZ] using h)
    obtain ⟨m,t',ys,rfl,g1,g2,tr⟩:=iJ h1 T al
    obtain ⟨y0,yr,rfl,a0,g2⟩:=dJ g2
    obtain ⟨y1,yr,rfl,a1,g2⟩:=dJ g2
    obtain ⟨y2,yr,rfl,a2,g2⟩:=dJ g2
    obtain rfl:=lH g2
    rw [e7 (v:=.str _) trivial a0,e7 (v:=.str _) trivial a1] at g1
    simp only [dZ]
    exact ⟨t',y2,rfl,g1,h2,h3.alike (tr _ (by simp)) a2⟩
  | .send to sg sp rk a b,v,v',n,h,T,al=>by
    obtain ⟨t,u,u1,u2,rfl,h1,h2,h3,h4⟩:=(by simpa only [dZ] using h)
    obtain ⟨m,t',ys,rfl,g1,g2,tr⟩:=iJ h1 T al
    obtain ⟨y0,yr,rfl,a0,g2⟩:=dJ g2
    obtain ⟨y1,yr,rfl,a1,g2⟩:=dJ g2
    obtain ⟨y2,yr,rfl,a2,g2⟩:=dJ g2
    obtain ⟨y3,yr,rfl,a3,g2⟩:=dJ g2
    obtain ⟨y4,yr,rfl,a4,g2⟩:=dJ g2
    obtain ⟨y5,yr,rfl,a5,g2⟩:=dJ g2
    obtain ⟨y6,yr,rfl,a6,g2⟩:=dJ g2
    obtain rfl:=lH g2
    rw [e7 (v:=.str _) trivial a0,e7 (v:=.int _) trivial a1,e7 (v:=.str _) trivial a2,e7 (v:=.int _) trivial a4] at g1
    simp only [dZ]
    exact ⟨t',y3,y5,y6,rfl,g1,h2.alike (tr _ (by simp)) a3,h3.alike (tr _ (by simp)) a5,h4.alike (tr _ (by simp)) a6⟩
  | .ife f x y,v,v',n,h,T,al=>by
    obtain ⟨t,u,u1,u2,rfl,h1,h2,h3,h4⟩:=(by simpa only [dZ] using h)
    obtain ⟨m,t',ys,rfl,g1,g2,tr⟩:=iJ h1 T al
    obtain ⟨y0,yr,rfl,a0,g2⟩:=dJ g2
    obtain ⟨y1,yr,rfl,a1,g2⟩:=dJ g2
    obtain ⟨y2,yr,rfl,a2,g2⟩:=dJ g2
    obtain ⟨y3,yr,rfl,a3,g2⟩:=dJ g2
    obtain rfl:=lH g2
    rw [e7 (v:=.str _) trivial a0] at g1
    simp only [dZ]
    exact ⟨t',y1,y2,y3,rfl,g1,h2.alike (tr _ (by simp)) a1,h3.alike (tr _ (by simp)) a2 fun m vs ys a b c=>eA.alike x vs ys m a b c,h4.alike (tr _ (by simp)) a3 fun m vs ys a b c=>eA.alike y vs ys m a b c⟩
  | .fin,v,v',n,h,T,al=>by
    obtain ⟨t,rfl,h1⟩:=(by simpa only [dZ] using h)
    obtain ⟨m,t',ys,rfl,g1,g2,tr⟩:=iJ h1 T al
    obtain ⟨y0,yr,rfl,a0,g2⟩:=dJ g2
    obtain rfl:=lH g2
    rw [e7 (v:=.str _) trivial a0] at g1
    simp only [dZ]
    exact ⟨t',rfl,g1⟩
theorem eA.alike {bs qs:List Str} {H H':Hp}:∀ (d:Ds) (vs ys:List V) (n:Nat),eA bs qs H d vs->bJ (Alike H H' n) vs ys->(∀ x∈vs,Tree H n x)->eA bs qs H' d ys
  | .nil,vs,ys,n,h,al,T=>by
    have e:vs=[]:=by simpa only [eA] using h
    subst e
    obtain rfl:=lH al
    simp only [eA]
  | .cons d r,vs,ys,n,h,al,T=>by
    obtain ⟨v,vr,rfl,h1,h2⟩:=(by simpa only [eA] using h)
    obtain ⟨y,yr,rfl,a,b⟩:=dJ al
    simp only [eA]
    exact ⟨y,yr,rfl,dZ.alike d v y n h1 (T v aA) a,eA.alike r vr yr n h2 b fun x hx=>T x (aa _ hx)⟩
end
theorem pD {α:Type} {R R':V->α->Prop} {S:V->V->Prop} {T:V->Prop} (f:∀ v a v',R v a->S v v'->T v->R' v' a):∀ {xs ys:List V} {as:List α},bJ R xs as->bJ S xs ys->(∀ x∈xs,T x)->bJ R' ys as:=by
  intro xs ys as p
  induction p generalizing ys with
  | nil =>
    intro q _
    cases q
    exact .nil
  | cons a b ih =>
    intro q t
    cases q with
    | cons c d=>exact .cons (f _ _ _ a c (t _ aA)) (ih d fun x hx=>t x (aa _ hx))
theorem og.alike {bs qs:List Str} {ds:List Int} {hs:List (Str×Ds)} {H H':Hp} {v v':V} {n:Nat} (h:og bs qs ds hs H v) (T:Tree H n v) (al:Alike H H' n v v'):og bs qs ds hs H' v':=by
  obtain ⟨t,bl,ql,dl,hl,nm,vb,hv,rfl,h1,h2,h3,h4,h5,h6,h7⟩:=h.ex
  obtain ⟨m,t',ys,rfl,g1,g2,tr⟩:=iJ h1 T al
  obtain ⟨y0,yr,rfl,a0,g2⟩:=dJ g2
  obtain ⟨y1,yr,rfl,a1,g2⟩:=dJ g2
  obtain ⟨y2,yr,rfl,a2,g2⟩:=dJ g2
  obtain ⟨y3,yr,rfl,a3,g2⟩:=dJ g2
  obtain ⟨y4,yr,rfl,a4,g2⟩:=dJ g2
  obtain rfl:=lH g2
  obtain ⟨m1,b',zs1,rfl,c1,d1,t1⟩:=qW h2 (tr _ (by simp)) a1
  obtain ⟨m2,q',zs2,rfl,c2,d2,t2⟩:=qW h4 (tr _ (by simp)) a2
  obtain ⟨m3,e',zs3,rfl,c3,d3,t3⟩:=qW h5 (tr _ (by simp)) a3
  obtain ⟨m4,f',zs4,rfl,c4,d4,t4⟩:=qW h6 (tr _ (by simp)) a4
  rw [iF d2 (by intro x hx; obtain ⟨z,_,rfl⟩:=cG.mp hx; exact trivial)] at c2
  rw [iF d3 (by intro x hx; obtain ⟨z,_,rfl⟩:=cG.mp hx; exact trivial)] at c3
  refine ⟨t',b',q',e',f',y0,zs1,zs4,rfl,g1,c1,pD (fun v a v' x y z=>?_) h3 d1 t1,c2,c3,c4,pD (fun v a v' x y z=>?_) h7 d4 t4⟩
  · obtain ⟨p,k,rfl,hp⟩:=x
    obtain ⟨m',p',ws,rfl,k1,k2,_⟩:=iJ hp z y
    obtain ⟨w0,wr,rfl,b0,k2⟩:=dJ k2
    obtain ⟨w1,wr,rfl,b1,k2⟩:=dJ k2
    obtain rfl:=lH k2
    rw [e7 (v:=.str _) trivial b0] at k1
    exact ⟨p',w1,rfl,k1⟩
  · obtain ⟨p,u,rfl,hp,hu⟩:=x
    obtain ⟨m',p',ws,rfl,k1,k2,tr'⟩:=iJ hp z y
    obtain ⟨w0,wr,rfl,b0,k2⟩:=dJ k2
    obtain ⟨w1,wr,rfl,b1,k2⟩:=dJ k2
    obtain rfl:=lH k2
    rw [e7 (v:=.str _) trivial b0] at k1
    exact ⟨p',w1,rfl,k1,hu.alike (tr' _ (by simp)) b1 fun m vs ys a b c=>eA.alike _ vs ys m a b c⟩
end My
namespace My
open PySem L2
def Ax (K:aj):List V->Hp->VK->Prop:=fun xs H Q=>∃ p ys,xs=[.ref p]/\(SqL K H p ys\/SqT K H p ys)/\Q (.int ys.length) H
theorem dS {X:Cx} (K:aj) (hK:X.K=K):kJ X (.builtin "len") (Ax K):=by
  rw [<- hK]
  exact gU
theorem vh {X:Cx} (K:aj) (hK:X.K=K):IxR X (Dz K):=by
  rw [<- hK]
  exact bT
theorem xR {X:Cx} {pos:Pos} {es:List cZ} {k:Nat} {t:TGs} {n:Nat} (K:aj) (hK:X.K=K) (hc:X.calm=true) (h:PGs X es t)
    (hn:(j9 es X.env).length=n:=by rfl) (hst:(j9 es X.env).findIdx? (·.1)=none:=by rfl):PG X (.Tuple es k pos) (gTup K n t):=by
  rw [<- hK]
  exact nV hc h hn hst
theorem Ey:1<=aE:=by decide
theorem qX {te:TE} {D:lB} {σ:St} {H:Hp} (h:te σ H D.rt):tRet te D σ H:=h
section
variable {P:aX} {w:cz} {K:aj} {mg:Str->Option af} {base:cR} {f fP CB:ae} {fd fdP:cH}
def oh (wd:Str):Sp:=fun vs H Q _=>∃ a,vs=[a]/\Q (.str wd) H
end
end My
namespace My
open PySem L2
theorem dZ.ref {bs qs:List Str} {H:Hp} {d:Dd} {v:V} (h:dZ bs qs H d v):∃ t,v=.ref t:=by
  cases d <;> simp only [dZ] at h
  · obtain ⟨t,_,e,_⟩:=h
    exact ⟨t,e⟩
  · obtain ⟨t,_,e,_⟩:=h
    exact ⟨t,e⟩
  · obtain ⟨t,_,e,_⟩:=h
    exact ⟨t,e⟩
  · obtain ⟨t,_,e,_⟩:=h
    exact ⟨t,e⟩
  · obtain ⟨t,_,_,_,e,_⟩:=h
    exact ⟨t,e⟩
  · obtain ⟨t,_,_,_,e,_⟩:=h
    exact ⟨t,e⟩
  · obtain ⟨t,e,_⟩:=h
    exact ⟨t,e⟩
end My
namespace My
open PySem L2
theorem Tree.scal {H:Hp} {v:V} (h:wH v):∀ n,Tree H n v
  | 0=>h
  | _ + 1=>.inl h
theorem Tree.atup {H:Hp} {a:ae} {xs:List V} {n:Nat} (h:H a=some (.tup xs)) (l:xs.length < 1000) (k:∀ x∈xs,Tree H n x):Tree H (n + 1) (.ref a):=.inr ⟨a,xs,rfl,.inr h,l,k⟩
theorem Tree.alst {H:Hp} {a:ae} {xs:List V} {n:Nat} (h:H a=some (.lst xs)) (l:xs.length < 1000) (k:∀ x∈xs,Tree H n x):Tree H (n + 1) (.ref a):=.inr ⟨a,xs,rfl,.inl h,l,k⟩
theorem iu.tree {bs qs:List Str} {H:Hp} {v:V} {f:Fm} (h:iu bs qs H v f):∀ n,f.depth<=n->Tree H n v:=by
  induction h with
  | num h1 _=>exact fun n hn=>match n,hn with
    | n + 1,_=>Tree.atup h1 (by show 2 < 1000; decide) fun x hx=>by
      simp only [az,bY,or_false] at hx
      rcases hx with rfl | rfl <;> exact Tree.scal (by exact trivial) _
    | 0,hn=>absurd hn (by unfold Fm.depth; decide)
  | box h1 _=>exact fun n hn=>match n,hn with
    | n + 1,_=>Tree.atup h1 (by show 2 < 1000; decide) fun x hx=>by
      simp only [az,bY,or_false] at hx
      rcases hx with rfl | rfl <;> exact Tree.scal (by exact trivial) _
    | 0,hn=>absurd hn (by unfold Fm.depth; decide)
  | long h1 _=>exact fun n hn=>match n,hn with
    | n + 1,_=>Tree.atup h1 (by show 2 < 1000; decide) fun x hx=>by
      simp only [az,bY,or_false] at hx
      rcases hx with rfl | rfl <;> exact Tree.scal (by exact trivial) _
    | 0,hn=>absurd hn (by unfold Fm.depth; decide)
  | got h1=>exact fun n hn=>match n,hn with
    | n + 1,_=>Tree.atup h1 (by show 2 < 1000; decide) fun x hx=>by
      simp only [az,bY,or_false] at hx
      rcases hx with rfl | rfl <;> exact Tree.scal (by exact trivial) _
    | 0,hn=>absurd hn (by unfold Fm.depth; decide)
  | now h1=>exact fun n hn=>match n,hn with
    | n + 1,_=>Tree.atup h1 (by show 1 < 1000; decide) fun x hx=>by
      simp only [az,bY,or_false] at hx
      rcases hx with rfl
      exact Tree.scal (by exact trivial) _
    | 0,hn=>absurd hn (by unfold Fm.depth; decide)
  | two h1 _ _ _ ih1 ih2=>exact fun n hn=>match n,hn with
    | n + 1,hn=>Tree.atup h1 (by show 3 < 1000; decide) fun x hx=>by
      unfold Fm.depth at hn
      simp only [az,bY,or_false] at hx
      rcases hx with rfl | rfl | rfl
      · exact Tree.scal (by exact trivial) _
      · exact ih1 n (by omega)
      · exact ih2 n (by omega)
    | 0,hn=>absurd hn (by unfold Fm.depth; omega)
mutual
theorem dZ.tree {bs qs:List Str} {H:Hp}:∀ (d:Dd) (v:V) (n:Nat),dZ bs qs H d v->2 * d.deep + 16<=n->Tree H n v
  | _,_,0,_,hn=>absurd hn (by omega)
  | .put x f,v,n + 1,h,hn=>by
    obtain ⟨t,u,rfl,h1,h2,h3⟩:=(by simpa only [dZ] using h)
    refine Tree.atup h1 (by show 3 < 1000; decide) fun y hy=>?_
    simp only [az,bY,or_false] at hy
    rcases hy with rfl | rfl | rfl
    · exact Tree.scal (by exact trivial) _
    · exact Tree.scal (by exact trivial) _
    · exact h3.1.tree n (by have:=h3.2; omega)
  | .push q f,v,n + 1,h,hn=>by
    obtain ⟨t,u,rfl,h1,h2,h3⟩:=(by simpa only [dZ] using h)
    refine Tree.atup h1 (by show 3 < 1000; decide) fun y hy=>?_
    simp only [az,bY,or_false] at hy
    rcases hy with rfl | rfl | rfl
    · exact Tree.scal (by exact trivial) _
    · exact Tree.scal (by exact trivial) _
    · exact h3.1.tree n (by have:=h3.2; omega)
  | .pull q x o,v,n + 1,h,hn=>by
    obtain ⟨t,u,rfl,h1,h2,h3,l,vs,rfl,h4,h5,h6⟩:=(by simpa only [dZ] using h)
    unfold Dd.deep at hn
    refine Tree.atup h1 (by show 4 < 1000; decide) fun y hy=>?_
    simp only [az,bY,or_false] at hy
    rcases hy with rfl | rfl | rfl | rfl
    · exact Tree.scal (by exact trivial) _
    · exact Tree.scal (by exact trivial) _
    · exact Tree.scal (by exact trivial) _
    · obtain ⟨m,rfl⟩:∃ m,n=m + 1:=⟨n - 1,by omega⟩
      exact Tree.alst h4 h5 (eA.tree o vs m h6 (by omega))
  | .draw x f,v,n + 1,h,hn=>by
    obtain ⟨t,u,rfl,h1,h2,h3⟩:=(by simpa only [dZ] using h)
    refine Tree.atup h1 (by show 3 < 1000; decide) fun y hy=>?_
    simp only [az,bY,or_false] at hy
    rcases hy with rfl | rfl | rfl
    · exact Tree.scal (by exact trivial) _
    · exact Tree.scal (by exact trivial) _
    · exact h3.1.tree n (by have:=h3.2; omega)
  | .send to sg sp rk a b,v,n + 1,h,hn=>by
    obtain ⟨t,u,u1,u2,rfl,h1,h2,h3,h4⟩:=(by simpa only [dZ] using h)
    refine Tree.atup h1 (by show 7 < 1000; decide) fun y hy=>?_
    simp only [az,bY,or_false] at hy
    rcases hy with rfl | rfl | rfl | rfl | rfl | rfl | rfl
    · exact Tree.scal (by exact trivial) _
    · exact Tree.scal (by exact trivial) _
    · exact Tree.scal (by exact trivial) _
    · exact h2.1.tree n (by have:=h2.2; omega)
    · exact Tree.scal (by exact trivial) _
    · exact h3.1.tree n (by have:=h3.2; omega)
    · exact h4.1.tree n (by have:=h4.2; omega)
  | .ife f x y,v,n + 1,h,hn=>by
    obtain ⟨t,u,u1,u2,rfl,h1,h2,⟨l,vs,rfl,g1,g2,g3⟩,l',vs',rfl,k1,k2,k3⟩:=(by simpa only [dZ] using h)
    unfold Dd.deep at hn
    refine Tree.atup h1 (by show 4 < 1000; decide) fun z hz=>?_
    simp only [az,bY,or_false] at hz
    obtain ⟨m,rfl⟩:∃ m,n=m + 1:=⟨n - 1,by omega⟩
    rcases hz with rfl | rfl | rfl | rfl
    · exact Tree.scal (by exact trivial) _
    · exact h2.1.tree _ (by have:=h2.2; omega)
    · exact Tree.alst g1 g2 (eA.tree x vs m g3 (by omega))
    · exact Tree.alst k1 k2 (eA.tree y vs' m k3 (by omega))
  | .fin,v,n + 1,h,hn=>by
    obtain ⟨t,rfl,h1⟩:=(by simpa only [dZ] using h)
    refine Tree.atup h1 (by show 1 < 1000; decide) fun y hy=>?_
    simp only [az,bY,or_false] at hy
    rw [hy]
    exact Tree.scal (by exact trivial) _
theorem eA.tree {bs qs:List Str} {H:Hp}:∀ (d:Ds) (vs:List V) (n:Nat),eA bs qs H d vs->2 * d.deep + 16<=n->∀ x∈vs,Tree H n x
  | .nil,vs,n,h,hn=>by
    have e:vs=[]:=by simpa only [eA] using h
    subst e
    intro x hx
    cases hx
  | .cons d r,vs,n,h,hn=>by
    obtain ⟨v,vr,rfl,h1,h2⟩:=(by simpa only [eA] using h)
    unfold Ds.deep at hn
    intro x hx
    rcases az.mp hx with rfl | hx
    · exact dZ.tree d _ n h1 (by omega)
    · exact eA.tree r vr n h2 (by omega) x hx
end
end My
namespace My
open PySem L2
section
variable {X:Cx} {es:List cZ} {te:TE} {t:TA}
theorem qY {es':List cZ} {k:Nat} {p:Pos} {env:Env}:cW (.Tuple es' k p :: es) env=(false,gj (.Tuple es' k p) env) :: cW es env:=by rfl
theorem qZ {es':List cZ} {k:Nat} {p:Pos} (ha:PE X (.Tuple es' k p) te) (hr:PA X es t):PA X (.Tuple es' k p :: es) (jY te t):=aw ha hr (by rfl)
theorem wU {es':List cZ} {p:Pos} (ha:PE X (.List es' p) te) (hr:PA X es t):PA X (.List es' p :: es) (jY te t):=aw ha hr (by rfl)
theorem cX {c:Const} {k:Nat} {p:Pos} (ha:PE X (.Constant c k p) te) (hr:PA X es t):PA X (.Constant c k p :: es) (jY te t):=aw ha hr (by rfl)
theorem aT {x:Str} {p:Pos} (ha:PE X (.Name x p) te) (hr:PA X es t):PA X (.Name x p :: es) (jY te t):=aw ha hr (by rfl)
theorem iU {g:cZ} {as:List cZ} {ks:List E1} {p:Pos} (ha:PE X (.Call g as ks p) te) (hr:PA X es t):PA X (.Call g as ks p :: es) (jY te t):=aw ha hr (by rfl)
theorem ig {a b:cZ} {p:Pos} (ha:PE X (.Subscript a b p) te) (hr:PA X es t):PA X (.Subscript a b p :: es) (jY te t):=aw ha hr (by rfl)
theorem kE {a b:cZ} {o:Ba} {p:Pos} (ha:PE X (.BinOp a o b p) te) (hr:PA X es t):PA X (.BinOp a o b p :: es) (jY te t):=aw ha hr (by rfl)
end
theorem genH {T P:Hp->Prop} {G:Hp} (h:P G) (k:∀ G',P G'->T G'):T G:=k G h
theorem C0 {t:L2.TT} {a b:TS} {D:lB} {σ:St} {H:Hp} (h:t σ H fun c H1=>if c=true then a D σ H1 else b D σ H1):Dl t a b D σ H:=h
theorem cS {D:lB} {σ:St} {H:Hp} (h:D.nx σ H):Ct D σ H:=h
def Det (t:L2.TT) (σ:St) (H:Hp) (b:Bool):Prop:=∀ Q:Bool->Hp->Prop,Q b H->t σ H Q
theorem Det.and {tA tB:L2.TT} {σ:St} {H:Hp} {x y:Bool} (a:Det tA σ H x) (b:x=true->Det tB σ H y):Det (tAnd tA tB) σ H (x && y):=fun Q q=>a _ (by
  cases x with
  | true=>exact eC (b rfl Q q)
  | false=>exact dY q)
theorem Det.or {tA tB:L2.TT} {σ:St} {H:Hp} {x y:Bool} (a:Det tA σ H x) (b:x=false->Det tB σ H y):Det (tOr tA tB) σ H (x || y):=fun Q q=>a _ (by
  cases x with
  | true=>exact eC q
  | false=>exact dY (b rfl Q q))
theorem iw {t:L2.TT} {a b:TS} {D:lB} {σ:St} {H:Hp} {c:Bool} (h:Det t σ H c) (k1:c=true->a D σ H) (k2:c=false->b D σ H):Dl t a b D σ H:=h _ (by
  cases c with
  | true=>exact eC (k1 rfl)
  | false=>exact dY (k2 rfl))
theorem oi {i:Nat} {w k:Int} {σ:St} {H:Hp} (hv:σ[i]?=some (some (.int w))):Det (rX (tOp rEq (qm i) (tC (.int k)))) σ H (decide (w=k)):=fun Q q=>⟨_,hv,rfl,_,rfl,by
  rw [show decide (V.int w=V.int k)=decide (w=k) from by
    by_cases c:w=k
    · subst c
      rw [decide_eq_true rfl,decide_eq_true rfl]
    · rw [decide_eq_false c,decide_eq_false (fun z=>c (by cases z; rfl))]]
  exact q⟩
theorem wV {i:Nat} {w k:Int} {σ:St} {H:Hp} (hv:σ[i]?=some (some (.int w))):Det (rX (tOp (rI0 fun i j=>.bl (decide (i < j))) (qm i) (tC (.int k)))) σ H (decide (w < k)):=fun Q q=>⟨_,hv,_,_,rfl,rfl,_,rfl,q⟩
theorem Ez {i:Nat} {w k:Int} {σ:St} {H:Hp} (hv:σ[i]?=some (some (.int w))):Det (rX (tOp (rI0 fun i j=>.bl (decide (j < i))) (qm i) (tC (.int k)))) σ H (decide (k < w)):=fun Q q=>⟨_,hv,_,_,rfl,rfl,_,rfl,q⟩
theorem oH {K:aj} {i:Nat} {a:ae} {xs:List V} {k:Int} {σ:St} {H:Hp} (hv:σ[i]?=some (some (.ref a))) (hx:H a=some (.lst xs)):Det (rX (tOp (rI0 fun i j=>.bl (decide (j < i))) (tCB (Ax K) (jY (qm i) uD)) (tC (.int k)))) σ H (decide (k < xs.length)):=fun Q q=>⟨_,hv,a,xs,rfl,.inl (SqL.of hx),_,_,rfl,rfl,_,rfl,q⟩
theorem Ay {K:aj} {i:Nat} {a:ae} {xs:List V} {k:Int} {σ:St} {H:Hp} (hv:σ[i]?=some (some (.ref a))) (hx:H a=some (.lst xs)):Det (rX (tOp rEq (tCB (Ax K) (jY (qm i) uD)) (tC (.int k)))) σ H (decide ((xs.length:Int)=k)):=fun Q q=>⟨_,hv,a,xs,rfl,.inl (SqL.of hx),rfl,_,rfl,by
  rw [show decide (V.int (xs.length:Int)=V.int k)=decide ((xs.length:Int)=k) from by
    by_cases c:(xs.length:Int)=k
    · rw [decide_eq_true c,decide_eq_true (by rw [c])]
    · rw [decide_eq_false c,decide_eq_false (fun z=>c (by injection z))]]
  exact q⟩
end My
namespace My
open PySem L2
def vi (o:HO):Prop:=(∃ xs,o=.tup xs)\/∃ xs,o=.lst xs/\∀ (i:Int) (r:List V),xs≠.int i :: r
def eV (H H':Hp):Prop:=∀ a o,H a=some o->vi o->H' a=some o
theorem eV.same {H H':Hp} (s:cF H H'):eV H H':=fun a o e _=>s _ _ e
theorem eV.trans {H H1 H2:Hp} (a:eV H H1) (b:eV H1 H2):eV H H2:=fun c o e n=>b _ _ (a _ _ e n) n
def Kp (own:List ae) (H G:Hp):Prop:=∀ b o,H b=some o->b∉own->G b=some o
theorem Kp.refl (own:List ae) (H:Hp):Kp own H H:=fun _ _ e _=>e
theorem Kp.trans {own:List ae} {H G G':Hp} (a:Kp own H G) (b:Kp own G G'):Kp own H G':=fun c o e n=>b c o (a c o e n) n
theorem Kp.same {own:List ae} {H G:Hp} (s:cF H G):Kp own H G:=fun c o e _=>s _ _ e
theorem Kp.but {own:List ae} {H G:Hp} {p:ae} (s:But p H G) (m:p∈own):Kp own H G:=fun c o e n=>s _ _ e fun z=>n (by rw [z]; exact m)
theorem Kp.upd {own:List ae} {H:Hp} {a:ae} {o:HO} (m:a∈own):Kp own H (upd H a o):=fun c u e n=>by
  rw [aY fun z=>n (by rw [z]; exact m)]
  exact e
theorem Kp.keepI {own:List ae} {H G:Hp} (k:Kp own H G) (h:∀ a∈own,∃ (i:Int) (r:List V),H a=some (.lst (.int i :: r))):eV H G:=fun a o e n=>k a o e fun m=>by
  obtain ⟨i,r,q⟩:=h a m
  rw [q] at e
  cases e
  rcases n with ⟨xs,n⟩ | ⟨xs,n,y⟩
  · cases n
  · cases n
    exact y i r rfl
theorem eV.but {H H':Hp} {p:ae} (pu:dD H p) (b:But p H H'):eV H H':=Kp.keepI (own:=[p]) (Kp.but b aA) fun a m=>by
  obtain ⟨x,y,h⟩:=pu
  rw [aQ.mp m]
  exact ⟨x,_,h⟩
theorem pE (xs:List V):vi (.tup xs):=.inl ⟨xs,rfl⟩
theorem t5 (ss:List Str):vi (.lst (ss.map V.str)):=.inr ⟨_,rfl,fun i r z=>by
  cases ss with
  | nil=>cases z
  | cons x xs=>cases z⟩
theorem eA.ni {bs qs:List Str} {H:Hp} {d:Ds} {vs:List V} (h:eA bs qs H d vs):vi (.lst vs):=.inr ⟨vs,rfl,fun i r z=>by
  subst z
  cases d with
  | nil =>
    simp only [eA] at h
    cases h
  | cons d r =>
    obtain ⟨v,vr,e,h1,_⟩:=(by simpa only [eA] using h)
    cases e
    obtain ⟨t,e⟩:=h1.ref
    cases e⟩
mutual
def Dd.toOk (m:Int):Dd->Prop
  | .send to _ _ _ _ _=>0<=to/\to < m
  | .pull _ _ o=>o.toOk m
  | .ife _ t e=>t.toOk m/\e.toOk m
  | _=>True
def Ds.toOk (m:Int):Ds->Prop
  | .nil=>True
  | .cons d r=>d.toOk m/\r.toOk m
end
end My
namespace My
open PySem L2
theorem gi {H:Hp} {p lb:ae} {bs:List Str} (pu:dD H p) (hb:H lb=some (.lst (bs.map V.str))):lb≠p:=by
  obtain ⟨x,y,e⟩:=pu
  refine gJ hb e fun z=>?_
  cases bs with
  | nil=>cases z
  | cons b r=>cases z
theorem ko {bs:List Str} {r:Int} (h0:0<=r) (h1:r < bs.length):∃ x,atI (bs.map V.str) r=some (.str x)/\x∈bs:=by
  obtain ⟨j,rfl⟩:∃ j:Nat,r=(j:Int):=⟨r.toNat,by omega⟩
  have lt:j < bs.length:=by omega
  exact ⟨bs[j],jG (by rw [dk,cC lt]; rfl),lV lt⟩
theorem iu.but {bs qs:List Str} {H H':Hp} {p:ae} {v:V} {f:Fm} (pu:dD H p) (b:But p H H') (h:iu bs qs H v f):iu bs qs H' v f:=h.mono fun t xs e=>eV.but pu b _ _ e (pE xs)
section
variable {P:aX} {w:cz} {K:aj} {mg:Str->Option af} {base:cR} {f fD fL fR fF:ae} {fd fdD fdL fdR fdF:cH} {bs qs:List Str}
seal L2.PS L2.PSs L2.PE L2.PA L2.PT L2.PW L2.PI L2.PG L2.PGs L2.PC
abbrev nLe:List Str:=["_law_purse_here","_law_boxes","_law_queues","_law_way"]
theorem scLe:cD nLe ["_law_purse_here","_law_boxes","_law_queues"] (aB gC):=⟨rfl,rfl,rfl,by decide +kernel,rfl,by decide +kernel,by decide +kernel⟩
def BS (bs qs:List Str):Sp:=fun vs H Q _=>∃ (p lb lq:ae),vs=[.ref p,.ref lb,.ref lq]/\dD H p/\H lb=some (.lst (bs.map V.str))/\H lq=some (.lst (qs.map V.str))/\bs.length<=9/\qs.length<=9 /\
  ∀ (v:V) (F:Fm) (H':Hp),iu bs qs H' v F->F.depth<=1->dD H' p->But p H H'->Q v H'
theorem C1 (D:Df K mg "_law_leaf" gC ["_law_purse_here","_law_boxes","_law_queues"] f fd) (DD:Df K mg "_law_draw" eE ["_law_purse_here","_law_out_of"] fD fdD) (B:Bl mg):bZ P w K mg base CX0 2 f fd ["_law_purse_here","_law_boxes","_law_queues"] (BS bs qs):=by
  have GD:bZ P w K mg base CX0 1 fD fdD ["_law_purse_here","_law_out_of"] jE:=jH DD
  refine D.F.ok scLe (fun vs H Q E h=>?_) (fun cdv A outer s H vs Q E r1 h=>?_)
  · obtain ⟨p,lb,lq,rfl,_⟩:=h
    rfl
  obtain ⟨p,lb,lq,rfl,pu,hb,hq,lbs,lqs,k⟩:=h
  refine ⟨_,ah (bF (i:=3) scLe.nd rfl (Or.inl rfl) (aN GD r1 (by rfl) DD.m DD.F.kp DD.b .nil bR (aT (pv 0) (cX ag ak))))
    (ah (cK ((mC (bE di (pv 3) ag (bM _)) (kF (bE kK (cu (dS K (by rfl)) (by rfl) B.len cw (aT (pv 1) ak)) ag (bM _)))).pt) (au (bD (eO (cX bN (ig (aP bT (pv 1) (aN GD r1 (by rfl) DD.m DD.F.kp DD.b .nil bR (aT (pv 0) (iU (cu (dS K (by rfl)) (by rfl) B.len cw (aT (pv 1) ak)) ak))) (fun _ _=>rfl)) ak))))) bH)
    (ah (cK ((mC (bE di (pv 3) ag (bM _)) (kF (bE kK (cu (dS K (by rfl)) (by rfl) B.len cw (aT (pv 2) ak)) ag (bM _)))).pt) (au (bD (eO (cX bN (ig (aP bT (pv 2) (aN GD r1 (by rfl) DD.m DD.F.kp DD.b .nil bR (aT (pv 0) (iU (cu (dS K (by rfl)) (by rfl) B.len cw (aT (pv 2) ak)) ak))) (fun _ _=>rfl)) ak))))) bH)
    (ah (cK (bE di (pv 3) ag (bM _)) (au (bD (eO (cX bN (iU (aN GD r1 (by rfl) DD.m DD.F.kp DD.b .nil bR (aT (pv 0) (cX ag ak))) ak))))) bH)
    (ah (cK (bE di (pv 3) ag (bM _)) (au (bD (eO (cX bN ak)))) bH)
    (ah (cK (bE di (aN GD r1 (by rfl) DD.m DD.F.kp DD.b .nil bR (aT (pv 0) (cX ag ak))) ag (bM _)) (au (bD (eO (cX bN (kE (cJ gK (aN GD r1 (by rfl) DD.m DD.F.kp DD.b .nil bR (aT (pv 0) (kE (cJ fZ (cJ jQ ag (cJ iG ag ag)) ag) ak))) (cJ iG ag ag)) ak))))) bH)
    (au (bD (eO (cX bN (kE (cJ gK (aN GD r1 (by rfl) DD.m DD.F.kp DD.b .nil bR (aT (pv 0) (cX ag ak))) ag) ak)))))))))),?_⟩
  have big:=eM
  have c15:oX 10 15:=⟨by decide,by decide,by decide⟩
  have e15:(10:Int) ^ (15:Int).toNat=1000000000000000:=by decide
  have w15:(10:Int) ^ 15=1000000000000000:=by decide
  refine aO (cN ?_)
  refine ⟨_,rfl,p,6,rfl,pu,by decide,by decide,fun way G w0 w1 puG bG=>?_⟩
  refine aZ ?_
  dsimp only
  have hbG:=bG _ _ hb (gi pu hb)
  have hqG:=bG _ _ hq (gi pu hq)
  have ni:=gi puG hbG
  -- a new tuple behind draws
  have fin:∀ {G1:Hp} {xs:List V} {F:Fm},But p H G1->dD G1 p->(∀ t,upd G1 t (.tup xs) t=some (.tup xs)->G1 t=none->iu bs qs (upd G1 t (.tup xs)) (.ref t) F)->F.depth<=1->xs.length<=2->xs.length<=aE/\∀ t,G1 t=none->Q (.ref t) (upd G1 t (.tup xs)):=fun {G1 xs F} b1 pu1 hF hd hl=>⟨by omega,fun t ht=>k _ F _ (hF t ao ht) hd (pu1.same (aM ht _)) (b1.same (aM ht _))⟩
  refine aO ?_
  refine iw (Det.and (oi rfl) fun _=>oH (K:=K) rfl hbG) (fun c=>?_) (fun _=>?_)
  · have c2:=(gf _ _ ▸ c).2
    have lpos:0 < bs.length:=by
      have:=of_decide_eq_true c2
      rw [ai] at this
      omega
    refine ⟨_,rfl,_,rfl,_,rfl,lb,_,rfl,.inl (SqL.of hbG),p,_,rfl,puG,by rw [ai]; omega,by rw [ai]; omega,fun r G1 r0 r1' pu1 b1=>?_⟩
    rw [ai] at r1'
    obtain ⟨x,hx,mx⟩:=ko r0 r1'
    refine ⟨lb,_,_,_,rfl,rfl,SqL.of (b1 _ _ hbG ni),hx,?_⟩
    exact fin (F:=.box x) (bG.trans b1) pu1 (fun t h _=>.box h mx) (by show 1<=1; decide) (by show 2<=2; decide)
  refine aO ?_
  refine iw (Det.and (oi rfl) fun _=>oH (K:=K) rfl hqG) (fun c=>?_) (fun _=>?_)
  · have c2:=(gf _ _ ▸ c).2
    have lpos:0 < qs.length:=by
      have:=of_decide_eq_true c2
      rw [ai] at this
      omega
    refine ⟨_,rfl,_,rfl,_,rfl,lq,_,rfl,.inl (SqL.of hqG),p,_,rfl,puG,by rw [ai]; omega,by rw [ai]; omega,fun r G1 r0 r1' pu1 b1=>?_⟩
    rw [ai] at r1'
    obtain ⟨x,hx,mx⟩:=ko r0 r1'
    refine ⟨lq,_,_,_,rfl,rfl,SqL.of (b1 _ _ hqG (gi puG hqG)),hx,?_⟩
    exact fin (F:=.long x) (bG.trans b1) pu1 (fun t h _=>.long h mx) (by show 1<=1; decide) (by show 2<=2; decide)
  refine aO ?_
  refine iw (oi rfl) (fun _=>?_) (fun _=>?_)
  · refine ⟨_,rfl,p,2,rfl,puG,by decide,by decide,fun r G1 r0 r1' pu1 b1=>?_⟩
    have er:r=if (decide (r=1))=true then 1 else 0:=by
      by_cases c:r=1
      · rw [decide_eq_true c,if_pos rfl]
        exact c
      · rw [decide_eq_false c,if_neg (by decide)]
        omega
    exact fin (F:=.got (decide (r=1))) (bG.trans b1) pu1 (fun t h _=>.got (by rw [h,<- er])) (by show 1<=1; decide) (by show 2<=2; decide)
  refine aO ?_
  refine iw (oi rfl) (fun _=>?_) (fun _=>?_)
  · exact fin (F:=.now) bG puG (fun t h _=>.now h) (by decide) (by show 1<=2; decide)
  refine aO ?_
  refine ⟨_,rfl,p,9,rfl,puG,by decide,by decide,fun r G1 r0 r1' pu1 b1=>⟨rfl,_,rfl,?_⟩⟩
  refine gH (fun _=>?_) (fun _=>?_)
  · refine ⟨_,rfl,_,_,rfl,rfl,c15,_,_,rfl,rfl,.inl ⟨by decide,by decide⟩,_,_,rfl,rfl,?_⟩
    rw [e15]
    refine ⟨p,_,rfl,pu1,by decide,by decide,fun r2 G2 r20 r21 pu2 b2=>⟨_,_,rfl,rfl,c15,_,_,rfl,rfl,?_⟩⟩
    rw [e15]
    exact fin (F:=.num (r2 - 1000000000000000)) ((bG.trans b1).trans b2) pu2 (fun t h _=>.num h (by unfold Wo; omega)) (by show 1<=1; decide) (by show 2<=2; decide)
  · refine ⟨_,rfl,p,7,rfl,pu1,by decide,by decide,fun r2 G2 r20 r21 pu2 b2=>⟨_,_,rfl,rfl,?_⟩⟩
    exact fin (F:=.num (r2 - 2)) ((bG.trans b1).trans b2) pu2 (fun t h _=>.num h (by unfold Wo; omega)) (by show 1<=1; decide) (by show 2<=2; decide)
abbrev nFo:List Str:=["_law_purse_here","_law_boxes","_law_queues","_law_deep","_law_word","_law_one"]
abbrev pFo:List Str:=["_law_purse_here","_law_boxes","_law_queues","_law_deep"]
theorem EA:cD nFo pFo (aB fk):=⟨rfl,rfl,rfl,by decide +kernel,rfl,by decide +kernel,by decide +kernel⟩
def Az (bs qs:List Str) (n:Nat):Sp:=fun vs H Q _=>∃ (p lb lq:ae) (d:Nat),vs=[.ref p,.ref lb,.ref lq,.int d]/\d < n/\dD H p/\H lb=some (.lst (bs.map V.str))/\H lq=some (.lst (qs.map V.str))/\bs.length<=9/\qs.length<=9 /\
  ∀ (v:V) (F:Fm) (H':Hp),iu bs qs H' v F->F.depth<=d + 1->dD H' p->But p H H'->Q v H'
def t6:List Str:=["plus","less","times","part","rest","below","same"]
theorem AA {r:Int} (h0:0<=r) (h1:r < 7):∃ x,atI (t6.map V.str) r=some (.str x)/\x∈qT:=by
  obtain ⟨x,hx,m⟩:=ko (bs:=t6) h0 h1
  refine ⟨x,hx,?_⟩
  have:∀ y∈t6,y∈qT:=by decide +kernel
  exact this x m
theorem BU {n:Nat} (D:Df K mg "_law_formula" fk pFo f fd) (DL:Df K mg "_law_leaf" gC ["_law_purse_here","_law_boxes","_law_queues"] fL fdL) (DD:Df K mg "_law_draw" eE ["_law_purse_here","_law_out_of"] fD fdD) (B:Bl mg) (GR:bZ P w K mg base CX0 (n + 3) f fd pFo (Az bs qs n)) :
    bZ P w K mg base CX0 (n + 4) f fd pFo (Az bs qs (n + 1)):=by
  have GD:bZ P w K mg base CX0 1 fD fdD ["_law_purse_here","_law_out_of"] jE:=jH DD
  have GL:bZ P w K mg base CX0 2 fL fdL ["_law_purse_here","_law_boxes","_law_queues"] (BS bs qs):=C1 DL DD B
  refine D.F.ok EA (fun vs H Q E h=>?_) (fun cdv A outer s H vs Q E hr h=>?_)
  · obtain ⟨p,lb,lq,d,rfl,_⟩:=h
    rfl
  obtain ⟨p,lb,lq,d,rfl,dn,pu,hb,hq,lbs,lqs,k⟩:=h
  have r1:eN 1 _:=hr.mono (by omega)
  have r2:eN 2 _:=hr.mono (by omega)
  refine ⟨_,ah (cK ((kH (bE di (pv 3) ag (bM _)) (j8 (bE kK (aN GD r1 (by rfl) DD.m DD.F.kp DD.b .nil bR (aT (pv 0) (cX ag ak))) ag (bM _)))).pt) (au (bD (aN GL r2 (by rfl) DL.m DL.F.kp DL.b .nil bR (aT (pv 0) (aT (pv 1) (aT (pv 2) ak)))))) bH)
    (ah (bF (i:=4) EA.nd rfl (Or.inl rfl) (aP bT (el (cX bN (cX bN (cX bN (cX bN (cX bN (cX bN (cX bN ak)))))))) (aN GD r1 (by rfl) DD.m DD.F.kp DD.b .nil bR (aT (pv 0) (cX ag ak))) (fun _ _=>rfl)))
    (ah (bF (i:=5) EA.nd rfl (Or.inl rfl) (aN GR hr (by rfl) D.m D.F.kp D.b .nil bR (aT (pv 0) (aT (pv 1) (aT (pv 2) (kE (cJ gK (pv 3) ag) ak))))))
    (au (bD (eO (aT (pv 4) (aT (pv 5) (iU (aN GR hr (by rfl) D.m D.F.kp D.b .nil bR (aT (pv 0) (aT (pv 1) (aT (pv 2) (kE (cJ gK (pv 3) ag) ak))))) ak)))))))),?_⟩
  have big:=eM
  have leaf:∀ {G:Hp},dD G p->But p H G->BS bs qs [.ref p,.ref lb,.ref lq] G Q E0:=fun {G} puG bG=>⟨p,lb,lq,rfl,puG,bG _ _ hb (gi pu hb),bG _ _ hq (gi pu hq),lbs,lqs,fun v F H' hF hd pu' b'=>k v F H' hF (by omega) pu' (bG.trans b')⟩
  refine aO (C0 ?_)
  refine ⟨_,rfl,rfl,_,rfl,?_⟩
  refine gH (fun c=>?_) (fun c=>?_)
  · exact eC ⟨_,rfl,_,rfl,_,rfl,leaf pu (But.refl _ _)⟩
  have d0:¬ d=0:=fun z=>c (by rw [z]; rfl)
  refine ⟨_,rfl,p,3,rfl,pu,by decide,by decide,fun r G r0 r1' puG bG=>⟨_,_,rfl,rfl,_,rfl,?_⟩⟩
  refine gH (fun _=>?_) (fun _=>?_)
  · exact ⟨_,rfl,_,rfl,_,rfl,leaf puG bG⟩
  have hbG:=bG _ _ hb (gi pu hb)
  have hqG:=bG _ _ hq (gi pu hq)
  refine cS ?_
  dsimp only
  refine aO (cN ?_)
  refine ⟨by show 7<=aE; omega,fun l hl=>?_⟩
  have sl:=aM hl (.lst (t6.map V.str))
  refine ⟨_,rfl,p,7,rfl,puG.same sl,by decide,by decide,fun r2 G2 r20 r21 pu2 b2=>?_⟩
  obtain ⟨x,hx,mx⟩:=AA r20 r21
  have b02:But p H G2:=(bG.same sl).trans b2
  refine ⟨l,_,_,_,rfl,rfl,SqL.of (b2 _ _ ao (gi (puG.same sl) ao)),hx,?_⟩
  refine aZ ?_
  dsimp only
  refine aO (cN ?_)
  have em:(d:Int) - 1=((d - 1:Nat):Int):=by omega
  refine ⟨_,rfl,_,rfl,_,rfl,_,rfl,_,_,rfl,rfl,p,lb,lq,d - 1,(by show [V.ref p,V.ref lb,V.ref lq,V.int ((d:Int) - 1)]=_; rw [em]),by omega,pu2,b02 _ _ hb (gi pu hb),b02 _ _ hq (gi pu hq),lbs,lqs,fun v1 F1 G3 hF1 d1 pu3 b3=>?_⟩
  refine aZ ?_
  dsimp only
  have b03:=b02.trans b3
  refine qX (tup_i ?_)
  refine ⟨_,rfl,_,rfl,_,rfl,_,rfl,_,rfl,_,rfl,_,_,rfl,rfl,p,lb,lq,d - 1,(by show [V.ref p,V.ref lb,V.ref lq,V.int ((d:Int) - 1)]=_; rw [em]),by omega,pu3,b03 _ _ hb (gi pu hb),b03 _ _ hq (gi pu hq),lbs,lqs,fun v2 F2 G4 hF2 d2 pu4 b4=>⟨by show 3<=aE; omega,fun t ht=>?_⟩⟩
  have st_:=aM ht (.tup [.str x,v1,v2])
  exact k _ (.two x F1 F2) _ (.two ao mx ((hF1.but pu3 b4).same st_) (hF2.same st_)) (by show max F1.depth F2.depth + 1<=d + 1; omega) (pu4.same st_) ((b03.trans b4).same st_)
theorem AB (D:Df K mg "_law_formula" fk pFo f fd) (DL:Df K mg "_law_leaf" gC ["_law_purse_here","_law_boxes","_law_queues"] fL fdL) (DD:Df K mg "_law_draw" eE ["_law_purse_here","_law_out_of"] fD fdD) (B:Bl mg):∀ n:Nat,bZ P w K mg base CX0 (n + 3) f fd pFo (Az bs qs n)
  | 0=>⟨fun vs H Q E h=>by
      obtain ⟨p,lb,lq,d,_,h,_⟩:=h
      omega,fun A outer s H args us vs Q E _ _ _ _ h=>by
      obtain ⟨p,lb,lq,d,_,h,_⟩:=h
      omega⟩
  | n + 1=>BU D DL DD B (AB D DL DD B n)
end
end My
namespace My
open PySem L2
def Tk (H H':Hp):Prop:=∀ (t:ae) (xs:List V),H t=some (.tup xs)->H' t=some (.tup xs)
def Nk (H H' H2:Hp):Prop:=∀ (l:ae) (xs:List V),H l=none->vi (.lst xs)->H' l=some (.lst xs)->H2 l=some (.lst xs)
def OwD (bs qs:List Str) (H H':Hp) (d:Dd) (v:V):Prop:=∀ H2,Tk H' H2->Nk H H' H2->dZ bs qs H2 d v
def OwS (bs qs:List Str) (H H':Hp) (d:Ds) (vs:List V):Prop:=∀ H2,Tk H' H2->Nk H H' H2->eA bs qs H2 d vs
theorem Tk.refl (H:Hp):Tk H H:=fun _ _ e=>e
theorem Nk.refl (H H':Hp):Nk H H' H':=fun _ _ _ _ e=>e
theorem OwS.now {bs qs:List Str} {H H':Hp} {d:Ds} {v:List V} (h:OwS bs qs H H' d v):eA bs qs H' d v:=h H' (Tk.refl _) (Nk.refl _ _)
theorem eV.tk {H H':Hp} (k:eV H H'):Tk H H':=fun t xs e=>k _ _ e (pE xs)
theorem eV.nk {H H1 H' H2:Hp} (k:eV H' H1) (n:Nk H H1 H2):Nk H H' H2:=fun l xs h i e=>n l xs h i (k _ _ e i)
theorem OwS.keepI {bs qs:List Str} {H H' H1:Hp} {d:Ds} {v:List V} (h:OwS bs qs H H' d v) (k:eV H' H1):OwS bs qs H H1 d v:=fun H2 t n=>h H2 (fun a xs e=>t a xs (k.tk a xs e)) (k.nk n)
def Dm (H G:Hp):Prop:=∀ a,G a=none->H a=none
theorem Dm.same {H G:Hp} (s:cF H G):Dm H G:=fun a n=>none_of s n
theorem Dm.trans {H G G':Hp} (a:Dm H G) (b:Dm G G'):Dm H G':=fun x n=>a x (b x n)
theorem OwD.base {bs qs:List Str} {H H0 H':Hp} {d:Dd} {v:V} (h:OwD bs qs H H' d v) (s:Dm H0 H):OwD bs qs H0 H' d v:=fun H2 t n=>h H2 t fun l xs hl i e=>n l xs (s l hl) i e
theorem OwS.base {bs qs:List Str} {H H0 H':Hp} {d:Ds} {v:List V} (h:OwS bs qs H H' d v) (s:Dm H0 H):OwS bs qs H0 H' d v:=fun H2 t n=>h H2 t fun l xs hl i e=>n l xs (s l hl) i e
theorem OwD.old {bs qs:List Str} {H H':Hp} {d:Dd} {v:V} {a:ae} {o:HO} (h:OwD bs qs H H' d v) (ol:H a≠none) (nt:∀ xs,H' a≠some (.tup xs)):OwD bs qs H (upd H' a o) d v:=fun H2 t n=>h H2 (fun b xs e=>t b xs (by rw [aY (fun z=>nt xs (by rw [<- z]; exact e))]; exact e)) fun l xs hl i e=>n l xs hl i (by rw [aY (fun z=>ol (by rw [<- z]; exact hl))]; exact e)
theorem OwS.old {bs qs:List Str} {H H':Hp} {d:Ds} {v:List V} {a:ae} {o:HO} (h:OwS bs qs H H' d v) (ol:H a≠none) (nt:∀ xs,H' a≠some (.tup xs)):OwS bs qs H (upd H' a o) d v:=fun H2 t n=>h H2 (fun b xs e=>t b xs (by rw [aY (fun z=>nt xs (by rw [<- z]; exact e))]; exact e)) fun l xs hl i e=>n l xs hl i (by rw [aY (fun z=>ol (by rw [<- z]; exact hl))]; exact e)
theorem FmI.tk {bs qs:List Str} {H H2:Hp} {v:V} {F:Fm} (h:FmI bs qs H v F) (t:Tk H H2):FmI bs qs H2 v F:=⟨h.1.mono t,h.2⟩
section
variable {bs qs:List Str} {H H':Hp} {t:ae} {u u1 u2:V} {F F1 F2:Fm} {x q:Str}
theorem EB (h:H' t=some (.tup [.str "put",.str x,u])) (m:x∈bs) (f:FmI bs qs H' u F):OwD bs qs H H' (.put x F) (.ref t):=fun H2 k _=>by simp only [dZ]; exact ⟨t,u,rfl,k _ _ h,m,f.tk k⟩
theorem BV (h:H' t=some (.tup [.str "push",.str q,u])) (m:q∈qs) (f:FmI bs qs H' u F):OwD bs qs H H' (.push q F) (.ref t):=fun H2 k _=>by simp only [dZ]; exact ⟨t,u,rfl,k _ _ h,m,f.tk k⟩
theorem BX (h:H' t=some (.tup [.str "draw",.str x,u])) (m:x∈bs) (f:FmI bs qs H' u F):OwD bs qs H H' (.draw x F) (.ref t):=fun H2 k _=>by simp only [dZ]; exact ⟨t,u,rfl,k _ _ h,m,f.tk k⟩
theorem EC (h:H' t=some (.tup [.str "end"])):OwD bs qs H H' .fin (.ref t):=fun H2 k _=>by simp only [dZ]; exact ⟨t,rfl,k _ _ h⟩
theorem BY {to rk:Int} {sg:Str} (h:H' t=some (.tup [.str "send",.int to,.str sg,u,.int rk,u1,u2])) (f:FmI bs qs H' u F) (f1:FmI bs qs H' u1 F1) (f2:FmI bs qs H' u2 F2):OwD bs qs H H' (.send to sg F rk F1 F2) (.ref t):=fun H2 k _=>by simp only [dZ]; exact ⟨t,u,u1,u2,rfl,k _ _ h,f.tk k,f1.tk k,f2.tk k⟩
theorem BZ {l:ae} {xs:List V} {d:Ds} (h:H' t=some (.tup [.str "pull",.str q,.str x,.ref l])) (mq:q∈qs) (mx:x∈bs) (hl:H l=none) (e:H' l=some (.lst xs)) (z:xs.length < 1000) (D:OwS bs qs H H' d xs):OwD bs qs H H' (.pull q x d) (.ref t):=fun H2 k n=>by
  simp only [dZ]
  exact ⟨t,.ref l,rfl,k _ _ h,mq,mx,l,xs,rfl,n l xs hl D.now.ni e,z,D H2 k n⟩
theorem ED {l l':ae} {xs ys:List V} {d d':Ds} (h:H' t=some (.tup [.str "if",u,.ref l,.ref l'])) (f:FmI bs qs H' u F) (hl:H l=none) (e:H' l=some (.lst xs)) (z:xs.length < 1000) (D:OwS bs qs H H' d xs) (hl':H l'=none) (e':H' l'=some (.lst ys)) (z':ys.length < 1000) (D':OwS bs qs H H' d' ys):OwD bs qs H H' (.ife F d d') (.ref t):=fun H2 k n=>by
  simp only [dZ]
  exact ⟨t,u,.ref l,.ref l',rfl,k _ _ h,f.tk k,⟨l,xs,rfl,n l xs hl D.now.ni e,z,D H2 k n⟩,l',ys,rfl,n l' ys hl' D'.now.ni e',z',D' H2 k n⟩
theorem B0:OwS bs qs H H' .nil []:=fun _ _ _=>by simp only [eA]
end
end My
namespace My
open PySem L2
theorem wW {X:Cx} {st:dU} {t:TS} (t':TS) (h:PS X st t) (k:∀ D σ H,t' D σ H->t D σ H):PS X st t':=fun pins s σ H D I q=>h pins s σ H D I (k D σ H q)
theorem yR {n:Int} (h:-1000000<=n/\n<=1000000):Wo n:=by
  have e:(10:Int) ^ 15=1000000000000000:=by decide
  unfold Wo
  omega
structure Nms (H:Hp) (lb lq ls:ae) (bs qs sgs:List Str):Prop where
  hb:H lb=some (.lst (bs.map V.str))
  hq:H lq=some (.lst (qs.map V.str))
  hs:H ls=some (.lst (sgs.map V.str))
  lb9:bs.length<=9
  lq9:qs.length<=9
  ls9:sgs.length<=9
  ne:0 < sgs.length
theorem Nms.keepI {H H':Hp} {lb lq ls:ae} {bs qs sgs:List Str} (k:eV H H') (h:Nms H lb lq ls bs qs sgs):Nms H' lb lq ls bs qs sgs:=
  ⟨k _ _ h.hb (t5 _),k _ _ h.hq (t5 _),k _ _ h.hs (t5 _),h.lb9,h.lq9,h.ls9,h.ne⟩
def spanT (bs qs:List Str):TS:=fun D σ H=>∃ (p lb lq:ae) (v0:V) (F0:Fm),σ[0]?=some (some (.ref p))/\σ[1]?=some (some (.ref lb))/\σ[2]?=some (some (.ref lq))/\σ[5]?=some (some v0)/\dD H p/\H lb=some (.lst (bs.map V.str))/\H lq=some (.lst (qs.map V.str))/\bs.length<=9/\qs.length<=9/\iu bs qs H v0 F0/\F0.depth<=2 /\
  ∀ (v:V) (F:Fm) (H':Hp),iu bs qs H' v F->F.depth<=2->dD H' p->But p H H'->D.nx (σ.set 5 (some v)) H'
theorem yS {α:Type} {xs:List α} {i:Nat} {x:α} (h:xs[i]?=some x):xs.set i x=xs:=by
  obtain ⟨lt,e⟩:=aL.mp h
  rw [<- e]
  exact List.set_getElem_self lt
def endT:TS:=fun D σ H=>∃ (p:ae) (w:Int),σ[0]?=some (some (.ref p))/\σ[7]?=some (some (.int w))/\dD H p/\(∀ (H':Hp) (t:ae),dD H' p->But p H H'->H' t=none->D.rt (.ref t) (upd H' t (.tup [.str "end"])))/\∀ H',dD H' p->But p H H'->D.nx σ H'
section
variable {P:aX} {w:cz} {K:aj} {mg:Str->Option af} {base:cR} {f fD fL fF fS fE f1:ae} {fd fdD fdL fdF fdS fdE fd1:cH} {bs qs sgs:List Str}
seal L2.PS L2.PSs L2.PE L2.PA L2.PT L2.PW L2.PI L2.PG L2.PGs L2.PC
abbrev nSnd:List Str:=["_law_purse_here","_law_boxes","_law_queues","_law_signs_here","_law_many","_law_span","_law_rank","_law_one","_law_other"]
abbrev yT:List Str:=["_law_purse_here","_law_boxes","_law_queues","_law_signs_here","_law_many"]
theorem sV:cD nSnd yT (aB iR):=⟨rfl,rfl,rfl,by decide +kernel,rfl,by decide +kernel,by decide +kernel⟩
def C2 (bs qs sgs:List Str):Sp:=fun vs H Q _=>∃ (p lb lq ls:ae) (m:Int),vs=[.ref p,.ref lb,.ref lq,.ref ls,.int m]/\dD H p/\Nms H lb lq ls bs qs sgs/\0 < m/\m < 1000 /\
  ∀ (v:V) (d:Dd) (H':Hp),OwD bs qs H H' d v->d.toOk m->d.deep=0->d.size=1->dD H' p->But p H H'->Q v H'
theorem EE (D:Df K mg "_law_send" iR yT f fd) (DF:Df K mg "_law_formula" fk pFo fF fdF) (DL:Df K mg "_law_leaf" gC ["_law_purse_here","_law_boxes","_law_queues"] fL fdL) (DD:Df K mg "_law_draw" eE ["_law_purse_here","_law_out_of"] fD fdD) (B:Bl mg):bZ P w K mg base CX0 6 f fd yT (C2 bs qs sgs):=by
  have GD:bZ P w K mg base CX0 1 fD fdD ["_law_purse_here","_law_out_of"] jE:=jH DD
  have GL:bZ P w K mg base CX0 2 fL fdL ["_law_purse_here","_law_boxes","_law_queues"] (BS bs qs):=C1 DL DD B
  have GF:bZ P w K mg base CX0 5 fF fdF pFo (Az bs qs 2):=AB DF DL DD B 2
  refine D.F.ok sV (fun vs H Q E h=>?_) (fun cdv A outer s H vs Q E rF h=>?_)
  · obtain ⟨p,lb,lq,ls,m,rfl,_⟩:=h
    rfl
  obtain ⟨p,lb,lq,ls,m,rfl,pu,N,m0,m1,k⟩:=h
  have r1:eN 1 _:=rF.mono (by omega)
  have r2:eN 2 _:=rF.mono (by omega)
  refine ⟨_,ah (bF (i:=5) sV.nd rfl (Or.inl rfl) (eO (cX bN (kE (cJ fZ ag (aN GD r1 (by rfl) DD.m DD.F.kp DD.b .nil bR (aT (pv 0) (cX ag ak)))) ak))))
    (ah (wW (spanT bs qs) (cK (bE di (aN GD r1 (by rfl) DD.m DD.F.kp DD.b .nil bR (aT (pv 0) (cX ag ak))) ag (bM _)) (au (bF (i:=5) sV.nd rfl (Or.inl rfl) (aN GF rF (by rfl) DF.m DF.F.kp DF.b .nil bR (aT (pv 0) (aT (pv 1) (aT (pv 2) (cX ag ak))))))) bH) (fun D σ H q=>by
      obtain ⟨p,lb,lq,v0,F0,h0,h1,h2,h5,pu,hb,hq,lb9,lq9,hF,dF,k⟩:=q
      refine ⟨_,h0,p,8,rfl,pu,by decide,by decide,fun r G r0 r1' puG bG=>⟨rfl,_,rfl,?_⟩⟩
      refine gH (fun _=>?_) (fun _=>?_)
      · exact ⟨_,h0,_,h1,_,h2,p,lb,lq,1,rfl,by decide,puG,bG _ _ hb (gi pu hb),bG _ _ hq (gi pu hq),lb9,lq9,fun v F H' hF' dF' pu' b'=>k v F H' hF' dF' pu' (bG.trans b')⟩
      · have z:=k v0 F0 G (hF.but pu bG) dF puG bG
        rw [yS h5] at z
        exact z))
    (ah (bF (i:=6) sV.nd rfl (Or.inl rfl) (aP bT (el (cX ag (cX ag (iU (aN GD r1 (by rfl) DD.m DD.F.kp DD.b .nil bR (aT (pv 0) (cX ag ak))) ak)))) (aN GD r1 (by rfl) DD.m DD.F.kp DD.b .nil bR (aT (pv 0) (cX ag ak))) (fun _ _=>rfl)))
    (ah (bF (i:=7) sV.nd rfl (Or.inl rfl) (aN GF rF (by rfl) DF.m DF.F.kp DF.b .nil bR (aT (pv 0) (aT (pv 1) (aT (pv 2) (cX ag ak))))))
    (ah (bF (i:=8) sV.nd rfl (Or.inl rfl) (aN GL r2 (by rfl) DL.m DL.F.kp DL.b .nil bR (aT (pv 0) (aT (pv 1) (aT (pv 2) ak)))))
    (au (bD (eO (cX bN (iU (aN GD r1 (by rfl) DD.m DD.F.kp DD.b .nil bR (aT (pv 0) (aT (pv 4) ak))) (ig (aP bT (pv 3) (aN GD r1 (by rfl) DD.m DD.F.kp DD.b .nil bR (aT (pv 0) (iU (cu (dS K (by rfl)) (by rfl) B.len cw (aT (pv 3) ak)) ak))) (fun _ _=>rfl)) (aT (pv 5) (aT (pv 6) (aT (pv 7) (aT (pv 8) ak)))))))))))))),?_⟩
  have big:=eM
  refine aO (cN ?_)
  refine ⟨_,rfl,p,4,rfl,pu,by decide,by decide,fun x G x0 x1 puG bG=>⟨_,_,rfl,rfl,lt2,fun t ht=>?_⟩⟩
  have st_:=aM ht (.tup [.str "number",.int (1 + x)])
  refine aZ ?_
  dsimp only
  have kG:=(eV.but pu bG).trans (eV.same st_)
  have NG:=N.keepI kG
  refine aO ?_
  refine ⟨p,lb,lq,.ref t,.num (1 + x),rfl,rfl,rfl,rfl,puG.same st_,NG.hb,NG.hq,N.lb9,N.lq9,.num ao (yR ⟨by omega,by omega⟩),by show 1<=2; decide,fun v5 F5 G1 hF5 d5 pu1 b1=>?_⟩
  dsimp only
  have b01:But p H G1:=(bG.same st_).trans b1
  have N1:=N.keepI (eV.but pu b01)
  refine aO (cN ?_)
  refine ⟨_,rfl,p,10,rfl,pu1,by decide,by decide,fun y G2 y0 y1 pu2 b2=>⟨by show 3<=aE; omega,fun l hl=>?_⟩⟩
  have sl:=aM hl (.lst [.int 0,.int 1,.int y])
  have nlp:l≠p:=by
    obtain ⟨a,b,e⟩:=pu2
    exact (aJ e hl).symm
  refine ⟨_,rfl,p,3,rfl,pu2.same sl,by decide,by decide,fun z G3 z0 z1 pu3 b3=>?_⟩
  obtain ⟨rk,hrk⟩:∃ rk:Int,atI [V.int 0,.int 1,.int y] z=some (.int rk):=by
    obtain ⟨j,rfl⟩:∃ j:Nat,z=(j:Int):=⟨z.toNat,by omega⟩
    match j,z1 with
    | 0,_=>exact ⟨0,rfl⟩
    | 1,_=>exact ⟨1,rfl⟩
    | 2,_=>exact ⟨y,rfl⟩
    | j + 3,h=>exact absurd h (by omega)
  refine ⟨l,_,_,_,rfl,rfl,SqL.of (b3 _ _ ao nlp),hrk,?_⟩
  refine aZ ?_
  dsimp only
  have b03:But p H G3:=((b01.trans b2).same sl).trans b3
  have b13:But p G1 G3:=(b2.same sl).trans b3
  have N3:=N.keepI (eV.but pu b03)
  refine aO (cN ?_)
  refine ⟨_,rfl,_,rfl,_,rfl,p,lb,lq,1,rfl,by decide,pu3,N3.hb,N3.hq,N.lb9,N.lq9,fun v7 F7 G4 hF7 d7 pu4 b4=>?_⟩
  refine aZ ?_
  dsimp only
  have b04:=b03.trans b4
  have N4:=N.keepI (eV.but pu b04)
  refine aO (cN ?_)
  refine ⟨_,rfl,_,rfl,_,rfl,p,lb,lq,rfl,pu4,N4.hb,N4.hq,N.lb9,N.lq9,fun v8 F8 G5 hF8 d8 pu5 b5=>?_⟩
  refine aZ ?_
  dsimp only
  have b05:=b04.trans b5
  have N5:=N.keepI (eV.but pu b05)
  refine ⟨_,rfl,_,rfl,p,m,rfl,pu5,m0,by omega,fun to G6 to0 to1 pu6 b6=>?_⟩
  have N6:=N5.keepI (eV.but pu5 b6)
  refine ⟨_,rfl,_,rfl,_,rfl,ls,_,rfl,.inl (SqL.of N6.hs),p,_,rfl,pu6,by rw [ai]; have:=N.ne; omega,by rw [ai]; have:=N.ls9; omega,fun r G7 r0 r1' pu7 b7=>?_⟩
  rw [ai] at r1'
  obtain ⟨sg,hsg,_⟩:=ko r0 r1'
  have N7:=N6.keepI (eV.but pu6 b7)
  refine ⟨ls,_,_,_,rfl,rfl,SqL.of N7.hs,hsg,_,rfl,_,rfl,_,rfl,_,rfl,by show 7<=aE; omega,fun tt htt=>?_⟩
  have stt:=aM htt (.tup [.str "send",.int to,.str sg,v5,.int rk,v7,v8])
  have b57:But p G5 G7:=b6.trans b7
  have f5:=(((hF5.but pu1 b13).but pu3 (b4.trans b5)).but pu5 b57).same stt
  have f7:=((hF7.but pu4 b5).but pu5 b57).same stt
  have f8:=(hF8.but pu5 b57).same stt
  refine k _ (.send to sg F5 rk F7 F8) _ ?_ ⟨to0,to1⟩ rfl rfl (pu7.same stt) ((b05.trans b57).same stt)
  exact BY ao ⟨f5,by omega⟩ ⟨f7,by omega⟩ ⟨f8,by omega⟩
def ddz:Nat->Nat
  | 0=>1
  | n + 1=>1 + 6 * ddz n
abbrev pDe:List Str:=["_law_purse_here","_law_boxes","_law_queues","_law_signs_here","_law_many","_law_left","_law_deep"]
abbrev nDe:List Str:=["_law_purse_here","_law_boxes","_law_queues","_law_signs_here","_law_many","_law_left","_law_deep","_law_way","_law_ones","_law_others","_law_queue","_law_box"]
abbrev nDs:List Str:=["_law_purse_here","_law_boxes","_law_queues","_law_signs_here","_law_many","_law_left","_law_deep","_law_deeds_here","_law_k"]
theorem q5:cD nDe pDe (aB iS):=⟨rfl,rfl,rfl,by decide +kernel,rfl,by decide +kernel,by decide +kernel⟩
theorem AC:cD nDs pDe (aB gS):=⟨rfl,rfl,rfl,by decide +kernel,rfl,by decide +kernel,by decide +kernel⟩
structure Lf (H:Hp) (p lf:ae):Prop where
  pu:dD H p
  hl:∃ k:Int,H lf=some (.lst [.int k])
theorem Lf.int {H:Hp} {p lf:ae} (h:Lf H p lf):∀ a∈[p,lf],∃ (i:Int) (r:List V),H a=some (.lst (.int i :: r)):=fun a m=>by
  obtain ⟨x,y,e⟩:=h.pu
  obtain ⟨z,e'⟩:=h.hl
  rcases az.mp m with rfl | m
  · exact ⟨x,_,e⟩
  · rw [aQ.mp m]
    exact ⟨z,_,e'⟩
theorem Lf.ne {H:Hp} {p lf:ae} (h:Lf H p lf):lf≠p:=by
  obtain ⟨x,y,e⟩:=h.pu
  obtain ⟨z,e'⟩:=h.hl
  exact gJ e' e (by intro q; cases q)
theorem Lf.but {H H':Hp} {p lf:ae} (h:Lf H p lf) (b:But p H H') (pu:dD H' p):Lf H' p lf:=by
  obtain ⟨z,e'⟩:=h.hl
  exact ⟨pu,z,b _ _ e' h.ne⟩
theorem Lf.same {H H':Hp} {p lf:ae} (h:Lf H p lf) (s:cF H H'):Lf H' p lf:=by
  obtain ⟨z,e'⟩:=h.hl
  exact ⟨h.pu.same s,z,s _ _ e'⟩
def spDe (bs qs sgs:List Str) (n:Nat):Sp:=fun vs H Q _=>∃ (p lb lq ls lf:ae) (m:Int) (d:Nat),vs=[.ref p,.ref lb,.ref lq,.ref ls,.int m,.ref lf,.int d]/\d < n/\Lf H p lf/\Nms H lb lq ls bs qs sgs/\0 < m/\m < 1000 /\
  ∀ (v:V) (dd:Dd) (H':Hp),OwD bs qs H H' dd v->dd.toOk m->dd.deep<=d->dd.size<=ddz d->Lf H' p lf->Kp [p,lf] H H'->Q v H'
def AD (bs qs sgs:List Str) (n:Nat):Sp:=fun vs H Q _=>∃ (p lb lq ls lf:ae) (m:Int) (d:Nat),vs=[.ref p,.ref lb,.ref lq,.ref ls,.int m,.ref lf,.int d]/\d < n/\Lf H p lf/\Nms H lb lq ls bs qs sgs/\0 < m/\m < 1000 /\
  ∀ (l:ae) (xs:List V) (ds:Ds) (H':Hp),H l=none->H' l=some (.lst xs)->xs.length < 1000->OwS bs qs H H' ds xs->ds.toOk m->ds.deep<=d->ds.size<=3 * ddz d->Lf H' p lf->Kp [p,lf] H H'->Q (.ref l) H'
def mY:Ds->Dd->Ds
  | .nil,d=>.cons d .nil
  | .cons a r,d=>.cons a (mY r d)
theorem xT {bs qs:List Str} {H:Hp} {d:Dd} {v:V} (hd:dZ bs qs H d v):∀ (ds:Ds) (xs:List V),eA bs qs H ds xs->eA bs qs H (mY ds d) (xs++[v])
  | .nil,xs,h=>by
    have e:xs=[]:=by simpa only [eA] using h
    subst e
    unfold mY
    simp only [eA]
    exact ⟨v,[],rfl,hd,rfl⟩
  | .cons a r,xs,h=>by
    obtain ⟨u,ur,rfl,h1,h2⟩:=(by simpa only [eA] using h)
    unfold mY
    simp only [eA]
    exact ⟨u,ur++[v],rfl,h1,xT hd r ur h2⟩
theorem xU {m:Int} {d:Dd} (hd:d.toOk m):∀ ds:Ds,ds.toOk m->(mY ds d).toOk m
  | .nil,_=>⟨hd,trivial⟩
  | .cons a r,h=>⟨h.1,xU hd r h.2⟩
theorem sW (d:Dd):∀ ds:Ds,(mY ds d).deep=max ds.deep d.deep
  | .nil=>by
    show max d.deep 0=max 0 d.deep
    exact Nat.max_comm _ _
  | .cons a r=>by
    show max a.deep (mY r d).deep=max (max a.deep r.deep) d.deep
    rw [sW d r]
    exact (Nat.max_assoc _ _ _).symm
theorem sX (d:Dd):∀ ds:Ds,(mY ds d).size=ds.size + d.size
  | .nil=>by
    show d.size + 0=0 + d.size
    omega
  | .cons a r=>by
    show a.size + (mY r d).size=a.size + r.size + d.size
    rw [sX d r]
    omega
end
end My
namespace My
open PySem L2
theorem AE {bs qs:List Str} {H H':Hp} {ds:Ds} {xs:List V} {d:Dd} {v:V} (a:OwS bs qs H H' ds xs) (b:OwD bs qs H H' d v):OwS bs qs H H' (mY ds d) (xs++[v]):=fun H2 k n=>xT (b H2 k n) ds xs (a H2 k n)
theorem B1:∀ n,1<=ddz n
  | 0=>aS _
  | n + 1=>by
    show 1<=1 + 6 * ddz n
    omega
theorem Kp.dm {own:List ae} {H G:Hp} (k:Kp own H G) (h:∀ a∈own,∃ o,G a=some o):Dm H G:=fun a n=>by
  cases e:H a with
  | none=>rfl
  | some o =>
    by_cases m:a∈own
    · obtain ⟨u,q⟩:=h a m
      rw [q] at n
      cases n
    · rw [k a o e m] at n
      cases n
theorem Lf.there {H:Hp} {p lf:ae} (h:Lf H p lf):∀ a∈[p,lf],∃ o,H a=some o:=fun a m=>by
  obtain ⟨i,r,e⟩:=h.int a m
  exact ⟨_,e⟩
section
variable {P:aX} {w:cz} {K:aj} {mg:Str->Option af} {base:cR} {f fD fL fF fS fE f1:ae} {fd fdD fdL fdF fdS fdE fd1:cH} {bs qs sgs:List Str}
seal L2.PS L2.PSs L2.PE L2.PA L2.PT L2.PW L2.PI L2.PG L2.PGs L2.PC
theorem B2 {n kk:Nat} (hk:7<=kk) (D:Df K mg "_law_deed" iS pDe f fd) (DS:Df K mg "_law_deeds" gS pDe fS fdS) (GS:bZ P w K mg base CX0 kk fS fdS pDe (AD bs qs sgs n)) (DE:Df K mg "_law_send" iR yT fE fdE) (DF:Df K mg "_law_formula" fk pFo fF fdF) (DL:Df K mg "_law_leaf" gC ["_law_purse_here","_law_boxes","_law_queues"] fL fdL) (DD:Df K mg "_law_draw" eE ["_law_purse_here","_law_out_of"] fD fdD) (B:Bl mg) :
    bZ P w K mg base CX0 (kk + 1) f fd pDe (spDe bs qs sgs (n + 1)):=by
  have GD:bZ P w K mg base CX0 1 fD fdD ["_law_purse_here","_law_out_of"] jE:=jH DD
  have GF:bZ P w K mg base CX0 7 fF fdF pFo (Az bs qs 4):=AB DF DL DD B 4
  have GE:bZ P w K mg base CX0 6 fE fdE yT (C2 bs qs sgs):=EE DE DF DL DD B
  refine D.F.ok q5 (fun vs H Q E h=>?_) (fun cdv A outer s H vs Q E hr h=>?_)
  · obtain ⟨p,lb,lq,ls,lf,m,d,rfl,_⟩:=h
    rfl
  obtain ⟨p,lb,lq,ls,lf,m,d,rfl,dn,L,N,m0,m1,k⟩:=h
  have r1:eN 1 _:=hr.mono (by omega)
  have rF:eN 7 _:=hr.mono hk
  have rE:eN 6 _:=hr.mono (by omega)
  refine ⟨_,ah (bF (i:=7) q5.nd rfl (Or.inl rfl) (aN GD r1 (by rfl) DD.m DD.F.kp DD.b .nil bR (aT (pv 0) (cX ag ak))))
    (ah (cK ((mC (bE nK (pv 7) ag (bM _)) (kF (bE kK (pv 6) ag (bM _)))).pt) (ah (bF (i:=8) q5.nd rfl (Or.inl rfl) (aN GS hr (by rfl) DS.m DS.F.kp DS.b .nil bR (aT (pv 0) (aT (pv 1) (aT (pv 2) (aT (pv 3) (aT (pv 4) (aT (pv 5) (kE (cJ gK (pv 6) ag) ak)))))))))
    (ah (bF (i:=9) q5.nd rfl (Or.inl rfl) (aN GS hr (by rfl) DS.m DS.F.kp DS.b .nil bR (aT (pv 0) (aT (pv 1) (aT (pv 2) (aT (pv 3) (aT (pv 4) (aT (pv 5) (kE (cJ gK (pv 6) ag) ak)))))))))
    (au (bD (eO (cX bN (iU (aN GF rF (by rfl) DF.m DF.F.kp DF.b .nil bR (aT (pv 0) (aT (pv 1) (aT (pv 2) (cX ag ak))))) (aT (pv 8) (aT (pv 9) ak))))))))) bH)
    (ah (wW endT (cK ((mC (bE di (pv 7) ag (bM _)) (kF (bE di (aN GD r1 (by rfl) DD.m DD.F.kp DD.b .nil bR (aT (pv 0) (cX ag ak))) ag (bM _)))).pt) (au (bD (eO (cX bN ak)))) bH) (fun D σ H q=>by
      obtain ⟨p,w,h0,h7,pu,k1,k2⟩:=q
      refine ⟨_,h7,rfl,_,rfl,?_⟩
      refine gH (fun _=>?_) (fun _=>?_)
      · exact ⟨_,h0,p,6,rfl,pu,by decide,by decide,fun r G r0 r1' puG bG=>⟨rfl,_,rfl,gH (fun _=>⟨Ey,fun t ht=>k1 G t puG bG ht⟩) (fun _=>k2 G puG bG)⟩⟩
      · exact dY (k2 H pu (But.refl _ _))))
    (ah (cK ((mC (bE nK (pv 7) ag (bM _)) (kF (bE kK (cu (dS K (by rfl)) (by rfl) B.len cw (aT (pv 2) ak)) ag (bM _)))).pt) (ah (bF (i:=10) q5.nd rfl (Or.inl rfl) (aP bT (pv 2) (aN GD r1 (by rfl) DD.m DD.F.kp DD.b .nil bR (aT (pv 0) (iU (cu (dS K (by rfl)) (by rfl) B.len cw (aT (pv 2) ak)) ak))) (fun _ _=>rfl)))
    (ah (cK ((kH (bE di (pv 7) ag (bM _)) (kH (bE di (cu (dS K (by rfl)) (by rfl) B.len cw (aT (pv 1) ak)) ag (bM _)) (j8 (bE di (pv 6) ag (bM _))))).pt) (au (bD (eO (cX bN (aT (pv 10) (iU (aN GF rF (by rfl) DF.m DF.F.kp DF.b .nil bR (aT (pv 0) (aT (pv 1) (aT (pv 2) (cX ag ak))))) ak)))))) bH)
    (ah (bF (i:=11) q5.nd rfl (Or.inl rfl) (aP bT (pv 1) (aN GD r1 (by rfl) DD.m DD.F.kp DD.b .nil bR (aT (pv 0) (iU (cu (dS K (by rfl)) (by rfl) B.len cw (aT (pv 1) ak)) ak))) (fun _ _=>rfl)))
    (au (bD (eO (cX bN (aT (pv 10) (aT (pv 11) (iU (aN GS hr (by rfl) DS.m DS.F.kp DS.b .nil bR (aT (pv 0) (aT (pv 1) (aT (pv 2) (aT (pv 3) (aT (pv 4) (aT (pv 5) (kE (cJ gK (pv 6) ag) ak)))))))) ak)))))))))) bH)
    (ah (cK ((mC (bE nK (pv 7) ag (bM _)) (kF (bE kK (cu (dS K (by rfl)) (by rfl) B.len cw (aT (pv 1) ak)) ag (bM _)))).pt) (ah (bF (i:=11) q5.nd rfl (Or.inl rfl) (aP bT (pv 1) (aN GD r1 (by rfl) DD.m DD.F.kp DD.b .nil bR (aT (pv 0) (iU (cu (dS K (by rfl)) (by rfl) B.len cw (aT (pv 1) ak)) ak))) (fun _ _=>rfl)))
    (ah (cK (bE di (pv 7) ag (bM _)) (au (bD (eO (cX bN (aT (pv 11) (iU (aN GF rF (by rfl) DF.m DF.F.kp DF.b .nil bR (aT (pv 0) (aT (pv 1) (aT (pv 2) (cX ag ak))))) ak)))))) bH)
    (au (bD (eO (cX bN (aT (pv 11) (iU (aN GF rF (by rfl) DF.m DF.F.kp DF.b .nil bR (aT (pv 0) (aT (pv 1) (aT (pv 2) (cX ag ak))))) ak)))))))) bH)
    (au (bD (aN GE rE (by rfl) DE.m DE.F.kp DE.b .nil bR (aT (pv 0) (aT (pv 1) (aT (pv 2) (aT (pv 3) (aT (pv 4) ak)))))))))))),?_⟩
  have big:=eM
  have mp:p∈[p,lf]:=aA
  have dz:=B1 d
  refine aO (cN ?_)
  refine ⟨_,rfl,p,13,rfl,L.pu,by decide,by decide,fun way G w0 w1 puG bG=>?_⟩
  refine aZ ?_
  dsimp only
  have LG:=L.but bG puG
  have kG:Kp [p,lf] H G:=Kp.but bG mp
  have NG:=N.keepI (eV.but L.pu bG)
  have dmG:Dm H G:=kG.dm LG.there
  -- a tuple made of a formula's value
  refine aO ?_
  refine iw (Det.and (wV rfl) fun _=>Ez rfl) (fun c=>?_) (fun _=>?_)
  · have c2:=of_decide_eq_true (gf _ _ ▸ c).2
    obtain ⟨d',rfl⟩:∃ d',d=d' + 1:=⟨d - 1,by omega⟩
    have em:((d' + 1:Nat):Int) - 1=(d':Int):=by omega
    refine aO (cN ?_)
    refine ⟨_,rfl,_,rfl,_,rfl,_,rfl,_,rfl,_,rfl,_,rfl,_,_,rfl,rfl,p,lb,lq,ls,lf,m,d',(by show [V.ref p,V.ref lb,V.ref lq,V.ref ls,V.int m,V.ref lf,V.int (((d' + 1:Nat):Int) - 1)]=_; rw [em]),by omega,LG,NG,m0,m1,fun l1 xs1 ds1 G1 hl1 h1 len1 O1 t1 dp1 sz1 L1 k1=>?_⟩
    refine aZ ?_
    dsimp only
    have N1:=NG.keepI (k1.keepI LG.int)
    have dm1:Dm G G1:=k1.dm L1.there
    refine aO (cN ?_)
    refine ⟨_,rfl,_,rfl,_,rfl,_,rfl,_,rfl,_,rfl,_,rfl,_,_,rfl,rfl,p,lb,lq,ls,lf,m,d',(by show [V.ref p,V.ref lb,V.ref lq,V.ref ls,V.int m,V.ref lf,V.int (((d' + 1:Nat):Int) - 1)]=_; rw [em]),by omega,L1,N1,m0,m1,fun l2 xs2 ds2 G2 hl2 h2 len2 O2 t2 dp2 sz2 L2' k2=>?_⟩
    refine aZ ?_
    dsimp only
    have ki2:=k2.keepI L1.int
    have N2:=N1.keepI ki2
    refine ⟨_,rfl,_,rfl,_,rfl,p,lb,lq,2,rfl,by decide,L2'.pu,N2.hb,N2.hq,N.lb9,N.lq9,fun vf F G3 hF dF pu3 b3=>⟨_,rfl,_,rfl,by show 4<=aE; omega,fun t ht=>?_⟩⟩
    have st_:=aM ht (.tup [.str "if",vf,.ref l1,.ref l2])
    have k3:=(eV.but L2'.pu b3).trans (eV.same st_)
    refine k _ (.ife F ds1 ds2) _ (ED ao ⟨hF.same st_,by omega⟩ (dmG l1 hl1) (k3 _ _ (ki2 _ _ h1 O1.now.ni) O1.now.ni) len1 ((O1.base dmG).keepI (ki2.trans k3)) (dmG l2 (dm1 l2 hl2)) (k3 _ _ h2 O2.now.ni) len2 ((O2.base (dmG.trans dm1)).keepI k3)) ⟨t1,t2⟩ ?_ ?_ ((L2'.but b3 pu3).same st_) (((kG.trans k1).trans k2).trans ((Kp.but b3 mp).trans (Kp.same st_)))
    · show max ds1.deep ds2.deep + 1<=d' + 1
      omega
    · show ds1.size + ds2.size + 1<=1 + 6 * ddz d'
      omega
  refine cS ?_
  dsimp only
  refine aO ?_
  refine ⟨p,way,rfl,rfl,puG,fun H' t pu' b' ht=>?_,fun G1 pu1 b1=>?_⟩
  · have st_:=aM ht (.tup [.str "end"])
    exact k _ .fin _ (EC ao) trivial (bV _) dz ((LG.but b' pu').same st_) ((kG.trans (Kp.but b' mp)).trans (Kp.same st_))
  dsimp only
  have L1:=LG.but b1 pu1
  have k1:Kp [p,lf] H G1:=kG.trans (Kp.but b1 mp)
  have N1:=NG.keepI (eV.but puG b1)
  have dm1:Dm H G1:=k1.dm L1.there
  refine aO ?_
  refine iw (Det.and (wV rfl) fun _=>oH (K:=K) rfl N1.hq) (fun c=>?_) (fun _=>?_)
  · have c2:=of_decide_eq_true (gf _ _ ▸ c).2
    rw [ai] at c2
    have:=N.lq9
    refine aO (cN ?_)
    refine ⟨_,rfl,_,rfl,_,rfl,lq,_,rfl,.inl (SqL.of N1.hq),p,_,rfl,pu1,by rw [ai]; omega,by rw [ai]; omega,fun r G2 r0 r1' pu2 b2=>?_⟩
    rw [ai] at r1'
    obtain ⟨q,hq,mq⟩:=ko r0 r1'
    have N2:=N1.keepI (eV.but pu1 b2)
    have L2':=L1.but b2 pu2
    have k2:Kp [p,lf] H G2:=k1.trans (Kp.but b2 mp)
    refine ⟨lq,_,_,_,rfl,rfl,SqL.of N2.hq,hq,?_⟩
    refine aZ ?_
    dsimp only
    refine aO ?_
    refine iw (Det.or (oi rfl) fun _=>Det.or (Ay (K:=K) rfl N2.hb) fun _=>oi rfl) (fun _=>?_) (fun c=>?_)
    · refine ⟨_,rfl,_,rfl,_,rfl,_,rfl,p,lb,lq,1,rfl,by decide,pu2,N2.hb,N2.hq,N.lb9,N.lq9,fun vf F G3 hF dF pu3 b3=>⟨by show 3<=aE; omega,fun t ht=>?_⟩⟩
      have st_:=aM ht (.tup [.str "push",.str q,vf])
      exact k _ (.push q F) _ (BV ao mq ⟨hF.same st_,by omega⟩) trivial (bV _) dz ((L2'.but b3 pu3).same st_) ((k2.trans (Kp.but b3 mp)).trans (Kp.same st_))
    refine cS ?_
    dsimp only
    rw [xV,xV] at c
    have cb:=of_decide_eq_false c.2.1
    have cd:=of_decide_eq_false c.2.2
    rw [ai] at cb
    have:=N.lb9
    obtain ⟨d',rfl⟩:∃ d',d=d' + 1:=⟨d - 1,by omega⟩
    have em:((d' + 1:Nat):Int) - 1=(d':Int):=by omega
    refine aO (cN ?_)
    refine ⟨_,rfl,_,rfl,_,rfl,lb,_,rfl,.inl (SqL.of N2.hb),p,_,rfl,pu2,by rw [ai]; omega,by rw [ai]; omega,fun r2 G3 r20 r21 pu3 b3=>?_⟩
    rw [ai] at r21
    obtain ⟨x,hx,mx⟩:=ko r20 r21
    have N3:=N2.keepI (eV.but pu2 b3)
    have L3:=L2'.but b3 pu3
    have k3:Kp [p,lf] H G3:=k2.trans (Kp.but b3 mp)
    have dm3:Dm H G3:=k3.dm L3.there
    refine ⟨lb,_,_,_,rfl,rfl,SqL.of N3.hb,hx,?_⟩
    refine aZ ?_
    dsimp only
    refine ⟨_,rfl,_,rfl,_,rfl,_,rfl,_,rfl,_,rfl,_,rfl,_,rfl,_,rfl,_,_,rfl,rfl,p,lb,lq,ls,lf,m,d',(by show [V.ref p,V.ref lb,V.ref lq,V.ref ls,V.int m,V.ref lf,V.int (((d' + 1:Nat):Int) - 1)]=_; rw [em]),by omega,L3,N3,m0,m1,fun l1 xs1 ds1 G4 hl1 h1 len1 O1 t1 dp1 sz1 L4 k4=>⟨by show 4<=aE; omega,fun t ht=>?_⟩⟩
    have st_:=aM ht (.tup [.str "pull",.str q,.str x,.ref l1])
    refine k _ (.pull q x ds1) _ (BZ ao mq mx (dm3 l1 hl1) (st_ _ _ h1) len1 ((O1.base dm3).keepI (eV.same st_))) t1 ?_ ?_ (L4.same st_) ((k3.trans k4).trans (Kp.same st_))
    · show ds1.deep + 1<=d' + 1
      omega
    · show ds1.size + 1<=1 + 6 * ddz d'
      omega
  refine cS ?_
  dsimp only
  refine aO ?_
  refine iw (Det.and (wV rfl) fun _=>oH (K:=K) rfl N1.hb) (fun c=>?_) (fun _=>?_)
  · have c2:=of_decide_eq_true (gf _ _ ▸ c).2
    rw [ai] at c2
    have:=N.lb9
    refine aO (cN ?_)
    refine ⟨_,rfl,_,rfl,_,rfl,lb,_,rfl,.inl (SqL.of N1.hb),p,_,rfl,pu1,by rw [ai]; omega,by rw [ai]; omega,fun r G2 r0 r1' pu2 b2=>?_⟩
    rw [ai] at r1'
    obtain ⟨x,hx,mx⟩:=ko r0 r1'
    have N2:=N1.keepI (eV.but pu1 b2)
    have L2':=L1.but b2 pu2
    have k2:Kp [p,lf] H G2:=k1.trans (Kp.but b2 mp)
    refine ⟨lb,_,_,_,rfl,rfl,SqL.of N2.hb,hx,?_⟩
    refine aZ ?_
    dsimp only
    refine aO ?_
    refine iw (oi rfl) (fun _=>?_) (fun _=>?_)
    · refine ⟨_,rfl,_,rfl,_,rfl,_,rfl,p,lb,lq,1,rfl,by decide,pu2,N2.hb,N2.hq,N.lb9,N.lq9,fun vf F G3 hF dF pu3 b3=>⟨by show 3<=aE; omega,fun t ht=>?_⟩⟩
      have st_:=aM ht (.tup [.str "draw",.str x,vf])
      exact k _ (.draw x F) _ (BX ao mx ⟨hF.same st_,by omega⟩) trivial (bV _) dz ((L2'.but b3 pu3).same st_) ((k2.trans (Kp.but b3 mp)).trans (Kp.same st_))
    refine cS ?_
    dsimp only
    refine ⟨_,rfl,_,rfl,_,rfl,_,rfl,p,lb,lq,3,rfl,by decide,pu2,N2.hb,N2.hq,N.lb9,N.lq9,fun vf F G3 hF dF pu3 b3=>⟨by show 3<=aE; omega,fun t ht=>?_⟩⟩
    have st_:=aM ht (.tup [.str "put",.str x,vf])
    exact k _ (.put x F) _ (EB ao mx ⟨hF.same st_,by omega⟩) trivial (bV _) dz ((L2'.but b3 pu3).same st_) ((k2.trans (Kp.but b3 mp)).trans (Kp.same st_))
  refine cS ?_
  dsimp only
  refine ⟨_,rfl,_,rfl,_,rfl,_,rfl,_,rfl,p,lb,lq,ls,m,rfl,pu1,N1,m0,m1,fun v dd G2 hO to dp sz pu2 b2=>?_⟩
  exact k _ dd _ (hO.base dm1) to (by omega) (by omega) (L1.but b2 pu2) (k1.trans (Kp.but b2 mp))
theorem B3 {n kk:Nat} (hk:1<=kk) (D:Df K mg "_law_deeds" gS pDe f fd) (D1:Df K mg "_law_deed" iS pDe f1 fd1) (G1:bZ P w K mg base CX0 kk f1 fd1 pDe (spDe bs qs sgs n)) (DD:Df K mg "_law_draw" eE ["_law_purse_here","_law_out_of"] fD fdD) (B:Bl mg) :
    bZ P w K mg base CX0 (kk + 1) f fd pDe (AD bs qs sgs n):=by
  have GD:bZ P w K mg base CX0 1 fD fdD ["_law_purse_here","_law_out_of"] jE:=jH DD
  refine D.F.ok AC (fun vs H Q E h=>?_) (fun cdv A outer s H vs Q E hr h=>?_)
  · obtain ⟨p,lb,lq,ls,lf,m,d,rfl,_⟩:=h
    rfl
  obtain ⟨p,lb,lq,ls,lf,m,d,rfl,dn,L,N,m0,m1,k⟩:=h
  have r1:eN 1 _:=hr.mono hk
  refine ⟨_,ah (bF (i:=7) AC.nd rfl (Or.inl rfl) (el ak))
    (ah (fq cj rfl (iV (by rfl) B.range (iU (aN GD r1 (by rfl) DD.m DD.F.kp DD.b .nil bR (aT (pv 0) (cX ag ak))) ak)) (cP (i:=8) AC.nd rfl (Or.inl rfl)) (au (cK (bE kK (aP bT (pv 5) ag (fun _ _=>rfl)) ag (bM _)) (ah (oU (cJ gK (aP bT (pv 5) ag (fun _ _=>rfl)) ag) (qv (pv 5) ag mP))
    (au (dv (ia aW bA bB dR (pv 7) (iU (aN G1 hr (by rfl) D1.m D1.F.kp D1.b .nil bR (aT (pv 0) (aT (pv 1) (aT (pv 2) (aT (pv 3) (aT (pv 4) (aT (pv 5) (aT (pv 6) ak)))))))) ak))))) bH)))
    (au (bD (pv 7)))),?_⟩
  have big:=eM
  have mp:p∈[p,lf]:=aA
  have ml:lf∈[p,lf]:=aa _ aA
  refine aO (cN ?_)
  refine ⟨bV _,fun l0 hl0=>?_⟩
  have s0:=aM hl0 (.lst [])
  refine aZ ?_
  dsimp only
  have n0:l0∉[p,lf]:=fun z=>by
    obtain ⟨i,r,e⟩:=L.int l0 z
    rw [hl0] at e
    cases e
  refine aO ?_
  refine ⟨_,rfl,p,4,rfl,L.pu.same s0,by decide,by decide,fun r G r0 r1' puG bG=>⟨r,rfl,by omega,by omega,?_⟩⟩
  have LG:=(L.same s0).but bG puG
  have kG:Kp [p,lf] H G:=(Kp.same s0).trans (Kp.but bG mp)
  have hl0G:G l0=some (.lst []):=bG _ _ ao (fun z=>n0 (by rw [z]; exact mp))
  refine iW (n:=r.toNat) (fun i σ G'=>∃ (xs:List V) (ds:Ds) (v8:Option V),σ=[some (.ref p),some (.ref lb),some (.ref lq),some (.ref ls),some (.int m),some (.ref lf),some (.int d),some (.ref l0),v8]/\G' l0=some (.lst xs)/\xs.length<=i/\i<=3/\OwS bs qs (upd H l0 (.lst [])) G' ds xs/\ds.toOk m/\ds.deep<=d/\ds.size<=i * ddz d/\Lf G' p lf/\Kp [p,lf] H G')
    ⟨[],.nil,_,rfl,hl0G,aS _,by decide,B0,trivial,bV _,bV _,LG,kG⟩ ?_ ?_
  · rintro i σ G1' hi ⟨xs,ds,v8,rfl,hxs,lxs,i3,O,to,dp,sz,L1,k1⟩
    obtain ⟨c0,hc⟩:=L1.hl
    have sz':ds.size<=(i + 1) * ddz d:=cU sz (yU _ (lI _))
    refine C0 ?_
    refine ⟨_,rfl,lf,_,_,_,rfl,rfl,SqL.of hc,rfl,_,_,rfl,rfl,_,rfl,?_⟩
    refine gH (fun _=>?_) (fun _=>?_)
    · refine aO (cN ?_)
      refine ⟨_,rfl,lf,_,_,_,rfl,rfl,SqL.of hc,rfl,_,_,rfl,rfl,_,rfl,lf,[.int c0],0,0,rfl,rfl,hc,rfl,?_⟩
      have hl2:upd G1' lf (.lst ([V.int c0].set 0 (.int (c0 - 1)))) lf=some (.lst [.int (c0 - 1)]):=ao
      have k12:Kp [p,lf] G1' (upd G1' lf (.lst ([V.int c0].set 0 (.int (c0 - 1))))):=Kp.upd ml
      have L2':Lf (upd G1' lf (.lst ([V.int c0].set 0 (.int (c0 - 1))))) p lf:=by
        obtain ⟨x,y,e⟩:=L1.pu
        exact ⟨⟨x,y,aR e L1.ne.symm⟩,_,hl2⟩
      have ki2:=k12.keepI L1.int
      have N2:=(N.keepI (k1.keepI L.int)).keepI ki2
      have hxs2:=k12 _ _ hxs n0
      have O2:=O.keepI ki2
      revert L2' ki2 N2 hxs2 O2 k12
      generalize upd G1' lf (.lst ([V.int c0].set 0 (.int (c0 - 1))))=G2
      intro k12 L2' ki2 N2 hxs2 O2
      refine ⟨_,rfl,.inl ⟨rfl,_,SqL.of hxs2⟩,_,rfl,_,rfl,_,rfl,_,rfl,_,rfl,_,rfl,_,rfl,p,lb,lq,ls,lf,m,d,rfl,dn,L2',N2,m0,m1,fun v dd G3 hO t dp' sz3 L3 k23=>?_⟩
      have hxs3:=k23 _ _ hxs2 n0
      refine ⟨l0,xs,v,rfl,rfl,hxs3,by omega,?_⟩
      have ki3:=k23.keepI L2'.int
      have ol:G2 l0≠none:=by
        rw [hxs2]
        intro z
        cases z
      have nt3:∀ ys,G3 l0≠some (.tup ys):=fun ys z=>by
        rw [hxs3] at z
        cases z
      have olB:upd H l0 (.lst []) l0≠none:=by
        rw [ao]
        intro z
        cases z
      have dmB:Dm (upd H l0 (.lst [])) G2:=fun a na=>by
        by_cases ca:a=l0
        · rw [ca,hxs2] at na
          cases na
        · rw [aY ca]
          exact (k1.trans k12).dm L2'.there a na
      refine ⟨xs++[v],mY ds dd,_,rfl,ao,by rw [ay]; show xs.length + 1<=i + 1; omega,by omega,AE ((O2.keepI ki3).old olB nt3) ((hO.old ol nt3).base dmB),xU t ds to,by rw [sW]; omega,?_,?_,?_⟩
      · rw [sX,Nat.succ_mul]
        omega
      · obtain ⟨x,y,e⟩:=L3.pu
        obtain ⟨z,e'⟩:=L3.hl
        exact ⟨⟨x,y,aR e (fun q=>n0 (by rw [<- q]; exact mp))⟩,z,aR e' (fun q=>n0 (by rw [<- q]; exact ml))⟩
      · exact fun b o e nb=>aR (((k1.trans k12).trans k23) b o e nb) (aJ e hl0)
    · exact ⟨xs,ds,_,rfl,hxs,by omega,by omega,O,to,dp,sz',L1,k1⟩
  · rintro σ G1' ⟨xs,ds,v8,rfl,hxs,lxs,i3,O,to,dp,sz,L1,k1⟩
    refine ⟨_,rfl,k l0 xs ds G1' hl0 hxs (by omega) (O.base (Dm.same s0)) to dp (cU sz (yU _ i3)) L1 k1⟩
theorem C3 (D:Df K mg "_law_deeds" gS pDe f fd) (D1:Df K mg "_law_deed" iS pDe f1 fd1) (DE:Df K mg "_law_send" iR yT fE fdE) (DF:Df K mg "_law_formula" fk pFo fF fdF) (DL:Df K mg "_law_leaf" gC ["_law_purse_here","_law_boxes","_law_queues"] fL fdL) (DD:Df K mg "_law_draw" eE ["_law_purse_here","_law_out_of"] fD fdD) (B:Bl mg) :
    ∀ n:Nat,bZ P w K mg base CX0 (7 + 2 * n) f fd pDe (AD bs qs sgs n)
  | 0=>⟨fun vs H Q E h=>by
      obtain ⟨p,lb,lq,ls,lf,m,d,_,h,_⟩:=h
      omega,fun A outer s H args us vs Q E _ _ _ _ h=>by
      obtain ⟨p,lb,lq,ls,lf,m,d,_,h,_⟩:=h
      omega⟩
  | n + 1=>B3 (kk:=7 + 2 * n + 1) (by omega) D D1 (B2 (by omega) D1 D (C3 D D1 DE DF DL DD B n) DE DF DL DD B) DD B
end
end My
namespace My
open PySem L2
def abc:Str:="abcdefghijklmnopqrstuvwxyz"
theorem B4:abc.cps.toList.length=26:=by decide +kernel
theorem sY:abc.length<=aE:=by decide +kernel
theorem EF:abc.cps.toList.Nodup:=by decide +kernel
theorem EG {z:Int} (h0:0<=z) (h1:z < 26):∃ c,abc.cps.toList[z.toNat]?=some c/\atI abc.cps.toList z=some c:=by
  obtain ⟨j,rfl⟩:∃ j:Nat,z=(j:Int):=⟨z.toNat,by omega⟩
  have l:j < abc.cps.toList.length:=by rw [B4]; omega
  exact ⟨abc.cps.toList[j],by rw [A5]; exact cC l,jG (cC l)⟩
def lP:List Int:=[1,3,5,25,7,11]
def placeOf (b st:Int) (i:Nat):Int:=(b + st * (0 + (i:Int))) % 26
theorem oI (b st:Int) (i:Nat):0<=placeOf b st i/\placeOf b st i < 26:=by
  unfold placeOf
  exact ⟨ie _ (by decide),gk _ (by decide)⟩
theorem AF {b st:Int} (hs:st∈lP) {i j:Nat} (hi:i < 9) (hj:j < 9) (h:placeOf b st i=placeOf b st j):i=j:=by
  unfold placeOf at h
  unfold lP at hs
  simp only [az,bY,or_false] at hs
  rcases hs with rfl | rfl | rfl | rfl | rfl | rfl <;> omega
def GN (b st:Int) (ss:List Str):Prop:=∀ i s,ss[i]?=some s->∃ c,abc.cps.toList[(placeOf b st i).toNat]?=some c/\s.cps.toList[0]?=some c
theorem B5 {i j:Nat} {c} (hi:abc.cps.toList[i]?=some c) (hj:abc.cps.toList[j]?=some c):i=j:=by
  have li:=(aL.mp hi).1
  exact (List.getElem?_inj li EF).mp (hi.trans hj.symm)
theorem GN.nodup {b st:Int} (hs:st∈lP) {ss:List Str} (h:GN b st ss) (hl:ss.length<=9):ss.Nodup:=by
  refine List.pairwise_iff_getElem.mpr fun i j li lj hij e=>?_
  obtain ⟨c,a1,a2⟩:=h i _ (cC li)
  obtain ⟨d,b1,b2⟩:=h j _ (cC lj)
  rw [<- e,a2] at b2
  cases b2
  have z:=B5 a1 b1
  obtain ⟨p1,p2⟩:=oI b st i
  obtain ⟨q1,q2⟩:=oI b st j
  have w:placeOf b st i=placeOf b st j:=by omega
  have:=AF hs (by omega) (by omega) w
  omega
theorem GN.snoc {b st:Int} {ss:List Str} {s:Str} {c} (h:GN b st ss) (h2:abc.cps.toList[(placeOf b st ss.length).toNat]?=some c) (h3:s.cps.toList[0]?=some c):GN b st (ss++[s]):=by
  intro i x e
  by_cases hi:i < ss.length
  · rw [gA hi] at e
    exact h i x e
  · rw [e9 (by omega)] at e
    have z:i - ss.length=0:=by
      by_cases y:i - ss.length=0
      · exact y
      · obtain ⟨k,hk⟩:∃ k,i - ss.length=k + 1:=⟨i - ss.length - 1,by omega⟩
        rw [hk] at e
        simp at e
    have hi':i=ss.length:=by omega
    rw [z] at e
    simp at e
    subst e
    rw [hi']
    exact ⟨c,h2,h3⟩
theorem vj (x y:Str):(x++y).length=x.length + y.length:=by
  show (x++y).cps.size=x.cps.size + y.cps.size
  show (x.cps++y.cps).size=_
  rw [Array.size_append]
theorem t7 {x y:Str} {c} (h:x.cps.toList[0]?=some c):(x++y).cps.toList[0]?=some c:=by
  show (x.cps++y.cps).toList[0]?=some c
  rw [Array.toList_append,gA (aL.mp h).1]
  exact h
theorem AG {r:Int} (h0:0<=r) (h1:r < 6):∃ st,atI (lP.map V.int) r=some (.int st)/\st∈lP:=by
  obtain ⟨j,rfl⟩:∃ j:Nat,r=(j:Int):=⟨r.toNat,by omega⟩
  have lt:j < lP.length:=by
    show j < 6
    omega
  exact ⟨lP[j],jG (by rw [dk,cC lt]; rfl),lV lt⟩
section
variable {P:aX} {w:cz} {K:aj} {mg:Str->Option af} {base:cR} {f fD:ae} {fd fdD:cH}
seal L2.PS L2.PSs L2.PE L2.PA L2.PT L2.PW L2.PI L2.PG L2.PGs L2.PC
def t8:Sp:=fun vs H Q _=>∃ (p:ae) (n:Int),vs=[.ref p,.int n]/\dD H p/\0<=n/\n<=9 /\
  ∀ (l:ae) (ss:List Str) (H':Hp),H l=none->H' l=some (.lst (ss.map V.str))->(ss.length:Int)=n->ss.Nodup->(∀ x∈ss,x.length<=6)->dD H' p->But p H H'->Q (.ref l) H'
abbrev nN:List Str:=["_law_purse_here","_law_many","_law_letters","_law_base","_law_step","_law_names_here","_law_k","_law_tail"]
theorem scN:cD nN ["_law_purse_here","_law_many"] (aB ip):=⟨rfl,rfl,rfl,by decide +kernel,rfl,by decide +kernel,by decide +kernel⟩
theorem vk (D:Df K mg "_law_names" ip ["_law_purse_here","_law_many"] f fd) (DD:Df K mg "_law_draw" eE ["_law_purse_here","_law_out_of"] fD fdD) (B:Bl mg):bZ P w K mg base CX0 2 f fd ["_law_purse_here","_law_many"] t8:=by
  have GD:bZ P w K mg base CX0 1 fD fdD ["_law_purse_here","_law_out_of"] jE:=jH DD
  refine D.F.ok scN (fun vs H Q E h=>?_) (fun cdv A outer s H vs Q E r1 h=>?_)
  · obtain ⟨p,n,rfl,_⟩:=h
    rfl
  obtain ⟨p,n,rfl,hp,hn0,hn9,q⟩:=h
  refine ⟨_,ah (bF (i:=2) scN.nd rfl (Or.inl rfl) bN)
    (ah (bF (i:=3) scN.nd rfl (Or.inl rfl) (aN GD r1 (by rfl) DD.m DD.F.kp DD.b .nil bR (aT (pv 0) (cX ag ak))))
    (ah (bF (i:=4) scN.nd rfl (Or.inl rfl) (aP bT (el (cX ag (cX ag (cX ag (cX ag (cX ag (cX ag ak))))))) (aN GD r1 (by rfl) DD.m DD.F.kp DD.b .nil bR (aT (pv 0) (cX ag ak))) (fun _ _=>rfl)))
    (ah (bF (i:=5) scN.nd rfl (Or.inl rfl) (el ak))
    (ah (fq cj rfl (iV (by rfl) B.range (aT (pv 1) ak)) (cP (i:=6) scN.nd rfl (Or.inl rfl)) (ah (bF (i:=7) scN.nd rfl (Or.inl rfl) (mO Ea (pv 2) p0 (j3 (aN GD r1 (by rfl) DD.m DD.F.kp DD.b .nil bR (aT (pv 0) (cX ag ak))))))
    (au (dv (ia aW bA bB dR (pv 5) (kE (cJ vN (aP DA (pv 2) (cJ kU (cJ fZ (pv 3) (cJ jQ (pv 4) (pv 6))) ag) (fun _ _=>rfl)) (pv 7)) ak))))))
    (au (bD (pv 5))))))),?_⟩
  have big:=eM
  refine aO (cN ?_)
  refine aZ ?_
  dsimp only
  refine aO (cN ?_)
  refine ⟨_,rfl,p,26,rfl,hp,by decide,by decide,fun first H1 f0 f1 hp1 b1=>?_⟩
  refine aZ ?_
  dsimp only
  refine aO (cN ?_)
  refine ⟨by show 6<=aE; omega,fun ls hls=>?_⟩
  have sl:=aM hls (.lst (lP.map V.int))
  refine ⟨_,rfl,p,6,rfl,hp1.same sl,by decide,by decide,fun r2 H2 r20 r21 hp2 b2=>?_⟩
  obtain ⟨st,hst,mst⟩:=AG r20 r21
  have nlp:ls≠p:=by
    obtain ⟨x,y,e⟩:=hp1
    exact (aJ e hls).symm
  have stb:0 < st/\st < 100:=by
    unfold lP at mst
    simp only [az,bY,or_false] at mst
    rcases mst with rfl | rfl | rfl | rfl | rfl | rfl <;> decide
  refine ⟨ls,_,_,_,rfl,rfl,SqL.of (b2 _ _ ao nlp),hst,?_⟩
  refine aZ ?_
  dsimp only
  have b02:But p H H2:=(b1.same sl).trans b2
  refine aO (cN ?_)
  refine ⟨bV _,fun l hl=>?_⟩
  have s3:=aM hl (.lst [])
  have nl:l≠p:=by
    obtain ⟨x,y,e⟩:=hp2
    exact (aJ e hl).symm
  have hlH:H l=none:=by
    cases e:H l with
    | none=>rfl
    | some o =>
      rw [b02 l o e nl] at hl
      cases hl
  refine aZ ?_
  dsimp only
  refine aO ?_
  refine ⟨_,rfl,n,rfl,by omega,by omega,iW (n:=n.toNat) (fun i σ G=>∃ (ss:List Str) (v6 v7:Option V),σ=[some (.ref p),some (.int n),some (.str abc),some (.int first),some (.int st),some (.ref l),v6,v7]/\i<=n.toNat/\G l=some (.lst (ss.map V.str))/\ss.length=i/\GN first st ss/\(∀ x∈ss,x.length<=6)/\dD G p/\But p H G)
    ⟨[],none,none,rfl,bV _,ao,rfl,(fun i s e=>by simp at e),(fun x hx=>by cases hx),hp2.same s3,b02.same s3⟩ ?_ ?_⟩
  · rintro i σ G hi ⟨ss,v6,v7,rfl,hi2,hG,hss,gn,l6,pu,bt⟩
    obtain ⟨c,c1,c2⟩:=EG (oI first st i).1 (oI first st i).2
    refine aO (cN ?_)
    refine ⟨_,rfl,_,rfl,p,6,rfl,pu,by decide,by decide,fun r G1 r0 r1' pu1 bt1=>⟨r,rfl,abc,rfl,sY,?_⟩⟩
    refine aZ ?_
    dsimp only
    have hG1:=bt1 _ _ hG nl
    have l5:(kN abc none (some r)).length<=5:=by
      have hr:r=0\/r=1\/r=2\/r=3\/r=4\/r=5:=by omega
      rcases hr with rfl | rfl | rfl | rfl | rfl | rfl <;> decide +kernel
    have lt26:(kN abc none (some r)).length<=26:=cU (Txt.slice_le abc none (some r)) (by decide +kernel)
    refine ⟨_,rfl,.inl ⟨rfl,_,SqL.of hG1⟩,_,rfl,_,rfl,_,rfl,_,rfl,_,_,rfl,rfl,.inl ⟨by omega,by omega⟩,_,_,rfl,rfl,_,_,rfl,rfl,(by show (0:Int) < 26; decide),abc,_,c,rfl,rfl,sY,c2,_,rfl,_,_,rfl,rfl,?_,l,_,_,rfl,rfl,hG1,(by rw [ai]; omega),?_⟩
    · show 1 + (kN abc none (some r)).length<=aE
      omega
    · obtain ⟨x,y,hpx⟩:=pu1
      refine ⟨ss++[_],_,_,rfl,hi,by rw [aV]; exact ao,by rw [ay,hss]; rfl,gn.snoc (c:=c) (by rw [hss]; exact c1) (t7 rfl),(fun s hs=>(cE.mp hs).elim (l6 s) fun z=>by rw [aQ.mp z,vj]; show 1 + (kN abc none (some r)).length<=6; omega),⟨x,y,aR hpx nl.symm⟩,?_⟩
      exact fun b o hb nb=>aR (bt1 _ _ (bt b o hb nb) nb) (aJ hb hlH)
  · rintro σ G ⟨ss,v6,v7,rfl,hi2,hG,hss,gn,l6,pu,bt⟩
    exact ⟨_,rfl,q l ss G hlH hG (by omega) (gn.nodup mst (by omega)) l6 pu bt⟩
end
end My
namespace My
open PySem L2
def AH:List Int->TA
  | []=>uD
  | k :: r=>jY (tC (.int k)) (AH r)
theorem xW:∀ (ks:List Int) {σ:St} {H:Hp} {Q:List V->Hp->Prop},Q (ks.map V.int) H->AH ks σ H Q
  | [],_,_,_,h=>h
  | _ :: r,_,_,_,h=>xW r h
theorem dr2 {K:aj} {ks:List Int} {c:Int} {p:ae} (hc:c=ks.length) (hk:∀ k∈ks,0 < k/\k < 100) (h0:0 < ks.length) (hl:ks.length < 100) {σ:St} {H:Hp} {Q:VK} (hv:σ[0]?=some (some (.ref p))) (pu:dD H p)
    (k:∀ (r:Int) (G:Hp),0<=r->r < 100->dD G p->But p H G->Q (.int r) G):zy jE [] E0 (jY (qm 0) (jY (tOp (Dz K) (Dx (AH ks)) (zy jE [] E0 (jY (qm 0) (jY (tC (.int c)) uD)))) uD)) σ H Q:=by
  have big:=eM
  refine ⟨_,hv,xW ks ⟨by rw [ai]; omega,fun l hl'=>?_⟩⟩
  have sl:=aM hl' (.lst (ks.map V.int))
  have nlp:l≠p:=by
    obtain ⟨x,y,e⟩:=pu
    exact (aJ e hl').symm
  refine ⟨_,hv,p,c,rfl,pu.same sl,by omega,by omega,fun r G1 r0 r1 pu1 b1=>?_⟩
  obtain ⟨j,rfl⟩:∃ j:Nat,r=(j:Int):=⟨r.toNat,by omega⟩
  have lt:j < ks.length:=by omega
  have hat:atI (ks.map V.int) (j:Int)=some (.int ks[j]):=jG (by rw [dk,cC lt]; rfl)
  have hb:=hk _ (lV lt)
  refine ⟨l,_,_,_,rfl,rfl,SqL.of (b1 _ _ ao nlp),hat,p,ks[j],rfl,pu1,hb.1,by omega,fun r2 G2 r20 r21 pu2 b2=>?_⟩
  have sl2:But p H G1:=fun b o e nb=>b1 _ _ (sl _ _ e) nb
  exact k r2 G2 r20 (by omega) pu2 (sl2.trans b2)
theorem q8 (ss:List Str) (lo hi:Option Int):∃ zs:List Str,lL (ss.map V.str) lo hi=zs.map V.str/\zs.length<=ss.length:=by
  refine ⟨(ss.drop (HT.sIx (ss.map V.str).length 0 lo)).take (HT.sIx (ss.map V.str).length (ss.map V.str).length hi - HT.sIx (ss.map V.str).length 0 lo),?_,?_⟩
  · unfold lL
    rw [<- List.map_drop,<- oG]
  · rw [cT,AZ]
    omega
def HsO (bs qs:List Str) (H H':Hp) (v:V) (q:Str×Ds):Prop:=∃ t l xs,v=.ref t/\H' t=some (.tup [.str q.1,.ref l])/\H l=none/\H' l=some (.lst xs)/\xs.length < 1000/\OwS bs qs H H' q.2 xs
theorem HsO.keepI {bs qs:List Str} {H H' H1:Hp} {v:V} {q:Str×Ds} (k:eV H' H1) (h:HsO bs qs H H' v q):HsO bs qs H H1 v q:=by
  obtain ⟨t,l,xs,e,h1,h2,h3,h4,h5⟩:=h
  exact ⟨t,l,xs,e,k _ _ h1 (pE _),h2,k _ _ h3 h5.now.ni,h4,h5.keepI k⟩
theorem HsO.old {bs qs:List Str} {H H':Hp} {v:V} {q:Str×Ds} {a:ae} {o:HO} (h:HsO bs qs H H' v q) (ol:H a≠none) (nt:∀ xs,H' a≠some (.tup xs)):HsO bs qs H (upd H' a o) v q:=by
  obtain ⟨t,l,xs,e,h1,h2,h3,h4,h5⟩:=h
  exact ⟨t,l,xs,e,aR h1 (fun z=>nt _ (by rw [<- z]; exact h1)),h2,aR h3 (fun z=>ol (by rw [<- z]; exact h2)),h4,h5.old ol nt⟩
theorem HsO.base {bs qs:List Str} {H H0 H':Hp} {v:V} {q:Str×Ds} (h:HsO bs qs H H' v q) (s:Dm H0 H):HsO bs qs H0 H' v q:=by
  obtain ⟨t,l,xs,e,h1,h2,h3,h4,h5⟩:=h
  exact ⟨t,l,xs,e,h1,s l h2,h3,h4,h5.base s⟩
structure Mch (m:Int) (H H':Hp) (t:ae) (nm:Str) (bs qs:List Str) (ds:List Int) (hs:List (Str×Ds)) (ps:List (Str×Int)):Prop where
  ex:∃ (bl ql dl hl:ae) (vb hv:List V),H' t=some (.tup [.str nm,.ref bl,.ref ql,.ref dl,.ref hl])/\H' bl=some (.lst vb)/\e8 H' ps vb/\H' ql=some (.lst (qs.map V.str))/\H' dl=some (.lst (ds.map V.int))/\H' hl=some (.lst hv)/\bJ (HsO bs qs H H') hv hs/\H bl=none/\H ql=none/\H dl=none/\H hl=none
  kb:ps.map (·.1)=bs
  nb:bs.Nodup
  nq:qs.Nodup
  lb:bs.length<=9
  lq:qs.length<=9
  ld:ds.length<=100
  lh:hs.length<=9
  wb:∀ q∈ps,-4<=q.2/\q.2<=4
  hk:∀ q∈hs,q.2.toOk m/\q.2.deep<=4/\q.2.size<=3 * ddz 4
  nh:(hs.map (·.1)).Nodup
  ne:∀ x∈bs++qs,x.length<=6
theorem AI {ss zs:List Str} {lo hi:Option Int} (e:lL (ss.map V.str) lo hi=zs.map V.str) {x:Str} (h:x∈zs):x∈ss:=by
  have z:V.str x∈lL (ss.map V.str) lo hi:=by rw [e]; exact cG.mpr ⟨x,h,rfl⟩
  obtain ⟨y,hy,e2⟩:=cG.mp (xA z)
  cases e2
  exact hy
section
variable {P:aX} {w:cz} {K:aj} {mg:Str->Option af} {base:cR} {f fD fN fS:ae} {fd fdD fdN fdS:cH} {sgs:List Str}
seal L2.PS L2.PSs L2.PE L2.PA L2.PT L2.PW L2.PI L2.PG L2.PGs L2.PC
abbrev nMa:List Str:=["_law_purse_here","_law_name","_law_signs_here","_law_many","_law_names_here","_law_boxes","_law_queues","_law_firsts","_law_draws","_law_k","_law_hears","_law_sign"]
abbrev pMa:List Str:=["_law_purse_here","_law_name","_law_signs_here","_law_many"]
theorem t9:cD nMa pMa (aB gD):=⟨rfl,rfl,rfl,by decide +kernel,rfl,by decide +kernel,by decide +kernel⟩
theorem ndMa:((["_law_box"]:List Str)++nMa).Nodup:=by decide +kernel
def EH (sgs:List Str):Sp:=fun vs H Q _=>∃ (p ls:ae) (nm:Str) (m:Int),vs=[.ref p,.str nm,.ref ls,.int m]/\dD H p/\H ls=some (.lst (sgs.map V.str))/\0 < sgs.length/\sgs.length<=9/\sgs.Nodup/\0 < m/\m < 1000 /\
  ∀ (t:ae) (H':Hp) (bs qs:List Str) (ds:List Int) (hs:List (Str×Ds)) (ps:List (Str×Int)),Mch m H H' t nm bs qs ds hs ps->dD H' p->But p H H'->Q (.ref t) H'
theorem yV {K:aj} {a:ae} {xs:List V} {n i:Nat} {g:TG} {tc:L2.TT} {te:TE} {σ:St} {H:Hp} {Q:VK} (hv:σ[i]?=some (some (.ref a))) (hx:SqL K H a xs) (Pv:Nat->List V->Hp->Prop) (h0:Pv 0 [] H) (hl:∀ i ys H,i<=xs.length->Pv i ys H->SqL K H a xs/\ys.length < aE)
    (hs:∀ i x ys H,xs[i]?=some x->Pv i ys H->g x (cV n none++σ) H fun σ2 H2=>σ2.drop n=σ/\tc σ2 H2 fun b H3=>if b=true then te σ2 H3 fun y H4=>Pv (i + 1) (ys++[y]) H4 else Pv (i + 1) ys H3)
    (hd:∀ ys H,Pv xs.length ys H->∀ p,H p=none->Q (.ref p) (upd H p (.lst ys))):qM n (w9 K (qm i)) g tc te σ H Q:=
  ⟨.ref a,hv,a,rfl,⟨xs,hx⟩,lE Pv h0 hl hs hd⟩
theorem q9 {ss:List Str} {i:Nat} {x:V} (h:(ss.map V.str)[i]?=some x):∃ nm,ss[i]?=some nm/\x=V.str nm/\i < ss.length/\ss.take (i + 1)=ss.take i++[nm]:=by
  rw [dk] at h
  cases e:ss[i]? with
  | none =>
    rw [e] at h
    cases h
  | some nm =>
    rw [e] at h
    cases h
    exact ⟨nm,rfl,rfl,(aL.mp e).1,by rw [ff,e]; rfl⟩
theorem ok_ma (D:Df K mg "_law_machine" gD pMa f fd) (DN:Df K mg "_law_names" ip ["_law_purse_here","_law_many"] fN fdN) (DS:Df K mg "_law_deeds" gS pDe fS fdS) (GS:∀ bs qs,bZ P w K mg base CX0 17 fS fdS pDe (AD bs qs sgs 5)) (DD:Df K mg "_law_draw" eE ["_law_purse_here","_law_out_of"] fD fdD) (B:Bl mg) :
    bZ P w K mg base CX0 18 f fd pMa (EH sgs):=by
  have GD:bZ P w K mg base CX0 1 fD fdD ["_law_purse_here","_law_out_of"] jE:=jH DD
  have GN:bZ P w K mg base CX0 2 fN fdN ["_law_purse_here","_law_many"] t8:=vk DN DD B
  have GS:bZ P w K mg base CX0 17 fS fdS pDe (fun vs H Q E=>∃ bs qs,AD bs qs sgs 5 vs H Q E):=⟨fun vs H Q E h=>by
    obtain ⟨bs,qs,p,lb,lq,ls,lf,m,d,rfl,_⟩:=h
    rfl,fun A outer s H ar us vs Q E hr he hb hv h=>by
    obtain ⟨bs,qs,h⟩:=h
    exact (GS bs qs).run A outer s H ar us vs Q E hr he hb hv h⟩
  refine D.F.ok t9 (fun vs H Q E h=>?_) (fun cdv A outer s H vs Q E hr h=>?_)
  · obtain ⟨p,ls,nm,m,rfl,_⟩:=h
    rfl
  obtain ⟨p,ls,nm,m,rfl,pu,hls,sg0,sg9,sgn,m0,m1,k⟩:=h
  have r1:eN 1 _:=hr.mono (by decide)
  have r2:eN 2 _:=hr.mono (by decide)
  refine ⟨_,ah (bF (i:=4) t9.nd rfl (Or.inl rfl) (aN GN r2 (by rfl) DN.m DN.F.kp DN.b .nil bR (aT (pv 0) (cX ag ak))))
    (ah (bF (i:=5) t9.nd rfl (Or.inl rfl) (mO p6 (pv 4) p0 (j3 (aN GD r1 (by rfl) DD.m DD.F.kp DD.b .nil bR (aT (pv 0) (ig (aP bT (el (cX ag (cX ag (cX ag ak)))) (aN GD r1 (by rfl) DD.m DD.F.kp DD.b .nil bR (aT (pv 0) (cX ag ak))) (fun _ _=>rfl)) ak))))))
    (ah (bF (i:=6) t9.nd rfl (Or.inl rfl) (mO p6 (pv 4) (j3 ag) (j3 (cJ fZ ag (aN GD r1 (by rfl) DD.m DD.F.kp DD.b .nil bR (aT (pv 0) (ig (aP bT (el (cX ag (cX ag ak))) (aN GD r1 (by rfl) DD.m DD.F.kp DD.b .nil bR (aT (pv 0) (cX ag ak))) (fun _ _=>rfl)) ak)))))))
    (ah (xr (i:=7) ["_law_box"] (iP.open (NN:=nMa) (N:=nMa) (sc:=aB gD) rfl rfl (by decide +kernel) rfl (by decide +kernel) (by decide +kernel) rfl (by decide +kernel)) rfl t9.nd rfl (Or.inl rfl) (fj (pv 5)) (fun _ _ _ _=>cP (i:=0) ndMa rfl (Or.inl rfl)) (fun _ _ _ _=>m7) (fun _ _ _ _=>eO (aT (pv 0) (kE (cJ gK (aN GD r1 (by rfl) DD.m DD.F.kp DD.b .nil bR (aT (pv 1) (cX ag ak))) ag) ak))))
    (ah (bF (i:=8) t9.nd rfl (Or.inl rfl) (el ak))
    (ah (fq cj rfl (iV (by rfl) B.range (iU (aN GD r1 (by rfl) DD.m DD.F.kp DD.b .nil bR (aT (pv 0) (ig (aP bT (el (cX ag (cX ag (cX ag ak)))) (aN GD r1 (by rfl) DD.m DD.F.kp DD.b .nil bR (aT (pv 0) (cX ag ak))) (fun _ _=>rfl)) ak))) ak)) (cP (i:=9) t9.nd rfl (Or.inl rfl)) (au (dv (ia aW bA bB dR (pv 8) (ig (aP bT (el (iU (aN GD r1 (by rfl) DD.m DD.F.kp DD.b .nil bR (aT (pv 0) (cX ag ak))) (iU (aN GD r1 (by rfl) DD.m DD.F.kp DD.b .nil bR (aT (pv 0) (kE (cJ fZ (cJ iG ag ag) ag) ak))) ak))) (aN GD r1 (by rfl) DD.m DD.F.kp DD.b .nil bR (aT (pv 0) (cX ag ak))) (fun _ _=>rfl)) ak)))))
    (ah (bF (i:=10) t9.nd rfl (Or.inl rfl) (el ak))
    (ah (fq cj rfl (fj (mO p6 (pv 2) p0 (j3 (aN GD r1 (by rfl) DD.m DD.F.kp DD.b .nil bR (aT (pv 0) (kE (cJ fZ (cu (dS K (by rfl)) (by rfl) B.len cw (aT (pv 2) ak)) ag) ak)))))) (cP (i:=11) t9.nd rfl (Or.inl rfl)) (au (dv (ia aW bA bB dR (pv 10) (qZ (eO (aT (pv 11) (iU (aN GS hr (by rfl) DS.m DS.F.kp DS.b .nil bR (aT (pv 0) (aT (pv 5) (aT (pv 6) (aT (pv 2) (aT (pv 3) (wU (el (cX ag ak)) (cX ag ak)))))))) ak))) ak) (hs:=qY)))))
    (au (bD (eO (aT (pv 1) (aT (pv 7) (aT (pv 6) (aT (pv 8) (aT (pv 10) ak))))))))))))))),?_⟩
  have big:=eM
  have kZ:∀ {G:Hp} {a:ae},dD G p->G a=none->a≠p:=fun {G a} h n=>by
    obtain ⟨x,y,e⟩:=h
    exact (aJ e n).symm
  refine aO (cN ?_)
  refine ⟨_,rfl,p,9,rfl,pu,by decide,by decide,fun ln ss G1 fln hln lss nds l6 pu1 b1=>?_⟩
  refine aZ ?_
  dsimp only
  have nln:=kZ pu fln
  refine aO (cN ?_)
  refine ⟨_,rfl,dr2 (K:=K) (ks:=[4,4,7]) (p:=p) rfl (by decide) (by decide) (by decide) rfl pu1 fun ra G2 ra0 ra1 pu2 b2=>⟨ra,rfl,ln,_,rfl,SqL.of (b2 _ _ hln nln),fun lb hlb=>?_⟩⟩
  obtain ⟨bs,ebs,lbs⟩:=q8 ss none (some ra)
  have ndb:bs.Nodup:=wJ ebs nds
  rw [ebs]
  have s2:=aM hlb (.lst (bs.map V.str))
  have nlb:=kZ pu2 hlb
  refine aZ ?_
  dsimp only
  refine aO (cN ?_)
  refine ⟨_,rfl,6,rfl,dr2 (K:=K) (ks:=[2,4]) (p:=p) rfl (by decide) (by decide) (by decide) rfl (pu2.same s2) fun rb G3 rb0 rb1 pu3 b3=>⟨_,_,rfl,rfl,_,rfl,ln,_,rfl,SqL.of (b3 _ _ (s2 _ _ (b2 _ _ hln nln)) nln),fun lq hlq=>?_⟩⟩
  obtain ⟨qs,eqs,lqs⟩:=q8 ss (some 6) (some (6 + rb))
  have ndq:qs.Nodup:=wJ eqs nds
  rw [eqs]
  have s3:=aM hlq (.lst (qs.map V.str))
  have nlq:=kZ pu3 hlq
  refine aZ ?_
  dsimp only
  have hlb3:=s3 _ _ (b3 _ _ (ao:upd G2 lb (.lst (bs.map V.str)) lb=_) nlb)
  have hlq3:=(ao:upd G3 lq (.lst (qs.map V.str)) lq=_)
  have b03:But p H (upd G3 lq (.lst (qs.map V.str))):=((((b1.trans b2).same s2).trans b3).same s3)
  have pu3':=pu3.same s3
  have fq0:H lb=none:=by
    cases e:H lb with
    | none=>rfl
    | some o =>
      rw [(b1.trans b2) lb o e nlb] at hlb
      cases hlb
  have fq1:H lq=none:=by
    cases e:H lq with
    | none=>rfl
    | some o =>
      rw [(((b1.trans b2).same s2).trans b3) lq o e nlq] at hlq
      cases hlq
  revert hlb3 hlq3 b03 pu3'
  clear s3
  generalize upd G3 lq (.lst (qs.map V.str))=G4
  intro hlb3 hlq3 b03 pu3'
  have nls:ls≠p:=gi pu hls
  have hls4:=b03 _ _ hls nls
  -- the first worths
  refine aO (cN ?_)
  refine yV (K:=K) (a:=lb) (xs:=bs.map V.str) rfl (SqL.of hlb3) (fun i ys G=>ys.length=i/\dD G p/\But p G4 G/\∃ ps:List (Str×Int),ps.map (·.1)=bs.take i/\(∀ q∈ps,-4<=q.2/\q.2<=4)/\e8 G ps ys) ⟨rfl,pu3',But.refl _ _,[],rfl,(fun q hq=>by cases hq),.nil⟩ ?_ ?_ ?_
  · rintro i ys G hi ⟨h1,h2,h3,_⟩
    rw [ai] at hi
    exact ⟨SqL.of (h3 _ _ hlb3 nlb),by omega⟩
  · rintro i x ys G hi ⟨h1,h2,h3,ps,h5,h6,h7⟩
    obtain ⟨y,hy,rfl,lt,tk⟩:=q9 hi
    refine ⟨rfl,?_⟩
    unfold wy
    refine eC ?_
    refine ⟨_,rfl,_,rfl,p,9,rfl,h2,by decide,by decide,fun r G' r0 r1' pu' b'=>⟨_,_,rfl,rfl,lt2,fun t ht=>?_⟩⟩
    have st_:=aM ht (.tup [.str y,.int (r - 4)])
    refine ⟨by rw [ay,h1]; rfl,pu'.same st_,(h3.trans b').same st_,ps++[(y,r - 4)],?_,fun q hq=>?_,?_⟩
    · rw [aV,h5,tk]
      rfl
    · rcases cE.mp hq with z | z
      · exact h6 q z
      · rw [aQ.mp z]
        exact ⟨by show -4<=r - 4; omega,by show r - 4<=4; omega⟩
    · exact e8.snoc (e8.tups (fun a xs e=>st_ _ _ ((eV.but h2 b') _ _ e (pE xs))) h7) ao
  rintro vb G5 ⟨h1,pu5,b5,ps,h5,h6,bx⟩ bl hbl
  rw [ai,cM] at h5
  have s5:=aM hbl (.lst vb)
  have nbl:=kZ pu5 hbl
  refine aZ ?_
  dsimp only
  have b45:But p G4 (upd G5 bl (.lst vb)):=b5.same s5
  refine genH (P:=fun G=>dD G p/\But p H G/\G bl=some (.lst vb)/\e8 G ps vb/\G lb=some (.lst (bs.map V.str))/\G lq=some (.lst (qs.map V.str))/\G ls=some (.lst (sgs.map V.str))) ⟨pu5.same s5,b03.trans b45,ao,e8.same s5 bx,b45 _ _ hlb3 nlb,b45 _ _ hlq3 nlq,b45 _ _ hls4 nls⟩ fun G6 h6'=>?_
  obtain ⟨pu6,b06,hbl6,bx6,hlb6,hlq6,hls6⟩:=h6'
  have fbl:H bl=none:=by
    cases e:H bl with
    | none=>rfl
    | some o =>
      rw [(b03.trans b5) bl o e nbl] at hbl
      cases hbl
  clear b45 s5 hbl pu5 b5 hls4 hlb3 hlq3 b03 pu3' bx
  -- the draws
  refine aO (cN ?_)
  refine ⟨bV _,fun dl hdl=>?_⟩
  have s6:=aM hdl (.lst [])
  have ndl:=kZ pu6 hdl
  have fdl:H dl=none:=by
    cases e:H dl with
    | none=>rfl
    | some o =>
      rw [b06 dl o e ndl] at hdl
      cases hdl
  refine aZ ?_
  dsimp only
  refine aO ?_
  have c15:oX 10 15:=⟨by decide,by decide,by decide⟩
  refine dr2 (K:=K) (ks:=[4,4,21]) (p:=p) rfl (by decide) (by decide) (by decide) rfl (pu6.same s6) fun rc G7 rc0 rc1 pu7 b7=>⟨rc,rfl,by omega,by omega,iW (n:=rc.toNat) (fun i σ G=>∃ (ds:List Int) (v9:Option V),σ=[some (.ref p),some (.str nm),some (.ref ls),some (.int m),some (.ref ln),some (.ref lb),some (.ref lq),some (.ref bl),some (.ref dl),v9,none,none]/\G dl=some (.lst (ds.map V.int))/\ds.length=i/\i<=rc.toNat/\dD G p/\Kp [p,dl] G6 G)
    ⟨[],_,rfl,b7 _ _ ao ndl,rfl,bV _,pu7,fun b o e nb=>b7 _ _ (s6 _ _ e) (fun z=>nb (by rw [z]; exact aA))⟩ ?_ ?_⟩
  · rintro i σ G hi ⟨ds,v9,rfl,hd,ld,li,puG,kG⟩
    refine ⟨_,rfl,.inl ⟨rfl,_,SqL.of hd⟩,_,rfl,p,10,rfl,puG,by decide,by decide,fun a1 Ga a10 a11 pua ba=>⟨_,rfl,_,_,rfl,rfl,c15,_,_,rfl,rfl,p,_,rfl,pua,by decide,by decide,fun a2 Gb a20 a21 pub bb=>⟨lt2,fun l2 hl2=>?_⟩⟩⟩
    have sl2:=aM hl2 (.lst [.int a1,.int a2])
    have nl2:=kZ pub hl2
    refine ⟨_,rfl,p,2,rfl,pub.same sl2,by decide,by decide,fun a3 Gc a30 a31 puc bc=>?_⟩
    obtain ⟨av,hav⟩:∃ av:Int,atI [V.int a1,.int a2] a3=some (.int av):=by
      obtain ⟨j,rfl⟩:∃ j:Nat,a3=(j:Int):=⟨a3.toNat,by omega⟩
      match j,a31 with
      | 0,_=>exact ⟨a1,rfl⟩
      | 1,_=>exact ⟨a2,rfl⟩
      | j + 2,h=>exact absurd h (by omega)
    have bGc:But p G Gc:=((ba.trans bb).same sl2).trans bc
    refine ⟨l2,_,_,_,rfl,rfl,SqL.of (bc _ _ ao nl2),hav,dl,_,_,rfl,rfl,bGc _ _ hd ndl,by rw [ai]; omega,?_⟩
    refine ⟨ds++[av],_,rfl,by rw [aV]; exact ao,by rw [ay,ld]; rfl,by omega,?_,fun b o e nb=>?_⟩
    · obtain ⟨x,y,e⟩:=puc
      exact ⟨x,y,aR e ndl.symm⟩
    · exact aR (bGc _ _ (kG b o e nb) (fun z=>nb (by rw [z]; exact aA))) (fun z=>nb (by rw [z]; exact aa _ aA))
  rintro σ G8 ⟨ds,v9,rfl,hd8,ld,li,pu8,k8⟩
  dsimp only
  have old6:∀ {a:ae} {o:HO},G6 a=some o->a≠p->G8 a=some o:=fun {a o} e n=>k8 a o e (fun z=>by
    rcases az.mp z with z | z
    · exact n z
    · rw [aQ.mp z,hdl] at e
      cases e)
  have hbl8:=old6 hbl6 nbl
  have bx8:e8 G8 ps vb:=e8.tups (fun a xs e=>old6 e (fun z=>by
    obtain ⟨x,y,q⟩:=pu6
    rw [z,q] at e
    cases e)) bx6
  have hlb8:=old6 hlb6 nlb
  have hlq8:=old6 hlq6 nlq
  have hls8:=old6 hls6 nls
  have b08:But p H G8:=fun b o e n=>old6 (b06 b o e n) n
  -- what is heard
  refine aO (cN ?_)
  refine ⟨bV _,fun hl hhl=>?_⟩
  have s8:=aM hhl (.lst [])
  have nhl:=kZ pu8 hhl
  have fhl:H hl=none:=by
    cases e:H hl with
    | none=>rfl
    | some o =>
      rw [b08 hl o e nhl] at hhl
      cases hhl
  refine aZ ?_
  dsimp only
  refine aO ?_
  refine ⟨_,rfl,_,rfl,_,rfl,ls,_,rfl,.inl (SqL.of (s8 _ _ hls8)),_,_,rfl,rfl,p,_,rfl,pu8.same s8,by omega,by rw [ai]; omega,fun rd G9 rd0 rd1 pu9 b9=>⟨rd,rfl,ls,_,rfl,SqL.of (b9 _ _ (s8 _ _ hls8) nls),fun lz hlz=>?_⟩⟩
  obtain ⟨zs,ezs,lzs⟩:=q8 sgs none (some rd)
  rw [ezs]
  have s9:=aM hlz (.lst (zs.map V.str))
  have up8:∀ {a:ae} {o:HO},G8 a=some o->a≠p->upd G9 lz (.lst (zs.map V.str)) a=some o:=fun {a o} e n=>s9 _ _ (b9 _ _ (s8 _ _ e) n)
  have hblC:=up8 hbl8 nbl
  have hlbC:=up8 hlb8 nlb
  have hlqC:=up8 hlq8 nlq
  have hlsC:=up8 hls8 nls
  have hdC:=up8 hd8 ndl
  have hhlC:upd G9 lz (.lst (zs.map V.str)) hl=some (.lst []):=s9 _ _ (b9 _ _ ao nhl)
  have bxC:e8 (upd G9 lz (.lst (zs.map V.str))) ps vb:=e8.tups (fun a xs e=>up8 e (fun z=>by
    obtain ⟨x,y,q⟩:=pu8
    rw [z,q] at e
    cases e)) bx8
  have b0C:But p H (upd G9 lz (.lst (zs.map V.str))):=fun b o e n=>up8 (b08 b o e n) n
  have puC:=pu9.same s9
  have hlzC:upd G9 lz (.lst (zs.map V.str)) lz=some (.lst (zs.map V.str)):=ao
  have nbh:bl≠hl:=aJ hbl8 hhl
  have nbb:lb≠hl:=aJ hlb8 hhl
  have nqh:lq≠hl:=aJ hlq8 hhl
  have nsh:ls≠hl:=aJ hls8 hhl
  have ndh:dl≠hl:=aJ hd8 hhl
  have nzh:lz≠hl:=(aJ (b9 _ _ (ao:upd G8 hl (.lst []) hl=_) nhl) hlz).symm
  have nzp:=kZ pu9 hlz
  refine ⟨lz,rfl,⟨_,SqL.of ao⟩,?_⟩
  revert hblC hlbC hlqC hlsC hdC hhlC bxC b0C puC hlzC
  clear up8
  generalize upd G9 lz (.lst (zs.map V.str))=C
  intro hblC hlbC hlqC hlsC hdC hhlC bxC b0C puC hlzC
  refine fY (K:=K) (a:=lz) (xs:=zs.map V.str) (fun i σ G=>∃ (hv:List V) (hs:List (Str×Ds)) (v11:Option V),σ=[some (.ref p),some (.str nm),some (.ref ls),some (.int m),some (.ref ln),some (.ref lb),some (.ref lq),some (.ref bl),some (.ref dl),v9,some (.ref hl),v11]/\G hl=some (.lst hv)/\hv.length=i/\i<=zs.length/\hs.map (·.1)=zs.take i/\bJ (HsO bs qs C G) hv hs/\(∀ q∈hs,q.2.toOk m/\q.2.deep<=4/\q.2.size<=3 * ddz 4)/\dD G p/\Kp [p,hl] C G)
    ⟨[],[],_,rfl,hhlC,rfl,bV _,(by rw [eK]; rfl),.nil,(fun q hq=>by cases hq),puC,Kp.refl _ _⟩ ?_ ?_ ?_
  · rintro i σ G _ ⟨hv,hs,v11,rfl,h1,h2,h3,_,h4,h5,h6,h7⟩
    exact SqL.of (h7 _ _ hlzC (by simp [nzp,nzh]))
  · rintro i x σ G hi ⟨hv,hs,v11,rfl,hh,lhv,li2,hnm,hP,hk,puG,kG⟩
    obtain ⟨y,hy,rfl,lt,tk⟩:=q9 hi
    refine ⟨_,rfl,.inl ⟨rfl,_,SqL.of hh⟩,_,rfl,_,rfl,_,rfl,_,rfl,_,rfl,_,rfl,Ey,fun lf hlf=>?_⟩
    have sf:=aM hlf (.lst [.int 20])
    have L1:Lf (upd G lf (.lst [.int 20])) p lf:=⟨puG.same sf,20,ao⟩
    have N1:Nms (upd G lf (.lst [.int 20])) lb lq ls bs qs sgs:=⟨sf _ _ (kG _ _ hlbC (by simp [nlb,nbb])),sf _ _ (kG _ _ hlqC (by simp [nlq,nqh])),sf _ _ (kG _ _ hlsC (by simp [nls,nsh])),by omega,by omega,sg9,sg0⟩
    have hh1:=sf _ _ hh
    have nhf:hl≠lf:=aJ hh hlf
    refine ⟨bs,qs,p,lb,lq,ls,lf,m,4,rfl,by decide,L1,N1,m0,m1,fun l xs dd G2 fl hl2 lxs O to dp sz L2' k2=>⟨lt2,fun t ht=>?_⟩⟩
    have st_:=aM ht (.tup [.str y,.ref l])
    have hh2:=k2 _ _ hh1 (by simp [nhl,nhf])
    refine ⟨hl,_,_,rfl,rfl,st_ _ _ hh2,by omega,?_⟩
    have ki:=(eV.same sf).trans ((k2.keepI L1.int).trans (eV.same st_))
    have nt3:∀ ys,upd G2 t (.tup [.str y,.ref l]) hl≠some (.tup ys):=fun ys z=>by
      rw [st_ _ _ hh2] at z
      cases z
    have olC:C hl≠none:=by
      rw [hhlC]
      intro z
      cases z
    have ol1:upd G lf (.lst [.int 20]) hl≠none:=by
      rw [hh1]
      intro z
      cases z
    have dmC:Dm C (upd G lf (.lst [.int 20])):=(kG.dm (fun a ha=>by
      rcases az.mp ha with z | z
      · obtain ⟨x,y,q⟩:=puG
        exact ⟨_,by rw [z]; exact q⟩
      · exact ⟨_,by rw [aQ.mp z]; exact hh⟩)).trans (Dm.same sf)
    have new:HsO bs qs C (upd (upd G2 t (.tup [.str y,.ref l])) hl (.lst (hv++[.ref t]))) (.ref t) (y,dd):=((show HsO bs qs (upd G lf (.lst [.int 20])) (upd G2 t (.tup [.str y,.ref l])) (.ref t) (y,dd) from ⟨t,l,xs,rfl,ao,fl,st_ _ _ hl2,lxs,O.keepI (eV.same st_)⟩).old ol1 nt3).base dmC
    refine ⟨hv++[.ref t],hs++[(y,dd)],_,rfl,ao,by rw [ay,lhv]; rfl,by omega,(by rw [aV,hnm,tk]; rfl),dB (Paired.mono (fun v q z=>(HsO.keepI ki z).old olC nt3) hP) new,fun q hq=>?_,?_,?_⟩
    · rcases cE.mp hq with z | z
      · exact hk q z
      · rw [aQ.mp z]
        exact ⟨to,dp,sz⟩
    · obtain ⟨x,y',e⟩:=L2'.pu
      exact ⟨x,y',aR (st_ _ _ e) nhl.symm⟩
    · intro b o e nb
      have e1:=kG b o e nb
      have nbf:b≠lf:=aJ e1 hlf
      have nb':¬ b=p/\¬ b=hl:=by simpa using nb
      exact aR (st_ _ _ (k2 _ _ (sf _ _ e1) (by simp [nb'.1,nbf]))) nb'.2
  rintro σ G ⟨hv,hs,v11,rfl,hh,lhv,li2,hnm,hP,hk,puG,kG⟩
  dsimp only
  have lhs:=bL hP
  rw [ai] at lhv
  refine ⟨_,rfl,_,rfl,_,rfl,_,rfl,_,rfl,by show 5<=aE; omega,fun t ht=>?_⟩
  have st_:=aM ht (.tup [.str nm,.ref bl,.ref lq,.ref dl,.ref hl])
  have bG:But p H G:=fun b o e n=>kG _ _ (b0C b o e n) (by
    have:b≠hl:=aJ e fhl
    simp [n,this])
  have dmH:Dm H C:=fun a na=>by
    cases e:H a with
    | none=>rfl
    | some o =>
      by_cases c:a=p
      · obtain ⟨x,y,q⟩:=puC
        rw [c,q] at na
        cases na
      · rw [b0C a o e c] at na
        cases na
  refine k t _ bs qs ds hs ps ⟨⟨bl,lq,dl,hl,vb,hv,ao,st_ _ _ (kG _ _ hblC (by simp [nbl,nbh])),e8.same st_ (e8.tups (fun a xs e=>kG _ _ e (fun z=>?_)) bxC),st_ _ _ (kG _ _ hlqC (by simp [nlq,nqh])),st_ _ _ (kG _ _ hdC (by simp [ndl,ndh])),st_ _ _ hh,Paired.mono (fun v q z=>(HsO.keepI (eV.same st_) z).base dmH) hP,fbl,fq1,fdl,fhl⟩,h5,ndb,ndq,by omega,by omega,by omega,by omega,h6,hk,(by rw [hnm,ai,cM]; exact wJ ezs sgn),(fun x hx=>(cE.mp hx).elim (fun z=>l6 x (AI ebs z)) fun z=>l6 x (AI eqs z))⟩ (puG.same st_) (bG.same st_)
  rcases az.mp z with z | z
  · obtain ⟨x,y,q⟩:=puC
    rw [z,q] at e
    cases e
  · rw [aQ.mp z,hhlC] at e
    cases e
end
end My
namespace My
open PySem L2
structure MD where
  nm:Str
  bs:List Str
  qs:List Str
  ds:List Int
  hs:List (Str×Ds)
  ps:List (Str×Int)
def MIn (m:Int) (H H':Hp) (v:V) (M:MD):Prop:=∃ t,v=.ref t/\Mch m H H' t M.nm M.bs M.qs M.ds M.hs M.ps
theorem Mch.but {m:Int} {H H' H1:Hp} {t p:ae} {nm:Str} {bs qs:List Str} {ds:List Int} {hs:List (Str×Ds)} {ps:List (Str×Int)} (pu0:dD H p) (pu:dD H' p) (b:But p H' H1) (h:Mch m H H' t nm bs qs ds hs ps):Mch m H H1 t nm bs qs ds hs ps:=by
  have k:=eV.but pu b
  have np:∀ {a:ae},H a=none->a≠p:=fun {a} e z=>by
    obtain ⟨x,y,q⟩:=pu0
    rw [z,q] at e
    cases e
  obtain ⟨⟨bl,ql,dl,hl,vb,hv,h1,h2,h3,h4,h5,h6,h7,f1,f2,f3,f4⟩,kb,nb,nq,lb,lq,ld,lh,wb,hk,nh,ne⟩:=h
  exact ⟨⟨bl,ql,dl,hl,vb,hv,k _ _ h1 (pE _),b _ _ h2 (np f1),e8.tups (fun a xs e=>k _ _ e (pE xs)) h3,b _ _ h4 (np f2),b _ _ h5 (np f3),b _ _ h6 (np f4),Paired.mono (fun v q z=>HsO.keepI k z) h7,f1,f2,f3,f4⟩,kb,nb,nq,lb,lq,ld,lh,wb,hk,nh,ne⟩
theorem Mch.same {m:Int} {H H' H1:Hp} {t:ae} {nm:Str} {bs qs:List Str} {ds:List Int} {hs:List (Str×Ds)} {ps:List (Str×Int)} (b:cF H' H1) (h:Mch m H H' t nm bs qs ds hs ps):Mch m H H1 t nm bs qs ds hs ps:=by
  obtain ⟨⟨bl,ql,dl,hl,vb,hv,h1,h2,h3,h4,h5,h6,h7,f1,f2,f3,f4⟩,kb,nb,nq,lb,lq,ld,lh,wb,hk,nh,ne⟩:=h
  exact ⟨⟨bl,ql,dl,hl,vb,hv,b _ _ h1,b _ _ h2,e8.same b h3,b _ _ h4,b _ _ h5,b _ _ h6,Paired.mono (fun v q z=>HsO.keepI (eV.same b) z) h7,f1,f2,f3,f4⟩,kb,nb,nq,lb,lq,ld,lh,wb,hk,nh,ne⟩
theorem Mch.base {m:Int} {H0 H H':Hp} {t:ae} {nm:Str} {bs qs:List Str} {ds:List Int} {hs:List (Str×Ds)} {ps:List (Str×Int)} (s:Dm H0 H) (h:Mch m H H' t nm bs qs ds hs ps):Mch m H0 H' t nm bs qs ds hs ps:=by
  obtain ⟨⟨bl,ql,dl,hl,vb,hv,h1,h2,h3,h4,h5,h6,h7,f1,f2,f3,f4⟩,kb,nb,nq,lb,lq,ld,lh,wb,hk,nh,ne⟩:=h
  exact ⟨⟨bl,ql,dl,hl,vb,hv,h1,h2,h3,h4,h5,h6,Paired.mono (fun v q z=>HsO.base z s) h7,s _ f1,s _ f2,s _ f3,s _ f4⟩,kb,nb,nq,lb,lq,ld,lh,wb,hk,nh,ne⟩
theorem But.dm {p:ae} {H G:Hp} (b:But p H G) (pu:dD G p):Dm H G:=fun a n=>by
  cases e:H a with
  | none=>rfl
  | some o =>
    by_cases c:a=p
    · obtain ⟨x,y,q⟩:=pu
      rw [c,q] at n
      cases n
    · rw [b a o e c] at n
      cases n
section
variable {P:aX} {w:cz} {K:aj} {mg:Str->Option af} {base:cR} {f fD fN fM:ae} {fd fdD fdN fdM:cH}
seal L2.PS L2.PSs L2.PE L2.PA L2.PT L2.PW L2.PI L2.PG L2.PGs L2.PC
abbrev nMo:List Str:=["_law_purse_here","_law_most","_law_many","_law_signs_here"]
abbrev pMo:List Str:=["_law_purse_here","_law_most"]
theorem EI:cD nMo pMo (aB iq):=⟨rfl,rfl,rfl,by decide +kernel,rfl,by decide +kernel,by decide +kernel⟩
theorem ndMo:((["_law_name"]:List Str)++nMo).Nodup:=by decide +kernel
def spMo:Sp:=fun vs H Q _=>∃ (p:ae) (n:Int),vs=[.ref p,.int n]/\dD H p/\0 < n/\n<=9 /\
  ∀ (l:ae) (xs:List V) (Ms:List MD) (H':Hp),H l=none->H' l=some (.lst xs)->bJ (MIn Ms.length H H') xs Ms->0 < Ms.length->(Ms.length:Int)<=n->(Ms.map MD.nm).Nodup->dD H' p->But p H H'->Q (.ref l) H'
theorem ok_mo (D:Df K mg "_law_model" iq pMo f fd) (DN:Df K mg "_law_names" ip ["_law_purse_here","_law_many"] fN fdN) (DM:Df K mg "_law_machine" gD pMa fM fdM) (GM:∀ sgs,bZ P w K mg base CX0 18 fM fdM pMa (EH sgs)) (DD:Df K mg "_law_draw" eE ["_law_purse_here","_law_out_of"] fD fdD) (B:Bl mg) :
    bZ P w K mg base CX0 19 f fd pMo spMo:=by
  have GD:bZ P w K mg base CX0 1 fD fdD ["_law_purse_here","_law_out_of"] jE:=jH DD
  have GN:bZ P w K mg base CX0 2 fN fdN ["_law_purse_here","_law_many"] t8:=vk DN DD B
  have GM:bZ P w K mg base CX0 18 fM fdM pMa (fun vs H Q E=>∃ sgs,EH sgs vs H Q E):=⟨fun vs H Q E h=>by
    obtain ⟨sgs,p,ls,nm,m,rfl,_⟩:=h
    rfl,fun A outer s H ar us vs Q E hr he hb hv h=>by
    obtain ⟨sgs,h⟩:=h
    exact (GM sgs).run A outer s H ar us vs Q E hr he hb hv h⟩
  refine D.F.ok EI (fun vs H Q E h=>?_) (fun cdv A outer s H vs Q E hr h=>?_)
  · obtain ⟨p,n,rfl,_⟩:=h
    rfl
  obtain ⟨p,n,rfl,pu,n0,n9,k⟩:=h
  have r1:eN 1 _:=hr.mono (by decide)
  have r2:eN 2 _:=hr.mono (by decide)
  refine ⟨_,ah (bF (i:=2) EI.nd rfl (Or.inr rfl) (cJ fZ ag (aN GD r1 (by rfl) DD.m DD.F.kp DD.b .nil bR (aT (pv 0) (aT (pv 1) ak)))))
    (ah (bF (i:=3) EI.nd rfl (Or.inr rfl) (aN GN r2 (by rfl) DN.m DN.F.kp DN.b .nil bR (aT (pv 0) (cX ag ak))))
    (au (bD (m8 ["_law_name"] (iP.open (NN:=nMo) (N:=nMo) (sc:=aB iq) rfl rfl (by decide +kernel) rfl (by decide +kernel) (by decide +kernel) rfl (by decide +kernel)) rfl (fj (aN GN r2 (by rfl) DN.m DN.F.kp DN.b .nil bR (aT (pv 0) (aT (pv 2) ak)))) (fun _ _ _ _=>cP (i:=0) ndMo rfl (Or.inl rfl)) (fun _ _ _ _=>m7) (fun _ _ _ _=>aN GM hr (by rfl) DM.m DM.F.kp DM.b .nil bR (aT (pv 1) (aT (pv 0) (aT (pv 4) (aT (pv 3) ak))))))))),?_⟩
  have big:=eM
  refine aO (cN ?_)
  refine ⟨_,rfl,_,rfl,p,n,rfl,pu,n0,by omega,fun r G1 r0 r1 pu1 b1=>⟨_,_,rfl,rfl,?_⟩⟩
  refine aZ ?_
  dsimp only
  refine aO (cN ?_)
  refine ⟨_,rfl,p,4,rfl,pu1,by decide,by decide,fun ls sgs G2 fls hls lsg nds _ pu2 b2=>?_⟩
  refine aZ ?_
  dsimp only
  refine ⟨_,rfl,_,rfl,p,1 + r,rfl,pu2,by omega,by omega,fun ln ss G3 fln hln lss ndn _ pu3 b3=>⟨ln,rfl,⟨_,SqL.of hln⟩,?_⟩⟩
  have nln:=gi pu3 hln
  have nls:=gi pu2 hls
  have hls3:=b3 _ _ hls nls
  have b03:But p H G3:=(b1.trans b2).trans b3
  have lsN:ss.length<=9:=by omega
  refine lE (K:=K) (a:=ln) (xs:=ss.map V.str) (fun i ys G=>ys.length=i/\dD G p/\But p G3 G/\∃ Ms:List MD,Ms.map MD.nm=ss.take i/\bJ (MIn (1 + r) H G) ys Ms) ⟨rfl,pu3,But.refl _ _,[],rfl,.nil⟩ ?_ ?_ ?_
  · rintro i ys G hi ⟨h1,h2,h3,_⟩
    rw [ai] at hi
    exact ⟨SqL.of (h3 _ _ hln nln),by omega⟩
  · rintro i x ys G hi ⟨h1,h2,h3,Ms,h5,h6⟩
    obtain ⟨y,hy,rfl,lt,tk⟩:=q9 hi
    refine ⟨rfl,?_⟩
    unfold wy
    refine eC ?_
    refine ⟨_,rfl,_,rfl,_,rfl,_,rfl,sgs,p,ls,y,1 + r,rfl,h2,h3 _ _ hls3 nls,by omega,by omega,nds,by omega,by omega,fun t G' bs qs ds hs ps M pu' b'=>?_⟩
    have b0G:But p H G:=b03.trans h3
    refine ⟨by rw [ay,h1]; rfl,pu',h3.trans b',Ms++[⟨y,bs,qs,ds,hs,ps⟩],?_,?_⟩
    · rw [aV,h5,tk]
      rfl
    · refine dB (Paired.mono (fun v q z=>?_) h6) ⟨t,rfl,M.base (b0G.dm h2)⟩
      obtain ⟨t',e,z⟩:=z
      exact ⟨t',e,z.but pu h2 b'⟩
  rintro ys G ⟨h1,pu4,b4,Ms,h5,h6⟩ l hl
  rw [ai,cM] at h5
  rw [ai] at h1
  have lM:Ms.length=ss.length:=by rw [<- h5,ai]
  have s5:=aM hl (.lst ys)
  have b04:But p H G:=b03.trans b4
  refine k l ys Ms _ (b04.dm pu4 l hl) ao ?_ (by omega) (by omega) (by rw [h5]; exact ndn) (pu4.same s5) (b04.same s5)
  rw [show ((Ms.length:Nat):Int)=1 + r from by omega]
  exact Paired.mono (fun v q z=>by
    obtain ⟨t',e,z⟩:=z
    exact ⟨t',e,z.same s5⟩) h6
end
end My
namespace My
open PySem L2
theorem B6 {ss:List Str} {r:Int} (h0:0<=r) (h1:r < ss.length):∃ s,atI (ss.map V.str) r=some (.str s):=by
  obtain ⟨j,rfl⟩:∃ j:Nat,r=(j:Int):=⟨r.toNat,by omega⟩
  have lt:j < ss.length:=by omega
  exact ⟨ss[j],jG (by rw [dk,cC lt]; rfl)⟩
theorem vm {K:aj} {a t:ae} {xs ts:List V} {c:Int} {n i:Nat} {g:TG} {tc:L2.TT} {te:TE} {σ:St} {H:Hp} {Q:VK} (hv:σ[i]?=some (some (.ref t))) (ht:SqT K H t ts) (hat:atI ts c=some (.ref a)) (hx:SqL K H a xs) (Pv:Nat->List V->Hp->Prop) (h0:Pv 0 [] H) (hl:∀ i ys H,i<=xs.length->Pv i ys H->SqL K H a xs/\ys.length < aE)
    (hs:∀ i x ys H,xs[i]?=some x->Pv i ys H->g x (cV n none++σ) H fun σ2 H2=>σ2.drop n=σ/\tc σ2 H2 fun b H3=>if b=true then te σ2 H3 fun y H4=>Pv (i + 1) (ys++[y]) H4 else Pv (i + 1) ys H3)
    (hd:∀ ys H,Pv xs.length ys H->∀ p,H p=none->Q (.ref p) (upd H p (.lst ys))):qM n (w9 K (tOp (rIxT K) (qm i) (tC (.int c)))) g tc te σ H Q:=
  ⟨.ref t,hv,t,ts,c,_,rfl,rfl,ht,hat,a,rfl,⟨xs,hx⟩,lE Pv h0 hl hs hd⟩
section
variable {P:aX} {w:cz} {K:aj} {mg:Str->Option af} {base:cR} {f fD:ae} {fd fdD:cH}
seal L2.PS L2.PSs L2.PE L2.PA L2.PT L2.PW L2.PI L2.PG L2.PGs L2.PC
end
end My
namespace My
open PySem L2
theorem oJ {H:Hp}:∀ {ps:List (Str×Int)} {vs:List V},e8 H ps vs->bJ (fun v (x:Str)=>∃ a n,v=.ref a/\H a=some (.tup [.str x,n])) vs (ps.map (·.1))
  | [],_,h=>by
    cases h
    exact .nil
  | p :: ps,_,h=>by
    cases h with
    | cons a b =>
      obtain ⟨t,e,h⟩:=a
      exact .cons ⟨t,_,e,h⟩ (oJ (ps:=ps) b)
theorem ku {α:Type} {R:V->α->Prop}:∀ {xs:List V} {as:List α},bJ R xs as->∀ x∈xs,∃ a∈as,R x a:=by
  intro xs as p
  induction p with
  | nil =>
    intro x h
    cases h
  | cons a b ih =>
    intro x h
    rcases az.mp h with z | z
    · exact ⟨_,aA,by rw [z]; exact a⟩
    · obtain ⟨c,hc,r⟩:=ih x z
      exact ⟨c,aa _ hc,r⟩
def rg (H:Hp) (v:V) (M:MD):Prop:=∃ (t bl ql:ae) (n0 x3 x4:V) (vb:List V),v=.ref t/\H t=some (.tup [n0,.ref bl,.ref ql,x3,x4])/\H bl=some (.lst vb)/\e8 H M.ps vb/\H ql=some (.lst (M.qs.map V.str))
structure MoI (m:Int) (H:Hp) (v:V) (M:MD):Prop where
  ma:og M.bs M.qs M.ds M.hs H v
  fs:rg H v M
  kb:M.ps.map (·.1)=M.bs
  nb:M.bs.Nodup
  nq:M.qs.Nodup
  lb:M.bs.length<=9
  lq:M.qs.length<=9
  ld:M.ds.length<=100
  lh:M.hs.length<=9
  wb:∀ q∈M.ps,-4<=q.2/\q.2<=4
  hk:∀ q∈M.hs,q.2.toOk m/\q.2.deep<=4/\q.2.size<=3 * ddz 4
  nh:(M.hs.map (·.1)).Nodup
  ne:∀ x∈M.bs++M.qs,x.length<=6
theorem rg.same {H H':Hp} (s:cF H H') {v:V} {M:MD} (h:rg H v M):rg H' v M:=by
  obtain ⟨t,bl,ql,n0,x3,x4,vb,e,h1,h2,h3,h4⟩:=h
  exact ⟨t,bl,ql,n0,x3,x4,vb,e,s _ _ h1,s _ _ h2,h3.same s,s _ _ h4⟩
theorem MoI.same {m:Int} {H H':Hp} (s:cF H H') {v:V} {M:MD} (h:MoI m H v M):MoI m H' v M:=
  ⟨h.ma.same s,h.fs.same s,h.kb,h.nb,h.nq,h.lb,h.lq,h.ld,h.lh,h.wb,h.hk,h.nh,h.ne⟩
theorem MIn.moI {m:Int} {H H':Hp} {v:V} {M:MD} (h:MIn m H H' v M):MoI m H' v M:=by
  obtain ⟨t,rfl,⟨bl,ql,dl,hl,vb,hv,h1,h2,h3,h4,h5,h6,h7,f1,f2,f3,f4⟩,kb,nb,nq,lb,lq,ld,lh,wb,hk,nh,ne⟩:=h
  refine ⟨⟨t,bl,ql,dl,hl,_,vb,hv,rfl,h1,h2,by rw [<- kb]; exact oJ h3,h4,h5,h6,Paired.mono (fun v q z=>?_) h7⟩,⟨t,bl,ql,_,_,_,vb,rfl,h1,h2,h3,h4⟩,kb,nb,nq,lb,lq,ld,lh,wb,hk,nh,ne⟩
  obtain ⟨u,l,xs,e,g1,g2,g3,g4,g5⟩:=z
  exact ⟨u,.ref l,e,g1,l,xs,rfl,g3,g4,g5.now⟩
theorem MIn.tree {m:Int} {H H':Hp} {v:V} {M:MD} (h:MIn m H H' v M):Tree H' 28 v:=by
  obtain ⟨t,rfl,⟨bl,ql,dl,hl,vb,hv,h1,h2,h3,h4,h5,h6,h7,f1,f2,f3,f4⟩,kb,nb,nq,lb,lq,ld,lh,wb,hk,nh,ne⟩:=h
  have lps:M.ps.length<=9:=by
    have:=congrArg gF kb
    rw [ai] at this
    omega
  refine Tree.atup h1 (by show 5 < 1000; decide) fun y hy=>?_
  simp only [az,bY,or_false] at hy
  rcases hy with rfl | rfl | rfl | rfl | rfl
  · exact Tree.scal (by exact trivial) _
  · exact Tree.alst h2 (by rw [<- h3.length]; omega) fun z hz=>h3.tree (n:=25) z hz
  · refine Tree.alst h4 (by rw [ai]; omega) fun z hz=>?_
    obtain ⟨x,_,rfl⟩:=cG.mp hz
    exact Tree.scal (by exact trivial) _
  · refine Tree.alst h5 (by rw [ai]; omega) fun z hz=>?_
    obtain ⟨x,_,rfl⟩:=cG.mp hz
    exact Tree.scal (by exact trivial) _
  · refine Tree.alst h6 (by rw [bL h7]; omega) fun z hz=>?_
    obtain ⟨q,hq,u,l,xs,rfl,g1,g2,g3,g4,g5⟩:=ku h7 z hz
    refine Tree.atup g1 (by show 2 < 1000; decide) fun y hy=>?_
    simp only [az,bY,or_false] at hy
    rcases hy with rfl | rfl
    · exact Tree.scal (by exact trivial) _
    · exact Tree.alst g3 g4 fun z hz=>eA.tree q.2 xs 24 g5.now (by have:=(hk q hq).2.1; omega) z hz
theorem rg.alike {H H':Hp} {v v':V} {M:MD} (h:rg H v M) (al:Alike H H' 28 v v'):rg H' v' M:=by
  obtain ⟨t,bl,ql,n0,x3,x4,vb,rfl,h1,h2,h3,h4⟩:=h
  obtain ⟨t',ys2,rfl,al2,p3⟩:=pz h1 al
  obtain ⟨z0,yr,rfl,a0,p3⟩:=dJ p3
  obtain ⟨z1,yr,rfl,a1,p3⟩:=dJ p3
  obtain ⟨z2,yr,rfl,a2,p3⟩:=dJ p3
  obtain ⟨z3,yr,rfl,a3,p3⟩:=dJ p3
  obtain ⟨z4,yr,rfl,a4,p3⟩:=dJ p3
  obtain rfl:=lH p3
  obtain ⟨b',vb',rfl,c1,d1⟩:=ng h2 a1
  obtain ⟨q',vq,rfl,c2,d2⟩:=ng h4 a2
  rw [iF d2 (by intro x hx; obtain ⟨z,_,rfl⟩:=cG.mp hx; exact trivial)] at c2
  exact ⟨t',b',q',z0,z3,z4,vb',rfl,al2,c1,h3.alike d1,c2⟩
def AJ (m:Int) (H:Hp) (ml:ae) (Ms:List MD):Prop:=∃ xs,H ml=some (.lst xs)/\bJ (MoI m H) xs Ms
theorem AJ.same {m:Int} {H H':Hp} (s:cF H H') {ml:ae} {Ms:List MD} (h:AJ m H ml Ms):AJ m H' ml Ms:=by
  obtain ⟨xs,h1,h2⟩:=h
  exact ⟨xs,s _ _ h1,Paired.mono (fun _ _ z=>z.same s) h2⟩
theorem B7 {m:Int} {H0 H:Hp} {ml:ae} {xs:List V} {Ms:List MD} (h:H ml=some (.lst xs)) (p:bJ (MIn m H0 H) xs Ms) (l:Ms.length < 1000):Tree H 29 (.ref ml):=
  Tree.alst h (by rw [bL p]; exact l) fun x hx=>by
    obtain ⟨M,_,z⟩:=ku p x hx
    exact z.tree
theorem B8 {m:Int} {H0 H H2:Hp} {ml:ae} {xs:List V} {Ms:List MD} {v':V} (h:H ml=some (.lst xs)) (p:bJ (MIn m H0 H) xs Ms) (al:Alike H H2 29 (.ref ml) v'):∃ ml',v'=.ref ml'/\AJ m H2 ml' Ms:=by
  obtain ⟨ml',ys,rfl,h1,p1⟩:=ng h al
  refine ⟨ml',rfl,ys,h1,pD (R:=MIn m H0 H) (S:=Alike H H2 28) (T:=Tree H 28) (fun v M v' a b c=>?_) p p1 fun x hx=>?_⟩
  · have z:=a.moI
    exact ⟨z.ma.alike c b,z.fs.alike b,z.kb,z.nb,z.nq,z.lb,z.lq,z.ld,z.lh,z.wb,z.hk,z.nh,z.ne⟩
  · obtain ⟨M,_,z⟩:=ku p x hx
    exact z.tree
end My
namespace My
open PySem L2
section
variable {P:aX} {w:cz} {K:aj} {mg:Str->Option af} {base:cR} {f fA fW CN CG CS CM:ae} {fd fdA fdW:cH}
def spLT:Sp:=fun vs H Q _=>∃ (k:Str) (a b:Int),vs=[.str k,.int a,.int b]/\k∈qT/\Wo a/\Wo b/\∀ H':Hp,cF H H'->Q (Bz (lW k a b)) H'
theorem EJ:cD ["_law_word","_law_one","_law_other","_law_some","_law_whole_here"] ["_law_word","_law_one","_law_other"] (aB iE):=⟨rfl,rfl,rfl,by decide +kernel,rfl,by decide +kernel,by decide +kernel⟩
theorem EK (a b c:V):o7 [] [((Sum.inr "plus":Key),a),(Sum.inr "less",b),(Sum.inr "times",c)]=[((Sum.inr "plus":Key),a),(Sum.inr "less",b),(Sum.inr "times",c)]:=rfl
def B9 (a b c d e:V):List (Key×V):=[((Sum.inr "plus":Key),a),(Sum.inr "less",b),(Sum.inr "times",c),(Sum.inr "below",d),(Sum.inr "same",e)]
theorem put4 (a b c d:V):jt [((Sum.inr "plus":Key),a),(Sum.inr "less",b),(Sum.inr "times",c)] (Sum.inr "below") d=[((Sum.inr "plus":Key),a),(Sum.inr "less",b),(Sum.inr "times",c),(Sum.inr "below",d)]:=rfl
theorem put5 (a b c d e:V):jt [((Sum.inr "plus":Key),a),(Sum.inr "less",b),(Sum.inr "times",c),(Sum.inr "below",d)] (Sum.inr "same") e=B9 a b c d e:=rfl
theorem ok_LT (D:Df K mg "_law_two" iE ["_law_word","_law_one","_law_other"] f fd) (B:Bl mg):bZ P w K mg base CX0 1 f fd ["_law_word","_law_one","_law_other"] spLT:=by
  refine D.F.ok EJ (fun vs H Q E h=>?_) (fun cdv A outer s H vs Q E hr h=>?_)
  · obtain ⟨k,a,b,rfl,_⟩:=h
    rfl
  obtain ⟨k,a,b,rfl,hk,ha,hb,h⟩:=h
  have hu:=jZ hr
  refine ⟨_,ah (bF (i:=3) EJ.nd rfl (Or.inl rfl) (Br (qJ bN (cJ fZ (pv 1) (pv 2)) (qJ bN (cJ gK (pv 1) (pv 2)) (qJ bN (cJ jQ (pv 1) (pv 2)) Bq))) rfl rfl (by simp) (by decide)))
    (ah (gu hu (pv 3) bN (hV oZ (by rfl) B.int boot_int (aw (j2 nK (pv 1) (pv 2) (bM _)) ak)) rfl)
    (ah (gu hu (pv 3) bN (hV oZ (by rfl) B.int boot_int (aw (j2 di (pv 1) (pv 2) (bM _)) ak)) rfl)
    (ah (cK (qp (wg hu (pv 0) (pv 3))) (au (bD (gs hu (pv 3) (pv 0) (fun _ _=>rfl)))) bH)
    (ah (cK (bE di (pv 2) ag (bM _)) (au (bD bN)) bH)
    (ah (bF (i:=4) EJ.nd rfl (Or.inl rfl) (cJ uS (pv 1) (pv 2)))
    (ah (cK (bE di (pv 0) bN (bM _)) (au (bD (pv 4))) bH)
    (au (bD (cJ gK (pv 1) (cJ jQ (pv 4) (pv 2))))))))))),?_⟩
  intro d hd
  have sd:=aM hd (.dK [])
  have mo:-(2 ^ 63) < a/\a < 2 ^ 63:=by unfold Wo at ha; omega
  refine ⟨_,rfl,_,rfl,_,_,rfl,rfl,_,rfl,_,rfl,_,_,rfl,rfl,_,rfl,_,rfl,_,_,rfl,rfl,.inl ⟨?_,?_⟩,ao,[((Sum.inr "plus":Key),.int (a + b)),(Sum.inr "less",.int (a - b)),(Sum.inr "times",.int (a * b))],rfl,(by show 3<=15; decide),?_⟩
  · unfold Wo at ha; omega
  · unfold Wo at ha; omega
  rw [EK]
  have sA:cF H (upd (upd H d (.dK [])) d (.dK [((Sum.inr "plus":Key),.int (a + b)),(Sum.inr "less",.int (a - b)),(Sum.inr "times",.int (a * b))])):=gz sd hd _
  have hA:upd (upd H d (.dK [])) d (.dK [((Sum.inr "plus":Key),.int (a + b)),(Sum.inr "less",.int (a - b)),(Sum.inr "times",.int (a * b))]) d=_:=ao
  generalize upd (upd H d (.dK [])) d (.dK [((Sum.inr "plus":Key),.int (a + b)),(Sum.inr "less",.int (a - b)),(Sum.inr "times",.int (a * b))])=GA at sA hA
  have dp1:=kY.k (k:=Sum.inr "below") (v:=.int (if decide (a < b)=true then 1 else 0)) hA (by show 3 < aE; decide)
  rw [put4] at dp1
  refine ⟨_,rfl,_,rfl,_,_,rfl,rfl,.inr ⟨_,rfl,_,rfl,d,_,rfl,dp1,?_⟩⟩
  have sB:=gz sA hd (.dK [((Sum.inr "plus":Key),.int (a + b)),(Sum.inr "less",.int (a - b)),(Sum.inr "times",.int (a * b)),(Sum.inr "below",.int (if decide (a < b)=true then 1 else 0))])
  have hB:upd GA d (.dK [((Sum.inr "plus":Key),.int (a + b)),(Sum.inr "less",.int (a - b)),(Sum.inr "times",.int (a * b)),(Sum.inr "below",.int (if decide (a < b)=true then 1 else 0))]) d=_:=ao
  generalize upd GA d (.dK [((Sum.inr "plus":Key),.int (a + b)),(Sum.inr "less",.int (a - b)),(Sum.inr "times",.int (a * b)),(Sum.inr "below",.int (if decide (a < b)=true then 1 else 0))])=GB at sB hB
  have dp2:=kY.k (k:=Sum.inr "same") (v:=.int (if decide (V.int a=V.int b)=true then 1 else 0)) hB (by show 4 < aE; decide)
  rw [put5] at dp2
  refine ⟨_,rfl,_,rfl,rfl,.inr ⟨_,rfl,_,rfl,d,_,rfl,dp2,?_⟩⟩
  have sC:=gz sB hd (.dK (B9 (.int (a + b)) (.int (a - b)) (.int (a * b)) (.int (if decide (a < b)=true then 1 else 0)) (.int (if decide (V.int a=V.int b)=true then 1 else 0))))
  have hC:upd GB d (.dK (B9 (.int (a + b)) (.int (a - b)) (.int (a * b)) (.int (if decide (a < b)=true then 1 else 0)) (.int (if decide (V.int a=V.int b)=true then 1 else 0)))) d=_:=ao
  generalize upd GB d (.dK (B9 (.int (a + b)) (.int (a - b)) (.int (a * b)) (.int (if decide (a < b)=true then 1 else 0)) (.int (if decide (V.int a=V.int b)=true then 1 else 0))))=GC at sC hC
  have two:=h GC sC
  have dg:=kd.k (k:=Sum.inr k) hC
  have bsmall:-(2 ^ 64) < b/\b < 2 ^ 64:=by
    unfold Wo at hb
    omega
  have lo:k="plus"\/k="less"\/k="times"\/k="below"\/k="same"\/k="part"\/k="rest":=by
    have:∀ x∈qT,x="plus"\/x="less"\/x="times"\/x="below"\/x="same"\/x="part"\/x="rest":=by decide +kernel
    exact this k hk
  rcases lo with rfl | rfl | rfl | rfl | rfl | rfl | rfl
  · exact ⟨_,rfl,_,rfl,d,_,rfl,dg,_,rfl,eC ⟨_,rfl,_,rfl,d,_,rfl,dg,two⟩⟩
  · exact ⟨_,rfl,_,rfl,d,_,rfl,dg,_,rfl,eC ⟨_,rfl,_,rfl,d,_,rfl,dg,two⟩⟩
  · exact ⟨_,rfl,_,rfl,d,_,rfl,dg,_,rfl,eC ⟨_,rfl,_,rfl,d,_,rfl,dg,two⟩⟩
  · refine ⟨_,rfl,_,rfl,d,_,rfl,dg,_,rfl,eC ⟨_,rfl,_,rfl,d,_,rfl,dg,?_⟩⟩
    have e:lW "below" a b=.ok (if a < b then 1 else 0):=rfl
    rw [e] at two
    by_cases z:a < b
    · rw [if_pos z] at two
      rw [decide_eq_true z]
      exact two
    · rw [if_neg z] at two
      rw [decide_eq_false z]
      exact two
  · refine ⟨_,rfl,_,rfl,d,_,rfl,dg,_,rfl,eC ⟨_,rfl,_,rfl,d,_,rfl,dg,?_⟩⟩
    have e:lW "same" a b=.ok (if a=b then 1 else 0):=rfl
    rw [e] at two
    by_cases z:a=b
    · rw [if_pos z] at two
      rw [decide_eq_true (show V.int a=V.int b by rw [z])]
      exact two
    · rw [if_neg z] at two
      rw [decide_eq_false (show ¬ V.int a=V.int b from fun e=>z (jU e))]
      exact two
  · refine ⟨_,rfl,_,rfl,d,_,rfl,dg,_,rfl,dY ?_⟩
    have e:lW "part" a b=if b=0 then .nought else .ok (a.fdiv b):=rfl
    rw [e] at two
    refine ⟨_,rfl,rfl,_,rfl,gH (fun c=>?_) (fun c=>?_)⟩
    · rw [if_pos (jU (gc c))] at two
      exact two
    have n6:¬ b=0:=fun z=>hU c (by rw [z])
    rw [if_neg n6] at two
    refine ⟨_,rfl,_,rfl,_,_,rfl,rfl,⟨n6,by omega⟩,?_⟩
    exact ⟨_,rfl,rfl,_,rfl,fz (pA _) (eC ⟨_,rfl,two⟩)⟩
  · refine ⟨_,rfl,_,rfl,d,_,rfl,dg,_,rfl,dY ?_⟩
    have e:lW "rest" a b=if b=0 then .nought else .ok (a.fmod b):=rfl
    rw [e] at two
    refine ⟨_,rfl,rfl,_,rfl,gH (fun c=>?_) (fun c=>?_)⟩
    · rw [if_pos (jU (gc c))] at two
      exact two
    have n6:¬ b=0:=fun z=>hU c (by rw [z])
    rw [if_neg n6] at two
    refine ⟨_,rfl,_,rfl,_,_,rfl,rfl,⟨n6,by omega⟩,?_⟩
    refine ⟨_,rfl,rfl,_,rfl,fz (b:=false) (by decide +kernel) (dY ?_)⟩
    have e2:a.fmod b=a - a.fdiv b * b:=by rw [Int.mul_comm]; exact Int.fmod_def a b
    rw [e2] at two
    exact ⟨_,rfl,_,rfl,_,rfl,_,_,rfl,rfl,.inr bsmall,_,_,rfl,rfl,two⟩
abbrev pLR:List Str:=["_law_formula_here","_law_state","_law_now","_law_got"]
structure rh (bs qs:List Str) (H:Hp) (wd rd gl:ae) (e:pW):Prop where
  hwd:∃ bk:List (Key×V),H wd=some (.dK bk)/\∀ x∈bs,kX bk (Sum.inr x)=some (.int (e.bx x))
  hrd:∃ qk:List (Key×V),H rd=some (.dK qk)/\∀ x∈qs,∃ l xs,kX qk (Sum.inr x)=some (.ref l)/\H l=some (.lst xs)/\xs.length=e.lg x
  hgl:H gl=some (.lst [.int e.g0,.int e.g1])
theorem rh.same {bs qs:List Str} {H H':Hp} {wd rd gl:ae} {e:pW} (h:rh bs qs H wd rd gl e) (s:cF H H'):rh bs qs H' wd rd gl e:=by
  obtain ⟨⟨bk,h1,h2⟩,⟨qk,h3,h4⟩,h5⟩:=h
  refine ⟨⟨bk,s _ _ h1,h2⟩,⟨qk,s _ _ h3,fun x hx=>?_⟩,s _ _ h5⟩
  obtain ⟨l,xs,a,b,c⟩:=h4 x hx
  exact ⟨l,xs,a,s _ _ b,c⟩
def yW (n:Nat):Sp:=fun vs H Q _=>∃ (v:V) (F:Fm) (bs qs:List Str) (sl wd rd gl:ae) (x y:V) (e:pW),vs=[v,.ref sl,.int e.nw,.ref gl]/\H sl=some (.lst [.ref wd,.ref rd,x,y])/\iu bs qs H v F/\F.depth<=n/\rh bs qs H wd rd gl e/\e.Ok bs qs/\∀ H':Hp,cF H H'->Q (Bz (ev e F)) H'
theorem Ca:cD (pLR++(["_law_one","_law_other","_law_found"]:List Str)) pLR (aB fu):=⟨rfl,rfl,rfl,by decide +kernel,rfl,by decide +kernel,by decide +kernel⟩
theorem Cb {n:Nat} (D:Df K mg "_law_comes_to" fu pLR f fd) (DT:Df K mg "_law_two" iE ["_law_word","_law_one","_law_other"] fA fdA) (B:Bl mg)
    (G:bZ P w K mg base CX0 (n + 1) f fd pLR (yW n)):bZ P w K mg base CX0 (n + 2) f fd pLR (yW (n + 1)):=by
  have GT:bZ P w K mg base CX0 1 fA fdA ["_law_word","_law_one","_law_other"] spLT:=ok_LT DT B
  refine D.F.ok Ca (fun vs H Q E h=>?_) (fun cdv A outer s H vs Q E hr h=>?_)
  · obtain ⟨v,F,bs,qs,sl,wd,rd,gl,x0,y0,e,rfl,_⟩:=h
    rfl
  obtain ⟨v,F,bs,qs,sl,wd,rd,gl,x0,y0,e,rfl,hsl,hF,hd,ho,eo,h⟩:=h
  have hu:=jZ hr
  have r1:eN 1 _:=hr.mono (by omega)
  refine ⟨_,ah (cK (bE di (aP bC (pv 0) ag (fun _ _=>rfl)) bN (bM _)) (au (bD (aP bC (pv 0) ag (fun _ _=>rfl)))) bH)
    (ah (cK (bE di (aP bC (pv 0) ag (fun _ _=>rfl)) bN (bM _)) (au (bD (gs hu (aP bT (pv 1) ag (fun _ _=>rfl)) (aP bC (pv 0) ag (fun _ _=>rfl)) (fun _ _=>rfl)))) bH)
    (ah (cK (bE di (aP bC (pv 0) ag (fun _ _=>rfl)) bN (bM _)) (au (bD (cu gU (by rfl) B.len cw (aw (gs hu (aP bT (pv 1) ag (fun _ _=>rfl)) (aP bC (pv 0) ag (fun _ _=>rfl)) (fun _ _=>rfl)) ak)))) bH)
    (ah (cK (bE di (aP bC (pv 0) ag (fun _ _=>rfl)) bN (bM _)) (au (bD (aP bT (pv 3) (aP bC (pv 0) ag (fun _ _=>rfl)) (fun _ _=>rfl)))) bH)
    (ah (cK (bE di (aP bC (pv 0) ag (fun _ _=>rfl)) bN (bM _)) (au (bD (pv 2))) bH)
    (ah (bF (i:=4) Ca.nd rfl (Or.inl rfl) (aN G hr rfl D.m D.F.kp D.b .nil bR (aw (aP bC (pv 0) ag (fun _ _=>rfl)) (aw (pv 1) (aw (pv 2) (aw (pv 3) ak))))))
    (ah (cK (fo (cu dO (by rfl) B.isi eF (aw (pv 4) (aw (fG (v:=.ty "str") (by rfl) B.str boot_str rfl) ak)))) (au (bD (pv 4))) bH)
    (ah (bF (i:=5) Ca.nd rfl (Or.inl rfl) (aN G hr rfl D.m D.F.kp D.b .nil bR (aw (aP bC (pv 0) ag (fun _ _=>rfl)) (aw (pv 1) (aw (pv 2) (aw (pv 3) ak))))))
    (ah (cK (fo (cu dO (by rfl) B.isi eF (aw (pv 5) (aw (fG (v:=.ty "str") (by rfl) B.str boot_str rfl) ak)))) (au (bD (pv 5))) bH)
    (ah (bF (i:=6) Ca.nd rfl (Or.inl rfl) (aN GT r1 rfl DT.m DT.F.kp DT.b .nil bR (aw (aP bC (pv 0) ag (fun _ _=>rfl)) (aw (pv 4) (aw (pv 5) ak)))))
    (ah (cK (mC (ik (fo (cu dO (by rfl) B.isi eF (aw (pv 6) (aw (fG (v:=.ty "str") (by rfl) B.str boot_str rfl) ak))))) (kF (kH (bE nK (pv 6) (uB qx (cJ iG ag ag)) (bM _)) (j8 (bE kK (pv 6) (cJ iG ag ag) (bM _)))).pt)).pt (au (bD bN)) bH)
    (au (bD (pv 6))))))))))))),?_⟩
  have c15:oX 10 15:=⟨by decide,by decide,by decide⟩
  obtain ⟨k1,k2,k3,k4,k5,k6,k7,k8,k9,k10⟩:=va
  have hH:=h H (cF.refl H)
  cases hF with
  | @num t n ht hn =>
    refine ⟨_,rfl,t,_,_,_,rfl,rfl,SqT.of ht,rfl,rfl,_,rfl,fz (pA _) (eC ?_)⟩
    exact ⟨_,rfl,t,_,_,_,rfl,rfl,SqT.of ht,rfl,hH⟩
  | @box t x ht hx =>
    obtain ⟨bk,g1,g2⟩:=ho.hwd
    refine ⟨_,rfl,t,_,_,_,rfl,rfl,SqT.of ht,rfl,rfl,_,rfl,fz (kl k1) (dY ?_)⟩
    refine ⟨_,rfl,t,_,_,_,rfl,rfl,SqT.of ht,rfl,rfl,_,rfl,fz (pA _) (eC ?_)⟩
    exact ⟨_,rfl,sl,_,_,_,rfl,rfl,SqL.of hsl,rfl,_,rfl,t,_,_,_,rfl,rfl,SqT.of ht,rfl,wd,_,rfl,(by have z:=kd.k (k:=Sum.inr x) g1; rw [g2 x hx] at z; exact z),hH⟩
  | @long t x ht hx =>
    obtain ⟨qk,g1,g2⟩:=ho.hrd
    obtain ⟨l,xs,g3,g4,g5⟩:=g2 x hx
    refine ⟨_,rfl,t,_,_,_,rfl,rfl,SqT.of ht,rfl,rfl,_,rfl,fz (kl k2) (dY ?_)⟩
    refine ⟨_,rfl,t,_,_,_,rfl,rfl,SqT.of ht,rfl,rfl,_,rfl,fz (kl k3) (dY ?_)⟩
    refine ⟨_,rfl,t,_,_,_,rfl,rfl,SqT.of ht,rfl,rfl,_,rfl,fz (pA _) (eC ?_)⟩
    refine ⟨_,rfl,sl,_,_,_,rfl,rfl,SqL.of hsl,rfl,_,rfl,t,_,_,_,rfl,rfl,SqT.of ht,rfl,rd,_,rfl,(by have z:=kd.k (k:=Sum.inr x) g1; rw [g3] at z; exact z),l,xs,rfl,.inl (SqL.of g4),?_⟩
    rw [g5]
    exact hH
  | @got t j ht =>
    refine ⟨_,rfl,t,_,_,_,rfl,rfl,SqT.of ht,rfl,rfl,_,rfl,fz (kl k4) (dY ?_)⟩
    refine ⟨_,rfl,t,_,_,_,rfl,rfl,SqT.of ht,rfl,rfl,_,rfl,fz (kl k5) (dY ?_)⟩
    refine ⟨_,rfl,t,_,_,_,rfl,rfl,SqT.of ht,rfl,rfl,_,rfl,fz (kl k6) (dY ?_)⟩
    refine ⟨_,rfl,t,_,_,_,rfl,rfl,SqT.of ht,rfl,rfl,_,rfl,fz (pA _) (eC ?_)⟩
    cases j
    · exact ⟨_,rfl,_,rfl,t,_,_,_,rfl,rfl,SqT.of ht,rfl,gl,_,_,_,rfl,rfl,SqL.of ho.hgl,rfl,hH⟩
    · exact ⟨_,rfl,_,rfl,t,_,_,_,rfl,rfl,SqT.of ht,rfl,gl,_,_,_,rfl,rfl,SqL.of ho.hgl,rfl,hH⟩
  | @now t ht =>
    refine ⟨_,rfl,t,_,_,_,rfl,rfl,SqT.of ht,rfl,rfl,_,rfl,fz (kl k7) (dY ?_)⟩
    refine ⟨_,rfl,t,_,_,_,rfl,rfl,SqT.of ht,rfl,rfl,_,rfl,fz (kl k8) (dY ?_)⟩
    refine ⟨_,rfl,t,_,_,_,rfl,rfl,SqT.of ht,rfl,rfl,_,rfl,fz (kl k9) (dY ?_)⟩
    refine ⟨_,rfl,t,_,_,_,rfl,rfl,SqT.of ht,rfl,rfl,_,rfl,fz (kl k10) (dY ?_)⟩
    refine ⟨_,rfl,t,_,_,_,rfl,rfl,SqT.of ht,rfl,rfl,_,rfl,fz (pA _) (eC ?_)⟩
    exact ⟨_,rfl,hH⟩
  | @two t k u v f1 f2 ht hk h1 h2 =>
    obtain ⟨k1,k2,k3,k4,k5⟩:=Ac k hk
    clear hH
    have d1:f1.depth<=n:=by
      unfold Fm.depth at hd
      omega
    have d2:f2.depth<=n:=by
      unfold Fm.depth at hd
      omega
    refine ⟨_,rfl,t,_,_,_,rfl,rfl,SqT.of ht,rfl,rfl,_,rfl,gH (fun c=>absurd (jV (gc c)) k1) (fun _=>?_)⟩
    refine ⟨_,rfl,t,_,_,_,rfl,rfl,SqT.of ht,rfl,rfl,_,rfl,gH (fun c=>absurd (jV (gc c)) k2) (fun _=>?_)⟩
    refine ⟨_,rfl,t,_,_,_,rfl,rfl,SqT.of ht,rfl,rfl,_,rfl,gH (fun c=>absurd (jV (gc c)) k3) (fun _=>?_)⟩
    refine ⟨_,rfl,t,_,_,_,rfl,rfl,SqT.of ht,rfl,rfl,_,rfl,gH (fun c=>absurd (jV (gc c)) k4) (fun _=>?_)⟩
    refine ⟨_,rfl,t,_,_,_,rfl,rfl,SqT.of ht,rfl,rfl,_,rfl,gH (fun c=>absurd (jV (gc c)) k5) (fun _=>?_)⟩
    refine ⟨_,rfl,t,_,_,_,rfl,rfl,SqT.of ht,rfl,_,rfl,_,rfl,_,rfl,u,f1,bs,qs,sl,wd,rd,gl,x0,y0,e,rfl,hsl,h1,d1,ho,eo,fun H1 s1=>?_⟩
    unfold ev at h
    cases e1:ev e f1 with
    | nought =>
      rw [e1] at h
      exact ⟨_,rfl,_,"str",_,true,rfl,.str _,iI,_,rfl,eC ⟨_,rfl,h H1 s1⟩⟩
    | great =>
      rw [e1] at h
      exact ⟨_,rfl,_,"str",_,true,rfl,.str _,iI,_,rfl,eC ⟨_,rfl,h H1 s1⟩⟩
    | ok a =>
      rw [e1] at h
      refine ⟨_,rfl,_,"str",_,false,rfl,.int a,kit_is,_,rfl,dY ?_⟩
      have ht1:=s1 _ _ ht
      refine ⟨_,rfl,t,_,_,_,rfl,rfl,SqT.of ht1,rfl,_,rfl,_,rfl,_,rfl,v,f2,bs,qs,sl,wd,rd,gl,x0,y0,e,rfl,s1 _ _ hsl,h2.same s1,d2,ho.same s1,eo,fun H2 s2=>?_⟩
      have s12:=s1.trans s2
      cases e2:ev e f2 with
      | nought =>
        rw [e2] at h
        exact ⟨_,rfl,_,"str",_,true,rfl,.str _,iI,_,rfl,eC ⟨_,rfl,h H2 s12⟩⟩
      | great =>
        rw [e2] at h
        exact ⟨_,rfl,_,"str",_,true,rfl,.str _,iI,_,rfl,eC ⟨_,rfl,h H2 s12⟩⟩
      | ok b =>
        rw [e2] at h
        refine ⟨_,rfl,_,"str",_,false,rfl,.int b,kit_is,_,rfl,dY ?_⟩
        have ht2:=s12 _ _ ht
        refine ⟨_,rfl,t,_,_,_,rfl,rfl,SqT.of ht2,rfl,_,rfl,_,rfl,k,a,b,rfl,hk,j1 eo h1 e1,j1 eo h2 e2,fun H3 s3=>?_⟩
        have hq:Q (Bz (cap (lW k a b))) H3:=h H3 (s12.trans s3)
        cases e3:lW k a b with
        | nought =>
          rw [e3] at hq
          refine ⟨_,rfl,_,"str",_,true,rfl,.str _,iI,_,rfl,dY (dY ?_)⟩
          exact ⟨_,rfl,hq⟩
        | great =>
          rw [e3] at hq
          refine ⟨_,rfl,_,"str",_,true,rfl,.str _,iI,_,rfl,dY (dY ?_)⟩
          exact ⟨_,rfl,hq⟩
        | ok r =>
          rw [e3] at hq
          have hq':Q (Bz (if 10 ^ 15 < lX r then .great else .ok r)) H3:=hq
          refine ⟨_,rfl,_,"str",_,false,rfl,.int r,kit_is,_,rfl,eC ?_⟩
          have e15:(10:Int) ^ 15=1000000000000000:=by decide
          have sz:(10 ^ 15 < lX r)↔(r < -(10 ^ 15)\/10 ^ 15 < r):=by
            unfold lX
            split <;> omega
          refine ⟨_,rfl,_,_,rfl,rfl,c15,_,rfl,_,_,rfl,rfl,_,rfl,gH (fun c=>?_) (fun c=>?_)⟩
          · rw [if_pos (sz.mpr (.inl (gc c)))] at hq'
            exact eC hq'
          · refine ⟨_,rfl,_,_,rfl,rfl,c15,_,_,rfl,rfl,_,rfl,gH (fun c2=>?_) (fun c2=>?_)⟩
            · rw [if_pos (sz.mpr (.inr (gc c2)))] at hq'
              exact hq'
            · rw [if_neg (fun z=>(sz.mp z).elim (hU c) (hU c2))] at hq'
              exact ⟨_,rfl,hq'⟩
theorem AK (D:Df K mg "_law_comes_to" fu pLR f fd) (DT:Df K mg "_law_two" iE ["_law_word","_law_one","_law_other"] fA fdA) (B:Bl mg) :
    ∀ n:Nat,bZ P w K mg base CX0 (n + 1) f fd pLR (yW n)
  | 0=>by
    have no:∀ vs H Q E,¬ yW 0 vs H Q E:=fun vs H Q E h=>by
      obtain ⟨v,F,_,_,_,_,_,_,_,_,_,_,_,_,hd,_⟩:=h
      have:=sU F
      omega
    exact ⟨fun vs H Q E h=>absurd h (no vs H Q E),fun A outer s H args us vs Q E _ _ _ _ h=>absurd h (no vs H Q E)⟩
  | n + 1=>Cb D DT B (AK D DT B n)
end
end My
namespace My
open PySem L2
def shD (h:Ev) (ds:List Int):Dd->Wk->Except Flt (Wk×Ds)
  | .pull q x o,w=>match gy w.qu q with
    | []=>.ok ({w with qn:=gP w.qn q},o)
    | n :: ns=>.ok ({w with qu:=jo w.qu q ns,bx:=jo w.bx x n,wr:=gP (gP w.wr x) q,qn:=gP w.qn q},.nil)
  | .ife f t e,w=>match ev (gX h w) f with
    | .ok n=>.ok ({w with rk:=w.rk++[f]},if n=0 then e else t)
    | .nought=>.error .nought
    | .great=>.error .great
  | d,w=>match doD h ds d w with
    | .ok w'=>.ok (w',.nil)
    | .error e=>.error e
def Ds.toL:Ds->List Dd
  | .nil=>[]
  | .cons d r=>d :: r.toL
def doL (h:Ev) (ds:List Int):List Dd->Wk->Except Flt Wk
  | [],w=>.ok w
  | d :: r,w=>match doD h ds d w with
    | .ok w'=>doL h ds r w'
    | .error e=>.error e
theorem AL {h:Ev} {ds:List Int}:∀ (D:Ds) (w:Wk),doS h ds D w=doL h ds D.toL w
  | .nil,w=>by simp only [doS,Ds.toL,doL]
  | .cons d r,w=>by
    simp only [doS,Ds.toL,doL]
    cases doD h ds d w with
    | ok w'=>exact AL r w'
    | error e=>rfl
theorem xX {h:Ev} {ds:List Int}:∀ (a b:List Dd) (w:Wk),doL h ds (a++b) w=match doL h ds a w with
    | .ok w'=>doL h ds b w'
    | .error e=>.error e
  | [],b,w=>rfl
  | d :: a,b,w=>by
    simp only [qi,doL]
    cases doD h ds d w with
    | ok w'=>exact xX a b w'
    | error e=>rfl
theorem EL {h:Ev} {ds:List Int} (d:Dd) (w:Wk):doD h ds d w=match shD h ds d w with
    | .ok p=>doS h ds p.2 p.1
    | .error e=>.error e:=by
  have leaf:∀ r:Except Flt Wk,r=(match (match r with | .ok w'=>(.ok (w',.nil):Except Flt (Wk×Ds)) | .error e=>.error e) with | .ok p=>doS h ds p.2 p.1 | .error e=>.error e):=fun r=>by
    cases r with
    | ok w'=>simp only [doS]
    | error e=>rfl
  cases d with
  | pull q x o =>
    simp only [doD,shD]
    cases gy w.qu q with
    | nil=>rfl
    | cons n ns=>simp only [doS]
  | ife f t e =>
    simp only [doD,shD,rck]
    cases ev (gX h w) f with
    | ok n =>
      show (if n=0 then _ else _)=doS h ds (if n=0 then e else t) _
      split <;> rfl
    | nought=>rfl
    | great=>rfl
  | put x f=>exact leaf _
  | push q f=>exact leaf _
  | draw x f=>exact leaf _
  | send to sg sp rk a b=>exact leaf _
  | fin=>exact leaf _
theorem AM {h:Ev} {ds:List Int} {d:Dd} {r:List Dd} {w:Wk}:doL h ds (d :: r) w=match shD h ds d w with
    | .ok p=>doL h ds (p.2.toL++r) p.1
    | .error e=>.error e:=by
  simp only [doL]
  rw [EL]
  cases shD h ds d w with
  | ok p =>
    show (match doS h ds p.2 p.1 with | .ok w'=>doL h ds r w' | .error e=>.error e)=doL h ds (p.2.toL++r) p.1
    rw [xX,AL]
  | error e=>rfl
def szL (S:List Dd):Nat:=(S.map Dd.size).sum
theorem ua:∀ D:Ds,szL D.toL=D.size
  | .nil=>rfl
  | .cons d r=>by
    show (d.size :: (r.toL.map Dd.size)).sum=d.size + r.size
    rw [ux]
    rw [<- ua r]
    rfl
theorem Cc (a b:List Dd):szL (a++b)=szL a + szL b:=by
  unfold szL
  rw [aV,List.sum_append]
theorem Cd {h:Ev} {ds:List Int} {d:Dd} {w:Wk} {p:Wk×Ds} (e:shD h ds d w=.ok p):p.2.size < d.size:=by
  cases d with
  | pull q x o =>
    simp only [shD] at e
    split at e
    · cases e
      simp only [Dd.size]
      omega
    · cases e
      simp only [Dd.size,Ds.size]
      omega
  | ife f t e' =>
    simp only [shD] at e
    split at e
    · cases e
      simp only [Dd.size]
      split <;> omega
    · cases e
    · cases e
  | put x f=>simp only [shD] at e; split at e <;> cases e; simp only [Dd.size,Ds.size]; omega
  | push q f=>simp only [shD] at e; split at e <;> cases e; simp only [Dd.size,Ds.size]; omega
  | draw x f=>simp only [shD] at e; split at e <;> cases e; simp only [Dd.size,Ds.size]; omega
  | send to sg sp rk a b=>simp only [shD] at e; split at e <;> cases e; simp only [Dd.size,Ds.size]; omega
  | fin=>simp only [shD] at e; split at e <;> cases e; simp only [Dd.size,Ds.size]; omega
structure RL where
  l:ae
  bd:ae
  qd:ae
  tl:ae
  nl:ae
  wl:ae
  qa:List (Str×ae)
def RL.all (L:RL):List ae:=L.l :: L.bd :: L.qd :: L.tl :: L.nl :: L.wl :: L.qa.map (·.2)
structure Rg (bs qs:List Str) (H0 G:Hp) (L:RL) (h:Ev) (w:Wk) (tc:List Str) (ws:List V):Prop where
  sm:cF H0 G
  hl:G L.l=some (.lst [.ref L.bd,.ref L.qd,.int w.dr,.int w.se])
  hb:G L.bd=some (.dK (boK w.bx))
  hq:G L.qd=some (.dK (quK L.qa))
  hqs:eu G L.qa w.qu
  ht:G L.tl=some (.lst (tc.map V.str))
  hn:∃ vs,G L.nl=some (.lst vs)/\bJ (kD G) vs w.out
  hw:G L.wl=some (.lst ws)
  nd:L.all.Nodup
  fr:∀ a∈L.all,H0 a=none
  ok:nJ bs qs w
  wt:Wo h.t
  wa:Wo h.a
  wb:Wo h.b
  tw:∀ x∈bs++qs,(x∈tc↔x∈w.wr)
  te:(("the end":Str)∈tc↔w.en=true)
  ne:("the end":Str)∉bs++qs
structure RL.Ne (L:RL):Prop where
  lb:L.l≠L.bd
  lq:L.l≠L.qd
  lt:L.l≠L.tl
  ln:L.l≠L.nl
  lw:L.l≠L.wl
  lz:∀ a∈L.qa.map (·.2),L.l≠a
  bq:L.bd≠L.qd
  bt:L.bd≠L.tl
  bn:L.bd≠L.nl
  bw:L.bd≠L.wl
  bz:∀ a∈L.qa.map (·.2),L.bd≠a
  qt:L.qd≠L.tl
  qn:L.qd≠L.nl
  qw:L.qd≠L.wl
  qz:∀ a∈L.qa.map (·.2),L.qd≠a
  tn:L.tl≠L.nl
  tw:L.tl≠L.wl
  tz:∀ a∈L.qa.map (·.2),L.tl≠a
  nw:L.nl≠L.wl
  nz:∀ a∈L.qa.map (·.2),L.nl≠a
  wz:∀ a∈L.qa.map (·.2),L.wl≠a
  zz:(L.qa.map (·.2)).Nodup
section
variable {bs qs:List Str} {H0 G G':Hp} {L:RL} {h:Ev} {w:Wk} {tc:List Str} {ws:List V}
theorem RL.ne (nd:L.all.Nodup):L.Ne:=by
  unfold RL.all at nd
  have cut:∀ {a:ae} {xs:List ae},(a :: xs).Nodup->(∀ b∈xs,a≠b)/\xs.Nodup:=fun {a xs} z=>by
    obtain ⟨z1,z2⟩:=cI.mp z
    exact ⟨fun b hb e=>z1 (by rw [e]; exact hb),z2⟩
  obtain ⟨a1,nd⟩:=cut nd
  obtain ⟨a2,nd⟩:=cut nd
  obtain ⟨a3,nd⟩:=cut nd
  obtain ⟨a4,nd⟩:=cut nd
  obtain ⟨a5,nd⟩:=cut nd
  obtain ⟨a6,nd⟩:=cut nd
  have i1:∀ {b:ae} {xs:List ae},b∈b :: xs:=aA
  have i2:∀ {a b:ae} {xs:List ae},b∈xs->b∈a :: xs:=fun z=>aa _ z
  exact ⟨a1 _ i1,a1 _ (i2 i1),a1 _ (i2 (i2 i1)),a1 _ (i2 (i2 (i2 i1))),a1 _ (i2 (i2 (i2 (i2 i1)))),fun a ha=>a1 _ (i2 (i2 (i2 (i2 (i2 ha))))),a2 _ i1,a2 _ (i2 i1),a2 _ (i2 (i2 i1)),a2 _ (i2 (i2 (i2 i1))),fun a ha=>a2 _ (i2 (i2 (i2 (i2 ha)))),a3 _ i1,a3 _ (i2 i1),a3 _ (i2 (i2 i1)),fun a ha=>a3 _ (i2 (i2 (i2 ha))),a4 _ i1,a4 _ (i2 i1),fun a ha=>a4 _ (i2 (i2 ha)),a5 _ i1,fun a ha=>a5 _ (i2 ha),fun a ha=>a6 _ ha,nd⟩
theorem Rg.sm_upd (g:Rg bs qs H0 G L h w tc ws) {a:ae} (ha:a∈L.all) (o:HO):cF H0 (upd G a o):=fun b u e=>by
  rw [aY (aJ e (g.fr a ha))]
  exact g.sm _ _ e
theorem rin_l:L.l∈L.all:=aA
theorem rin_b:L.bd∈L.all:=aa _ (aA)
theorem C4:L.tl∈L.all:=aa _ (aa _ (aa _ (aA)))
theorem rin_n:L.nl∈L.all:=aa _ (aa _ (aa _ (aa _ (aA))))
theorem rin_w:L.wl∈L.all:=aa _ (aa _ (aa _ (aa _ (aa _ (aA)))))
theorem rin_z {a:ae} (h:a∈L.qa.map (·.2)):a∈L.all:=aa _ (aa _ (aa _ (aa _ (aa _ (aa _ (h))))))
theorem Rg.same (g:Rg bs qs H0 G L h w tc ws) (s:cF G G'):Rg bs qs H0 G' L h w tc ws:=by
  obtain ⟨vs,o1,o2⟩:=g.hn
  exact ⟨g.sm.trans s,s _ _ g.hl,s _ _ g.hb,s _ _ g.hq,g.hqs.same s,s _ _ g.ht,⟨vs,s _ _ o1,Paired.mono (fun _ _ z=>z.same s) o2⟩,s _ _ g.hw,g.nd,g.fr,g.ok,g.wt,g.wa,g.wb,g.tw,g.te,g.ne⟩
theorem Rg.box (g:Rg bs qs H0 G L h w tc ws) {x:Str} {n:Int} (wn:Wo n):Rg bs qs H0 (upd G L.bd (.dK (boK (jo w.bx x n)))) L h {w with bx:=jo w.bx x n} tc ws:=by
  have N:=RL.ne g.nd
  obtain ⟨vs,o1,o2⟩:=g.hn
  obtain ⟨kb,kq,nb,nq,wb,wq,nw,sw,nu,su,wo,fw⟩:=g.ok
  have wb2:∀ p∈jo w.bx x n,Wo p.2:=fun p hp=>by
    rcases oE hp with z | z
    · exact wb p z
    · rw [z]
      exact wn
  exact ⟨g.sm_upd rin_b _,aR g.hl N.lb,ao,aR g.hq N.bq.symm,eu.keep (L:=⟨0,0,0,0,0,0,0,0,0,0,.non,.non,L.qa⟩) (fun a u e m=>aR e (N.bz a m).symm) (fun _ hp=>hp) g.hqs,aR g.ht N.bt.symm,⟨vs,aR o1 N.bn.symm,gY (gZ g.hb (fun _ z=>by cases z)) o2⟩,aR g.hw N.bw.symm,g.nd,g.fr,⟨(nr _ _ _).trans kb,kq,nb,nq,wb2,wq,nw,sw,nu,su,wo,fw⟩,g.wt,g.wa,g.wb,g.tw,g.te,g.ne⟩
theorem Rg.counts (g:Rg bs qs H0 G L h w tc ws) (dr:Nat) (se:Int):Rg bs qs H0 (upd G L.l (.lst [.ref L.bd,.ref L.qd,.int dr,.int se])) L h {w with dr:=dr,se:=se} tc ws:=by
  have N:=RL.ne g.nd
  obtain ⟨vs,o1,o2⟩:=g.hn
  obtain ⟨kb,kq,nb,nq,wb,wq,nw,sw,nu,su,wo,fw⟩:=g.ok
  exact ⟨g.sm_upd rin_l _,ao,aR g.hb N.lb.symm,aR g.hq N.lq.symm,eu.keep (L:=⟨0,0,0,0,0,0,0,0,0,0,.non,.non,L.qa⟩) (fun a u e m=>aR e (N.lz a m).symm) (fun _ hp=>hp) g.hqs,aR g.ht N.lt.symm,⟨vs,aR o1 N.ln.symm,gY (gZ g.hl (fun _ z=>by cases z)) o2⟩,aR g.hw N.lw.symm,g.nd,g.fr,⟨kb,kq,nb,nq,wb,wq,nw,sw,nu,su,wo,fw⟩,g.wt,g.wa,g.wb,g.tw,g.te,g.ne⟩
theorem Rg.work (g:Rg bs qs H0 G L h w tc ws) (ws2:List V):Rg bs qs H0 (upd G L.wl (.lst ws2)) L h w tc ws2:=by
  have N:=RL.ne g.nd
  obtain ⟨vs,o1,o2⟩:=g.hn
  obtain ⟨kb,kq,nb,nq,wb,wq,nw,sw,nu,su,wo,fw⟩:=g.ok
  exact ⟨g.sm_upd rin_w _,aR g.hl N.lw,aR g.hb N.bw,aR g.hq N.qw,eu.keep (L:=⟨0,0,0,0,0,0,0,0,0,0,.non,.non,L.qa⟩) (fun a u e m=>aR e (N.wz a m).symm) (fun _ hp=>hp) g.hqs,aR g.ht N.tw,⟨vs,aR o1 N.nw,gY (gZ g.hw (fun _ z=>by cases z)) o2⟩,ao,g.nd,g.fr,⟨kb,kq,nb,nq,wb,wq,nw,sw,nu,su,wo,fw⟩,g.wt,g.wa,g.wb,g.tw,g.te,g.ne⟩
theorem Rg.sent (g:Rg bs qs H0 G L h w tc ws) {vs0:List V} {v:V} {e:Ev} (hv:G L.nl=some (.lst vs0)) (he:kD G v e) (we:Wo e.a/\Wo e.b):Rg bs qs H0 (upd G L.nl (.lst (vs0++[v]))) L h {w with out:=w.out++[e]} tc ws:=by
  have N:=RL.ne g.nd
  obtain ⟨vs,o1,o2⟩:=g.hn
  obtain ⟨kb,kq,nb,nq,wb,wq,nw,sw,nu,su,wo,fw⟩:=g.ok
  rw [hv] at o1
  cases o1
  have wo2:∀ x∈w.out++[e],Wo x.a/\Wo x.b:=fun x hx=>(cE.mp hx).elim (wo x) fun z=>by rw [aQ.mp z]; exact we
  exact ⟨g.sm_upd rin_n _,aR g.hl N.ln,aR g.hb N.bn,aR g.hq N.qn,eu.keep (L:=⟨0,0,0,0,0,0,0,0,0,0,.non,.non,L.qa⟩) (fun a u e m=>aR e (N.nz a m).symm) (fun _ hp=>hp) g.hqs,aR g.ht N.tn,⟨_,ao,gY (gZ hv (fun _ z=>by cases z)) (dB o2 he)⟩,aR g.hw N.nw.symm,g.nd,g.fr,⟨kb,kq,nb,nq,wb,wq,nw,sw,nu,su,wo2,fw⟩,g.wt,g.wa,g.wb,g.tw,g.te,g.ne⟩
theorem mZ {xs:List Str} {x y:Str}:y∈gP xs x↔(y∈xs\/y=x):=by
  unfold gP
  by_cases c:x∈xs
  · rw [if_pos c]
    exact ⟨.inl,fun z=>z.elim id fun e=>by rw [e]; exact c⟩
  · rw [if_neg c,cE,aQ]
theorem Rg.touch (g:Rg bs qs H0 G L h w tc ws) {x:Str} (hx:x∈bs++qs):Rg bs qs H0 (upd G L.tl (.lst ((tc++[x]).map V.str))) L h {w with wr:=gP w.wr x} (tc++[x]) ws:=by
  have N:=RL.ne g.nd
  obtain ⟨vs,o1,o2⟩:=g.hn
  obtain ⟨kb,kq,nb,nq,wb,wq,nw,sw,nu,su,wo,fw⟩:=g.ok
  have sw2:∀ y∈gP w.wr x,y∈bs++qs:=fun y hy=>by
    rcases jN hy with z | z
    · exact sw y z
    · rw [z]
      exact hx
  have tw2:∀ y∈bs++qs,(y∈tc++[x]↔y∈gP w.wr x):=fun y hy=>by
    rw [cE,aQ,g.tw y hy,mZ]
  have te2:(("the end":Str)∈tc++[x]↔w.en=true):=by
    rw [cE,aQ,g.te]
    exact ⟨fun z=>z.elim id fun y=>absurd (by rw [y]; exact hx) g.ne,.inl⟩
  exact ⟨g.sm_upd C4 _,aR g.hl N.lt,aR g.hb N.bt,aR g.hq N.qt,eu.keep (L:=⟨0,0,0,0,0,0,0,0,0,0,.non,.non,L.qa⟩) (fun a u e m=>aR e (N.tz a m).symm) (fun _ hp=>hp) g.hqs,ao,⟨vs,aR o1 N.tn.symm,gY (gZ g.ht (fun _ z=>by cases z)) o2⟩,aR g.hw N.tw.symm,g.nd,g.fr,⟨kb,kq,nb,nq,wb,wq,kP nw,sw2,nu,su,wo,fw⟩,g.wt,g.wa,g.wb,tw2,te2,g.ne⟩
theorem Rg.ended (g:Rg bs qs H0 G L h w tc ws) :Rg bs qs H0 (upd G L.tl (.lst ((tc++[("the end":Str)]).map V.str))) L h {w with en:=true} (tc++[("the end":Str)]) ws:=by
  have N:=RL.ne g.nd
  obtain ⟨vs,o1,o2⟩:=g.hn
  obtain ⟨kb,kq,nb,nq,wb,wq,nw,sw,nu,su,wo,fw⟩:=g.ok
  have tw2:∀ y∈bs++qs,(y∈tc++[("the end":Str)]↔y∈w.wr):=fun y hy=>by
    rw [cE,aQ,<- g.tw y hy]
    exact ⟨fun z=>z.elim id fun e=>absurd (by rw [<- e]; exact hy) g.ne,.inl⟩
  have te2:(("the end":Str)∈tc++[("the end":Str)]↔true=true):=⟨fun _=>rfl,fun _=>bK _ (aQ.mpr rfl)⟩
  exact ⟨g.sm_upd C4 _,aR g.hl N.lt,aR g.hb N.bt,aR g.hq N.qt,eu.keep (L:=⟨0,0,0,0,0,0,0,0,0,0,.non,.non,L.qa⟩) (fun a u e m=>aR e (N.tz a m).symm) (fun _ hp=>hp) g.hqs,ao,⟨vs,aR o1 N.tn.symm,gY (gZ g.ht (fun _ z=>by cases z)) o2⟩,aR g.hw N.tw.symm,g.nd,g.fr,⟨kb,kq,nb,nq,wb,wq,nw,sw,nu,su,wo,fw⟩,g.wt,g.wa,g.wb,tw2,te2,g.ne⟩
theorem Rg.queue (g:Rg bs qs H0 G L h w tc ws) {x:Str} {l:ae} {ns:List Int} (hl:L.qa.lookup x=some l) (len:ns.length<=30) (wn:∀ n∈ns,Wo n):Rg bs qs H0 (upd G l (.lst (ns.map V.int))) L h {w with qu:=jo w.qu x ns} tc ws:=by
  have N:=RL.ne g.nd
  have ml:l∈L.qa.map (·.2):=cG.mpr ⟨_,jO hl,rfl⟩
  obtain ⟨vs,o1,o2⟩:=g.hn
  obtain ⟨kb,kq,nb,nq,wb,wq,nw,sw,nu,su,wo,fw⟩:=g.ok
  obtain ⟨xs,gl⟩:=g.hqs.there ml
  have wq2:∀ p∈jo w.qu x ns,p.2.length<=30/\∀ n∈p.2,Wo n:=fun p hp=>by
    rcases oE hp with z | z
    · exact wq p z
    · rw [z]
      exact ⟨len,wn⟩
  exact ⟨g.sm_upd (rin_z ml) _,aR g.hl (N.lz l ml),aR g.hb (N.bz l ml),aR g.hq (N.qz l ml),g.hqs.set N.zz (by rw [kq]; exact nq) hl,aR g.ht (N.tz l ml),⟨vs,aR o1 (N.nz l ml),gY (gZ gl (fun _ z=>by cases z)) o2⟩,aR g.hw (N.wz l ml),g.nd,g.fr,⟨kb,(nr _ _ _).trans kq,nb,nq,wb,wq2,nw,sw,nu,su,wo,fw⟩,g.wt,g.wa,g.wb,g.tw,g.te,g.ne⟩
theorem Rg.pure (g:Rg bs qs H0 G L h w tc ws) (rk:List Fm) {qn:List Str} (nq:qn.Nodup) (sq:∀ x∈qn,x∈bs++qs):Rg bs qs H0 G L h {w with rk:=rk,qn:=qn} tc ws:=by
  obtain ⟨kb,kq,nb,nq',wb,wq,nw,sw,nu,su,wo,fw⟩:=g.ok
  exact ⟨g.sm,g.hl,g.hb,g.hq,g.hqs,g.ht,g.hn,g.hw,g.nd,g.fr,⟨kb,kq,nb,nq',wb,wq,nw,sw,nq,sq,wo,fw⟩,g.wt,g.wa,g.wb,g.tw,g.te,g.ne⟩
theorem Rg.asks (g:Rg bs qs H0 G L h w tc ws):(gX h w).Ok bs qs:=
  ⟨fun x m=>xO g.ok m,fun x m=>by
    have:=(lO g.ok m).1
    show (gy w.qu x).length<=1000
    omega,g.wa,g.wb,g.wt⟩
theorem Rg.holds (g:Rg bs qs H0 G L h w tc ws) {gl:ae} (hg:G gl=some (.lst [.int h.a,.int h.b])):rh bs qs G L.bd L.qd gl (gX h w):=
  ⟨⟨_,g.hb,fun x m=>tV (by rw [g.ok.kb]; exact m)⟩,⟨_,g.hq,fun x m=>by
    obtain ⟨l,h1,h2,_⟩:=g.hqs.at_ (x:=x) (by rw [g.ok.kq]; exact m)
    exact ⟨l,_,oa h1,h2,ai _⟩⟩,hg⟩
end
end My
namespace My
open PySem L2
def kS:Flt->Str
  | .nought=>"nought"
  | .great=>"great"
  | .full=>"full"
  | .dry=>"dry"
  | .span=>"span"
  | .late=>"late"
def C5 (dg:Wk->Hp->Prop) (H0:Hp) (r:Except Flt Wk) (Q:VK):Prop:=match r with
  | .ok w'=>∀ G',dg w' G'->Q (.str "") G'
  | .error e=>∀ G',cF H0 G'->Q (.str (kS e)) G'
section
variable {P:aX} {w:cz} {K:aj} {mg:Str->Option af} {base:cR} {f fC fT:ae} {fd fdC fdT:cH} {bs qs:List Str}
seal L2.PS L2.PSs L2.PE L2.PA L2.PT L2.PW L2.PI L2.PG L2.PGs L2.PC
abbrev yX:List Str:=["_law_deed_here","_law_state","_law_key","_law_at","_law_got","_law_news"]
def C6 (bs qs:List Str):Sp:=fun vs H Q _=>∃ (H0:Hp) (L:RL) (h:Ev) (ds:List Int) (w:Wk) (tc:List Str) (ws:List V) (t kh gl:ae) (u u1 u2:V) (to:Int) (sg:Str) (rk:Int) (F F1 F2:Fm),vs=[.ref t,.ref L.l,.ref kh,.int h.to,.ref gl,.ref L.nl]/\Rg bs qs H0 H L h w tc ws/\H0 t=some (.tup [.str "send",.int to,.str sg,u,.int rk,u1,u2]) /\
  H0 kh=some (.tup [.int h.t,.int h.r,.int h.fr,.int h.c])/\H gl=some (.lst [.int h.a,.int h.b])/\FmI bs qs H0 u F/\FmI bs qs H0 u1 F1/\FmI bs qs H0 u2 F2/\w.out.length < 100000/\C5 (fun w' G'=>Rg bs qs H0 G' L h w' tc ws) H0 (doD h ds (.send to sg F rk F1 F2) w) Q
theorem xY:cD (yX++(["_law_numbers","_law_formula_here","_law_number"]:List Str)) yX (aB jB):=⟨rfl,rfl,rfl,by decide +kernel,rfl,by decide +kernel,by decide +kernel⟩
theorem EM (D:Df K mg "_law_sent" jB yX f fd) (DC:Df K mg "_law_comes_to" fu pLR fC fdC) (DT:Df K mg "_law_two" iE ["_law_word","_law_one","_law_other"] fT fdT) (B:Bl mg):bZ P w K mg base CX0 17 f fd yX (C6 bs qs):=by
  have GC:bZ P w K mg base CX0 16 fC fdC pLR (yW 15):=AK DC DT B 15
  refine D.F.ok xY (fun vs H Q E h=>?_) (fun cdv A outer s H vs Q E hr h=>?_)
  · obtain ⟨H0,L,h,ds,w,tc,ws,t,kh,gl,u,u1,u2,to,sg,rk,F,F1,F2,rfl,_⟩:=h
    rfl
  obtain ⟨H0,L,h,ds,w,tc,ws,t,kh,gl,u,u1,u2,to,sg,rk,F,F1,F2,rfl,g,ht,hk,hg,hF,hF1,hF2,lo,p⟩:=h
  refine ⟨_,ah (bF (i:=6) xY.nd rfl (Or.inl rfl) (el ak))
    (ah (fq cj rfl (fj (el (ig (aP bC (pv 0) ag (fun _ _=>rfl)) (ig (aP bC (pv 0) ag (fun _ _=>rfl)) (ig (aP bC (pv 0) ag (fun _ _=>rfl)) ak))))) (cP (i:=7) xY.nd rfl (Or.inl rfl)) (ah (bF (i:=8) xY.nd rfl (Or.inl rfl) (aN GC hr (by rfl) DC.m DC.F.kp DC.b .nil bR (aT (pv 7) (aT (pv 1) (ig (aP bC (pv 2) ag (fun _ _=>rfl)) (aT (pv 4) ak))))))
    (ah (cK (fo (cu dO (by rfl) B.isi eF (aw (pv 8) (aw (fG (v:=.ty "str") (by rfl) B.str boot_str rfl) ak)))) (au (bD (pv 8))) bH)
    (ah (cK ((mC (bE di (cu (dS K (by rfl)) (by rfl) B.len cw (aT (pv 6) ak)) ag (bM _)) (kF (kH (bE nK (pv 8) ag (bM _)) (j8 (bE kK (pv 8) (cJ iG ag ag) (bM _)))).pt)).pt) (au (bD bN)) bH)
    (au (dv (ia aW bA bB dR (pv 6) (aT (pv 8) ak))))))))
    (ah (cK (bE kK (cJ fZ (aP bC (pv 2) ag (fun _ _=>rfl)) (aP bT (pv 6) ag (fun _ _=>rfl))) (cJ iG ag ag) (bM _)) (au (bD bN)) bH)
    (ah (dv (ia aW bA bB dR (pv 5) (qZ (eO (qZ (eO (kE (cJ fZ (aP bC (pv 2) ag (fun _ _=>rfl)) (aP bT (pv 6) ag (fun _ _=>rfl))) (ig (aP bC (pv 0) ag (fun _ _=>rfl)) (aT (pv 3) (ig (aP bT (pv 1) ag (fun _ _=>rfl)) ak))))) (ig (aP bC (pv 0) ag (fun _ _=>rfl)) (ig (aP bC (pv 0) ag (fun _ _=>rfl)) (ig (aP bT (pv 6) ag (fun _ _=>rfl)) (ig (aP bT (pv 6) ag (fun _ _=>rfl)) ak)))))) ak) (hs:=qY)))
    (ah (oU (cJ fZ (aP bT (pv 1) ag (fun _ _=>rfl)) ag) (qv (pv 1) ag mP))
    (au (bD bN)))))),?_⟩
  have c6:oX 10 6:=⟨by decide,by decide,by decide⟩
  have c12:oX 10 12:=⟨by decide,by decide,by decide⟩
  have big:=eM
  have tt:∀ {G:Hp},cF H0 G->SqT K G t [.str "send",.int to,.str sg,u,.int rk,u1,u2]:=fun {G} z=>SqT.of (z _ _ ht)
  simp only [doD] at p
  refine aO (cN ?_)
  refine ⟨bV _,fun nm hnm=>?_⟩
  refine aZ ?_
  dsimp only
  have s1:=aM hnm (.lst [])
  refine aO ?_
  refine ⟨_,rfl,t,_,_,_,rfl,rfl,tt (g.sm.trans s1),rfl,_,rfl,t,_,_,_,rfl,rfl,tt (g.sm.trans s1),rfl,_,rfl,t,_,_,_,rfl,rfl,tt (g.sm.trans s1),rfl,(by show 3<=aE; decide),fun lf hlf=>?_⟩
  have s2:=aM hlf (.lst [u,u1,u2])
  have nlf:nm≠lf:=aJ (ao:upd H nm (.lst []) nm=_) hlf
  refine ⟨lf,rfl,⟨_,SqL.of ao⟩,fY (K:=K) (a:=lf) (xs:=[u,u1,u2]) (fun i σ G=>∃ (nums:List Int) (u7 u8:Option V),σ=[some (.ref t),some (.ref L.l),some (.ref kh),some (.int h.to),some (.ref gl),some (.ref L.nl),some (.ref nm),u7,u8] /\
      cF H G/\G lf=some (.lst [u,u1,u2])/\G nm=some (.lst (nums.map V.int))/\nums.length=i/\(∀ n,nums[0]?=some n->ev (gX h w) F=.ok n/\¬ (n < 1\/10 ^ 6 < n))/\(∀ n,nums[1]?=some n->ev (gX h w) F1=.ok n)/\(∀ n,nums[2]?=some n->ev (gX h w) F2=.ok n))
    ⟨[],_,_,rfl,s1.trans s2,ao,s2 _ _ ao,rfl,(fun n e=>by cases e),(fun n e=>by cases e),(fun n e=>by cases e)⟩ ?_ ?_ ?_⟩
  · rintro i σ G _ ⟨nums,u7,u8,rfl,sG,hlf',_⟩
    exact SqL.of hlf'
  · rintro i x σ G hi ⟨nums,u7,u8,rfl,sG,hlf',hnm',ln,q0,q1,q2⟩
    have g1:=g.same sG
    have kk1:=g1.sm _ _ hk
    obtain ⟨Fx,hFx,ef,eo⟩:∃ Fx,FmI bs qs H0 x Fx/\(∀ e,(ev (gX h w) Fx=.nought/\e=Flt.nought)\/(ev (gX h w) Fx=.great/\e=Flt.great)\/(i=0/\e=Flt.span/\∃ n,ev (gX h w) Fx=.ok n/\(n < 1\/10 ^ 6 < n))->∀ G',cF H0 G'->Q (.str (kS e)) G') /\
        (∀ n,ev (gX h w) Fx=.ok n->(i=0->¬ (n < 1\/10 ^ 6 < n))->(∀ m,(nums++[n])[0]?=some m->ev (gX h w) F=.ok m/\¬ (m < 1\/10 ^ 6 < m))/\(∀ m,(nums++[n])[1]?=some m->ev (gX h w) F1=.ok m)/\(∀ m,(nums++[n])[2]?=some m->ev (gX h w) F2=.ok m)):=by
      match i,nums,ln,hi with
      | 0,[],_,hi =>
        cases hi
        refine ⟨F,hF,fun e he=>?_,fun n en ns=>⟨(fun m e=>by cases e; exact ⟨en,ns rfl⟩),(fun m e=>by cases e),(fun m e=>by cases e)⟩⟩
        rcases he with ⟨y,rfl⟩ | ⟨y,rfl⟩ | ⟨_,rfl,n,y,z⟩
        · simp only [rck,y] at p
          exact p
        · simp only [rck,y] at p
          exact p
        · simp only [rck,y,if_pos z] at p
          exact p
      | 1,[n0],_,hi =>
        cases hi
        obtain ⟨e0,z0⟩:=q0 n0 rfl
        refine ⟨F1,hF1,fun e he=>?_,fun n en _=>⟨(fun m e=>by cases e; exact ⟨e0,z0⟩),(fun m e=>by cases e; exact en),(fun m e=>by cases e)⟩⟩
        simp only [rck,e0,if_neg z0] at p
        rcases he with ⟨y,rfl⟩ | ⟨y,rfl⟩ | ⟨z,_⟩
        · have y':ev (gX h {w with rk:=w.rk++[F]}) F1=.nought:=y
          simp only [y'] at p
          exact p
        · have y':ev (gX h {w with rk:=w.rk++[F]}) F1=.great:=y
          simp only [y'] at p
          exact p
        · cases z
      | 2,[n0,n1],_,hi =>
        cases hi
        obtain ⟨e0,z0⟩:=q0 n0 rfl
        have e1:=q1 n1 rfl
        have e1':ev (gX h {w with rk:=w.rk++[F]}) F1=.ok n1:=e1
        refine ⟨F2,hF2,fun e he=>?_,fun n en _=>⟨(fun m e=>by cases e; exact ⟨e0,z0⟩),(fun m e=>by cases e; exact e1),(fun m e=>by cases e; exact en)⟩⟩
        simp only [rck,e0,if_neg z0,e1'] at p
        rcases he with ⟨y,rfl⟩ | ⟨y,rfl⟩ | ⟨z,_⟩
        · have y':ev (gX h {w with rk:=w.rk++[F]++[F1]}) F2=.nought:=y
          simp only [y'] at p
          exact p
        · have y':ev (gX h {w with rk:=w.rk++[F]++[F1]}) F2=.great:=y
          simp only [y'] at p
          exact p
        · cases z
      | i + 3,_,_,hi=>simp at hi
    refine aZ ?_
    dsimp only
    refine aO (cN ?_)
    refine ⟨_,rfl,_,rfl,_,rfl,kh,_,_,_,rfl,rfl,SqT.of kk1,rfl,_,rfl,x,Fx,bs,qs,L.l,L.bd,L.qd,gl,_,_,gX h w,rfl,g1.hl,hFx.1.same g1.sm,hFx.2,g1.holds (sG _ _ hg),g1.asks,fun G2 s2=>?_⟩
    refine aZ ?_
    dsimp only
    have sH2:=sG.trans s2
    have g2:=g.same sH2
    cases ee:ev (gX h w) Fx with
    | nought=>exact aO ⟨_,rfl,_,"str",_,true,rfl,.str _,iI,_,rfl,eC ⟨_,rfl,ef _ (.inl ⟨ee,rfl⟩) _ g2.sm⟩⟩
    | great=>exact aO ⟨_,rfl,_,"str",_,true,rfl,.str _,iI,_,rfl,eC ⟨_,rfl,ef _ (.inr (.inl ⟨ee,rfl⟩)) _ g2.sm⟩⟩
    | ok n =>
      refine aO ⟨_,rfl,_,"str",_,false,rfl,.int n,kit_is,_,rfl,dY ?_⟩
      refine cS ?_
      dsimp only
      have hnm2:=s2 _ _ hnm'
      have l3:nums.length < aE:=by
        have:=(aL.mp hi).1
        have:i < 3:=this
        omega
      have go:(i=0->¬ (n < 1\/10 ^ 6 < n))->_:=eo n ee
      refine aO ?_
      refine ⟨_,rfl,nm,_,rfl,.inl (SqL.of hnm2),rfl,_,rfl,?_⟩
      rw [ai,ln]
      by_cases i0:i=0
      · subst i0
        refine fz (b:=true) (decide_eq_true rfl) (eC ?_)
        refine ⟨_,rfl,_,_,rfl,rfl,_,rfl,gH (fun c=>?_) (fun c=>?_)⟩
        · exact eC (ef _ (.inr (.inr ⟨rfl,rfl,n,ee,.inl (gc c)⟩)) _ g2.sm)
        refine ⟨_,rfl,_,_,rfl,rfl,c6,_,_,rfl,rfl,_,rfl,gH (fun c2=>?_) (fun c2=>?_)⟩
        · exact ef _ (.inr (.inr ⟨rfl,rfl,n,ee,.inr (gc c2)⟩)) _ g2.sm
        have nn:¬ (n < 1\/10 ^ 6 < n):=fun z=>z.elim (hU c) (hU c2)
        obtain ⟨a0,a1,a2⟩:=go fun _=>nn
        refine ⟨_,rfl,.inl ⟨rfl,_,SqL.of hnm2⟩,_,rfl,nm,_,_,rfl,rfl,hnm2,by rw [ai]; exact l3,?_⟩
        have eq:nums.map V.int++[V.int n]=(nums++[n]).map V.int:=by rw [aV]; rfl
        exact ⟨nums++[n],_,_,rfl,gz sH2 hnm _,aR (s2 _ _ hlf') nlf.symm,(by rw [<- eq]; exact ao),by rw [ay,ln]; rfl,a0,a1,a2⟩
      · refine fz (b:=false) (decide_eq_false (fun z=>i0 (by have:=jU z; omega))) (dY (dY ?_))
        obtain ⟨a0,a1,a2⟩:=go fun z=>absurd z i0
        refine ⟨_,rfl,.inl ⟨rfl,_,SqL.of hnm2⟩,_,rfl,nm,_,_,rfl,rfl,hnm2,by rw [ai]; exact l3,?_⟩
        have eq:nums.map V.int++[V.int n]=(nums++[n]).map V.int:=by rw [aV]; rfl
        exact ⟨nums++[n],_,_,rfl,gz sH2 hnm _,aR (s2 _ _ hlf') nlf.symm,(by rw [<- eq]; exact ao),by rw [ay,ln]; rfl,a0,a1,a2⟩
  rintro σ G ⟨nums,u7,u8,rfl,sG,hlf',hnm',ln,q0,q1,q2⟩
  obtain ⟨n,x,y,rfl⟩:∃ n x y,nums=[n,x,y]:=by
    match nums,ln with
    | [n,x,y],_=>exact ⟨n,x,y,rfl⟩
  obtain ⟨e0,z0⟩:=q0 n rfl
  have e1:=q1 x rfl
  have e2:=q2 y rfl
  have e1':ev (gX h {w with rk:=w.rk++[F]}) F1=.ok x:=e1
  have e2':ev (gX h {w with rk:=w.rk++[F]++[F1]}) F2=.ok y:=e2
  simp only [rck,e0,if_neg z0,e1',e2'] at p
  have g1:=g.same sG
  have kk1:=g1.sm _ _ hk
  refine aO ?_
  refine ⟨_,rfl,kh,_,_,_,rfl,rfl,SqT.of kk1,rfl,_,rfl,nm,_,_,_,rfl,rfl,SqL.of hnm',rfl,_,_,rfl,rfl,_,_,rfl,rfl,c12,_,_,rfl,rfl,_,rfl,gH (fun c=>?_) (fun c=>?_)⟩
  · rw [if_pos (show 10 ^ 12 < h.t + n from gc c)] at p
    exact p _ g1.sm
  rw [if_neg (show ¬ 10 ^ 12 < h.t + n from hU c)] at p
  refine cS ?_
  dsimp only
  obtain ⟨vs,o1,o2⟩:=g1.hn
  have lv:vs.length < aE:=by
    have z:vs.length=w.out.length:=bL o2
    have:100000 < aE:=by decide
    omega
  refine aO ?_
  refine ⟨_,rfl,.inl ⟨rfl,_,SqL.of o1⟩,?_⟩
  refine ⟨_,rfl,kh,_,_,_,rfl,rfl,SqT.of kk1,rfl,_,rfl,nm,_,_,_,rfl,rfl,SqL.of hnm',rfl,_,_,rfl,rfl,_,rfl,t,_,_,_,rfl,rfl,tt g1.sm,rfl,_,rfl,_,rfl,L.l,_,_,_,rfl,rfl,SqL.of g1.hl,rfl,(by show 4<=aE; decide),fun kt hkt=>?_⟩
  have sk:=aM hkt (.tup [.int (h.t + n),.int rk,.int h.to,.int w.se])
  have g2:=g1.same sk
  refine ⟨_,rfl,t,_,_,_,rfl,rfl,tt g2.sm,rfl,_,rfl,t,_,_,_,rfl,rfl,tt g2.sm,rfl,_,rfl,nm,_,_,_,rfl,rfl,SqL.of (sk _ _ hnm'),rfl,_,rfl,nm,_,_,_,rfl,rfl,SqL.of (sk _ _ hnm'),rfl,lt5,fun et het=>?_⟩
  have se:=aM het (.tup [.ref kt,.int to,.str sg,.int x,.int y])
  have g3:=g2.same se
  refine ⟨L.nl,vs,_,rfl,rfl,se _ _ (sk _ _ o1),lv,?_⟩
  have g4:=g3.sent (v:=.ref et) (e:=⟨h.t + n,rk,h.to,w.se,to,sg,x,y⟩) (se _ _ (sk _ _ o1)) ⟨et,kt,rfl,ao,se _ _ ao⟩ ⟨j1 g.asks (hF1.1.same g.sm) e1,j1 g.asks (hF2.1.same g.sm) e2⟩
  dsimp only
  refine aO (cN ?_)
  refine ⟨_,rfl,L.l,_,_,_,rfl,rfl,SqL.of g4.hl,rfl,_,_,rfl,rfl,_,rfl,L.l,_,_,3,rfl,rfl,g4.hl,rfl,?_⟩
  have g5:=g4.counts w.dr (w.se + 1)
  exact p _ (g5.pure (w.rk++[F]++[F1]++[F2]) g.ok.nu g.ok.su)
end
end My
namespace My
open PySem L2
section
variable {P:aX} {w:cz} {K:aj} {mg:Str->Option af} {base:cR} {f fC fT fS fW:ae} {fd fdC fdT fdS fdW:cH} {bs qs:List Str}
seal L2.PS L2.PSs L2.PE L2.PA L2.PT L2.PW L2.PI L2.PG L2.PGs L2.PC
theorem Rg.putB {H0 G:Hp} {L:RL} {h:Ev} {w:Wk} {tc:List Str} {ws:List V} (g:Rg bs qs H0 G L h w tc ws) {x:Str} {n:Int} (m:x∈bs):kY G L.bd (.str x) (.int n) (upd G L.bd (.dK (boK (jo w.bx x n)))):=by
  have z:=kY.k (k:=Sum.inr x) (v:=.int n) g.hb (by
    have:=g.ok.fw
    have:=eM
    rw [qg]
    have e:=congrArg gF g.ok.kb
    rw [ai] at e
    rw [ay] at *
    omega)
  rw [xP (by rw [g.ok.kb]; exact m)] at z
  exact z
theorem Rg.getL {H0 G:Hp} {L:RL} {h:Ev} {w:Wk} {tc:List Str} {ws:List V} (g:Rg bs qs H0 G L h w tc ws) {x:Str} (m:x∈qs):∃ l,L.qa.lookup x=some l/\G l=some (.lst ((gy w.qu x).map V.int))/\kd G L.qd (.str x) (some (.ref l)):=by
  obtain ⟨l,h1,h2,_⟩:=g.hqs.at_ (x:=x) (by rw [g.ok.kq]; exact m)
  refine ⟨l,h1,h2,?_⟩
  have z:=kd.k (k:=Sum.inr x) g.hq
  rw [oa h1] at z
  exact z
theorem Rg.wrote {H0 G:Hp} {L:RL} {h:Ev} {w:Wk} {tc:List Str} {ws:List V} (g:Rg bs qs H0 G L h w tc ws) {wr:List Str} (nw:wr.Nodup) (sw:∀ y∈wr,y∈bs++qs) (e:∀ y,y∈wr↔y∈w.wr):Rg bs qs H0 G L h {w with wr:=wr} tc ws:=by
  obtain ⟨kb,kq,nb,nq',wb,wq,_,_,nu,su,wo,fw⟩:=g.ok
  exact ⟨g.sm,g.hl,g.hb,g.hq,g.hqs,g.ht,g.hn,g.hw,g.nd,g.fr,⟨kb,kq,nb,nq',wb,wq,nw,sw,nu,su,wo,fw⟩,g.wt,g.wa,g.wb,fun x hx=>(g.tw x hx).trans (e x).symm,g.te,g.ne⟩
abbrev pDw:List Str:=["_law_deed_here","_law_state","_law_number","_law_draws"]
def AN (ds:List Int) (x:Str) (n:Int) (w:Wk):Except Flt Wk:=if n < 1 then .error .nought else if ds=[] then .error .dry else .ok {w with dr:=w.dr + 1,bx:=jo w.bx x (ds.getD (w.dr % ds.length) 0 % n)}
def spDw (bs qs:List Str):Sp:=fun vs H Q _=>∃ (H0:Hp) (L:RL) (h:Ev) (ds:List Int) (w:Wk) (tc:List Str) (ws:List V) (t dl:ae) (u:V) (x:Str) (n:Int),vs=[.ref t,.ref L.l,.int n,.ref dl]/\Rg bs qs H0 H L h w tc ws/\H0 t=some (.tup [.str "draw",.str x,u])/\H0 dl=some (.lst (ds.map V.int))/\x∈bs/\Wo n/\ds.length<=1000/\C5 (fun w' G'=>Rg bs qs H0 G' L h w' tc ws) H0 (AN ds x n w) Q
theorem scDw:cD pDw pDw (aB jc):=⟨rfl,rfl,rfl,by decide +kernel,rfl,by decide +kernel,by decide +kernel⟩
theorem ok_dw (D:Df K mg "_law_drawn" jc pDw f fd) (B:Bl mg):bZ P w K mg base CX0 1 f fd pDw (spDw bs qs):=by
  refine D.F.ok scDw (fun vs H Q E h=>?_) (fun cdv A outer s H vs Q E hr h=>?_)
  · obtain ⟨H0,L,h,ds,w,tc,ws,t,dl,u,x,n,rfl,_⟩:=h
    rfl
  obtain ⟨H0,L,h,ds,w,tc,ws,t,dl,u,x,n,rfl,g,ht,hd,hx,hn,ld,p⟩:=h
  have hu:=jZ hr
  refine ⟨_,ah (cK (bE nK (pv 2) ag (bM _)) (au (bD bN)) bH)
    (ah (cK (bE di (cu (dS K (by rfl)) (by rfl) B.len cw (aT (pv 3) ak)) ag (bM _)) (au (bD bN)) bH)
    (ah (gu hu (aP bT (pv 1) ag (fun _ _=>rfl)) (aP bC (pv 0) ag (fun _ _=>rfl)) (cJ kU (aP bT (pv 3) (cJ kU (aP bT (pv 1) ag (fun _ _=>rfl)) (cu (dS K (by rfl)) (by rfl) B.len cw (aT (pv 3) ak))) (fun _ _=>rfl)) (pv 2)) rfl)
    (ah (oU (cJ fZ (aP bT (pv 1) ag (fun _ _=>rfl)) ag) (qv (pv 1) ag mP))
    (au (bD bN))))),?_⟩
  unfold AN at p
  have tt:=SqT.of (K:=K) (g.sm _ _ ht)
  have hd1:=g.sm _ _ hd
  refine aO ?_
  refine ⟨_,rfl,_,_,rfl,rfl,_,rfl,gH (fun c=>?_) (fun c=>cS ?_)⟩
  · rw [if_pos (gc c)] at p
    exact p _ g.sm
  have c:¬ n < 1:=hU c
  rw [if_neg c] at p
  dsimp only
  refine aO ?_
  refine ⟨_,rfl,dl,_,rfl,.inl (SqL.of hd1),rfl,_,rfl,?_⟩
  rw [ai]
  cases hds:ds with
  | nil =>
    rw [hds] at p
    refine fz (b:=true) (decide_eq_true rfl) (eC ?_)
    exact p _ g.sm
  | cons d0 dr =>
    rw [<- hds]
    have ne:¬ ds=[]:=by rw [hds]; intro z; cases z
    have pos:0 < ds.length:=by rw [hds]; exact mX _
    rw [if_neg ne] at p
    refine fz (b:=false) (decide_eq_false (fun z=>by have:=jU z; omega)) (dY (cS ?_))
    dsimp only
    have lt:w.dr % ds.length < ds.length:=Nat.mod_lt _ pos
    have ix:atI (ds.map V.int) ((w.dr:Int) % (((ds.map V.int).length:Nat):Int))=some (.int (ds.getD (w.dr % ds.length) 0)):=by
      rw [ai,<- BJ]
      exact jG (vd ds _ lt)
    have wm:Wo (ds.getD (w.dr % ds.length) 0 % n):=by
      have a1:=ie (ds.getD (w.dr % ds.length) 0) (show n≠0 by omega)
      have a2:=gk (ds.getD (w.dr % ds.length) 0) (show 0 < n by omega)
      unfold Wo at hn |-
      omega
    have g1:=g.box (x:=x) wm
    refine aO ?_
    refine ⟨_,rfl,_,rfl,L.l,_,_,_,rfl,rfl,SqL.of g.hl,rfl,_,rfl,dl,_,rfl,.inl (SqL.of hd1),_,_,rfl,rfl,(by rw [ai]; omega),dl,_,_,_,rfl,rfl,SqL.of hd1,ix,_,rfl,_,_,rfl,rfl,(by omega),_,rfl,L.l,_,_,_,rfl,rfl,SqL.of g.hl,rfl,_,rfl,t,_,_,_,rfl,rfl,tt,rfl,L.bd,_,rfl,g.putB hx,?_⟩
    dsimp only
    refine aO (cN ?_)
    refine ⟨_,rfl,L.l,_,_,_,rfl,rfl,SqL.of g1.hl,rfl,_,_,rfl,rfl,_,rfl,L.l,_,_,2,rfl,rfl,g1.hl,rfl,?_⟩
    have g2:=g1.counts (w.dr + 1) w.se
    exact p _ g2
abbrev pOd:List Str:=["_law_deed_here","_law_state","_law_key","_law_at","_law_got","_law_draws","_law_touched","_law_news","_law_work"]
abbrev nOd:List Str:=pOd++(["_law_one","_law_formula_here","_law_number"]:List Str)
def PostS (dg:Wk->List V->Hp->Prop) (R:Ds->List V->Prop) (H0:Hp) (ws:List V) (r:Except Flt (Wk×Ds)) (Q:VK):Prop:=match r with
  | .ok p=>∀ G' vs,R p.2 vs->dg p.1 (ws++vs.reverse) G'->Q (.str "") G'
  | .error e=>∀ G',cF H0 G'->Q (.str (kS e)) G'
def spOd (bs qs:List Str):Sp:=fun vs H Q _=>∃ (H0:Hp) (L:RL) (h:Ev) (ds:List Int) (w:Wk) (tc:List Str) (ws:List V) (v:V) (kh gl dl:ae) (d:Dd),vs=[v,.ref L.l,.ref kh,.int h.to,.ref gl,.ref dl,.ref L.tl,.ref L.nl,.ref L.wl]/\Rg bs qs H0 H L h w tc ws/\dZ bs qs H0 d v /\
  H0 kh=some (.tup [.int h.t,.int h.r,.int h.fr,.int h.c])/\H gl=some (.lst [.int h.a,.int h.b])/\H0 dl=some (.lst (ds.map V.int))/\ds.length<=1000/\w.out.length < 100000/\tc.length < 100000/\ws.length < 100000/\PostS (fun w' ws' G'=>∃ tc':List Str,tc'.length<=tc.length + 2/\Rg bs qs H0 G' L h w' tc' ws') (eA bs qs H0) H0 ws (shD h ds d w) Q
theorem yY:cD nOd pOd (aB gO):=⟨rfl,rfl,rfl,by decide +kernel,rfl,by decide +kernel,by decide +kernel⟩
theorem ok_od (D:Df K mg "_law_one_deed" gO pOd f fd) (DS:Df K mg "_law_sent" jB yX fS fdS) (DW:Df K mg "_law_drawn" jc pDw fW fdW) (DC:Df K mg "_law_comes_to" fu pLR fC fdC) (DT:Df K mg "_law_two" iE ["_law_word","_law_one","_law_other"] fT fdT) (B:Bl mg):bZ P w K mg base CX0 18 f fd pOd (spOd bs qs):=by
  have GC:bZ P w K mg base CX0 16 fC fdC pLR (yW 15):=AK DC DT B 15
  have GS:bZ P w K mg base CX0 17 fS fdS yX (C6 bs qs):=EM DS DC DT B
  have GW:bZ P w K mg base CX0 1 fW fdW pDw (spDw bs qs):=ok_dw DW B
  refine D.F.ok yY (fun vs H Q E h=>?_) (fun cdv A outer s H vs Q E hr h=>?_)
  · obtain ⟨H0,L,h,ds,w,tc,ws,v,kh,gl,dl,d,rfl,_⟩:=h
    rfl
  obtain ⟨H0,L,h,ds,w,tc,ws,v,kh,gl,dl,d,rfl,g,hd,hk,hg,hdl,ld,lo,lt,lw,p⟩:=h
  have hu:=jZ hr
  have r1:eN 1 _:=hr.mono (by decide)
  have r16:eN 16 _:=hr.mono (by decide)
  have big:200000 < aE:=by decide
  refine ⟨_,ah (cK (bE di (aP bC (pv 0) ag (fun _ _=>rfl)) bN (bM _)) (ah (dv (ia aW bA bB dR (pv 6) (cX bN ak)))
    (au (bD bN))) bH)
    (ah (cK (bE di (aP bC (pv 0) ag (fun _ _=>rfl)) bN (bM _)) (au (bD (aN GS hr (by rfl) DS.m DS.F.kp DS.b .nil bR (aT (pv 0) (aT (pv 1) (aT (pv 2) (aT (pv 3) (aT (pv 4) (aT (pv 7) ak))))))))) bH)
    (ah (cK (bE di (aP bC (pv 0) ag (fun _ _=>rfl)) bN (bM _)) (ah (cK (bE di (cu (dS K (by rfl)) (by rfl) B.len cw (aw (gs hu (aP bT (pv 1) ag (fun _ _=>rfl)) (aP bC (pv 0) ag (fun _ _=>rfl)) (fun _ _=>rfl)) ak)) ag (bM _)) (au (fq cj rfl (fj (wC (aP bC (pv 0) ag (fun _ _=>rfl)) (j3 (uB qx ag)))) (cP (i:=9) yY.nd rfl (Or.inl rfl)) (au (dv (ia aW bA bB dR (pv 8) (aT (pv 9) ak)))))) (ah (gu hu (aP bT (pv 1) ag (fun _ _=>rfl)) (aP bC (pv 0) ag (fun _ _=>rfl)) (ia aW mh mi uG (gs hu (aP bT (pv 1) ag (fun _ _=>rfl)) (aP bC (pv 0) ag (fun _ _=>rfl)) (fun _ _=>rfl)) (aw ag ak)) rfl)
    (ah (dv (ia aW bA bB dR (pv 6) (ig (aP bC (pv 0) ag (fun _ _=>rfl)) ak)))
    (au (dv (ia aW bA bB dR (pv 6) (ig (aP bC (pv 0) ag (fun _ _=>rfl)) ak)))))))
    (au (bD bN))) bH)
    (ah (bF (i:=10) yY.nd rfl (Or.inl rfl) (aP bC (pv 0) ag (fun _ _=>rfl)))
    (ah (cK (bE di (aP bC (pv 0) ag (fun _ _=>rfl)) bN (bM _)) (au (bF (i:=10) yY.nd rfl (Or.inl rfl) (aP bC (pv 0) ag (fun _ _=>rfl)))) bH)
    (ah (bF (i:=11) yY.nd rfl (Or.inl rfl) (aN GC r16 (by rfl) DC.m DC.F.kp DC.b .nil bR (aT (pv 10) (aT (pv 1) (ig (aP bC (pv 2) ag (fun _ _=>rfl)) (aT (pv 4) ak))))))
    (ah (cK (fo (cu dO (by rfl) B.isi eF (aw (pv 11) (aw (fG (v:=.ty "str") (by rfl) B.str boot_str rfl) ak)))) (au (bD (pv 11))) bH)
    (ah (cK (bE di (aP bC (pv 0) ag (fun _ _=>rfl)) bN (bM _)) (ah (fq cj rfl (fj (wC (aP bC (pv 0) (cJ fZ ag (hV oZ (by rfl) B.int boot_int (aw (j2 di (pv 11) ag (bM _)) ak))) (fun _ _=>rfl)) (j3 (uB qx ag)))) (cP (i:=9) yY.nd rfl (Or.inl rfl)) (au (dv (ia aW bA bB dR (pv 8) (aT (pv 9) ak)))))
    (au (bD bN))) bH)
    (ah (dv (ia aW bA bB dR (pv 6) (ig (aP bC (pv 0) ag (fun _ _=>rfl)) ak)))
    (ah (cK (bE di (aP bC (pv 0) ag (fun _ _=>rfl)) bN (bM _)) (au (bD (aN GW r1 (by rfl) DW.m DW.F.kp DW.b .nil bR (aT (pv 0) (aT (pv 1) (aT (pv 11) (aT (pv 5) ak))))))) bH)
    (ah (cK (bE di (aP bC (pv 0) ag (fun _ _=>rfl)) bN (bM _)) (ah (gu hu (aP bT (pv 1) ag (fun _ _=>rfl)) (aP bC (pv 0) ag (fun _ _=>rfl)) (pv 11) rfl)
    (au (bD bN))) bH)
    (ah (cK (bE di (cu (dS K (by rfl)) (by rfl) B.len cw (aw (gs hu (aP bT (pv 1) ag (fun _ _=>rfl)) (aP bC (pv 0) ag (fun _ _=>rfl)) (fun _ _=>rfl)) ak)) ag (bM _)) (au (bD bN)) bH)
    (ah (dv (ia aW bA bB dR (gs hu (aP bT (pv 1) ag (fun _ _=>rfl)) (aP bC (pv 0) ag (fun _ _=>rfl)) (fun _ _=>rfl)) (aT (pv 11) ak)))
    (au (bD bN)))))))))))))),?_⟩
  have nx:∀ {a b:Str} {p1 p2:Prop},(a == b)=false->p2->(if decide (V.str a=V.str b)=true then p1 else p2):=fun z q=>fz (kl (sne z)) (dY q)
  have yx:∀ {a:Str} {p1 p2:Prop},p1->(if decide (V.str a=V.str a)=true then p1 else p2):=fun q=>fz (pA _) (eC q)
  have kk1:=g.sm _ _ hk
  have hdl1:=g.sm _ _ hdl
  have none:eA bs qs H0 .nil []:=by simp only [eA]
  cases d with
  | fin =>
    obtain ⟨t,rfl,ht⟩:=(by simpa only [dZ] using hd)
    have tt:=SqT.of (K:=K) (g.sm _ _ ht)
    simp only [shD,doD] at p
    refine aO ⟨_,rfl,t,_,_,_,rfl,rfl,tt,rfl,rfl,_,rfl,yx ?_⟩
    refine aO ?_
    refine ⟨_,rfl,.inl ⟨rfl,_,SqL.of g.ht⟩,L.tl,_,_,rfl,rfl,g.ht,by rw [ai]; omega,?_⟩
    have g1:=g.ended
    have eq:tc.map V.str++[V.str "the end"]=(tc++[("the end":Str)]).map V.str:=by rw [aV]; rfl
    rw [<- eq] at g1
    exact p _ [] none ⟨tc++[("the end":Str)],by rw [ay]; exact iO (show 1<=2 by decide) _,by rw [iK,dj]; exact g1⟩
  | send to sg F rk F1 F2 =>
    obtain ⟨t,u,u1,u2,rfl,ht,hF,hF1,hF2⟩:=(by simpa only [dZ] using hd)
    have tt:=SqT.of (K:=K) (g.sm _ _ ht)
    simp only [shD] at p
    refine aO ⟨_,rfl,t,_,_,_,rfl,rfl,tt,rfl,rfl,_,rfl,nx (by decide +kernel) (cS ?_)⟩
    dsimp only
    refine aO ⟨_,rfl,t,_,_,_,rfl,rfl,tt,rfl,rfl,_,rfl,yx ?_⟩
    refine qX ?_
    refine ⟨_,rfl,_,rfl,_,rfl,_,rfl,_,rfl,_,rfl,H0,L,h,ds,w,tc,ws,t,kh,gl,u,u1,u2,to,sg,rk,F,F1,F2,rfl,g,ht,hk,hg,hF,hF1,hF2,lo,?_⟩
    cases e:doD h ds (.send to sg F rk F1 F2) w with
    | ok w' =>
      rw [e] at p
      exact fun G' g'=>p G' [] none ⟨tc,by omega,by rw [iK,dj]; exact g'⟩
    | error er =>
      rw [e] at p
      exact p
  | pull q x o =>
    obtain ⟨t,u,rfl,ht,hq,hx,l,vs,rfl,hl,lv,hD⟩:=(by simpa only [dZ] using hd)
    have tt:=SqT.of (K:=K) (g.sm _ _ ht)
    simp only [shD] at p
    refine aO ⟨_,rfl,t,_,_,_,rfl,rfl,tt,rfl,rfl,_,rfl,nx (by decide +kernel) (cS ?_)⟩
    dsimp only
    refine aO ⟨_,rfl,t,_,_,_,rfl,rfl,tt,rfl,rfl,_,rfl,nx (by decide +kernel) (cS ?_)⟩
    dsimp only
    refine aO ⟨_,rfl,t,_,_,_,rfl,rfl,tt,rfl,rfl,_,rfl,yx ?_⟩
    obtain ⟨lq,a1,a2,a3⟩:=g.getL hq
    have gq:=lO g.ok hq
    refine aO ?_
    refine ⟨_,rfl,L.l,_,_,_,rfl,rfl,SqL.of g.hl,rfl,_,rfl,t,_,_,_,rfl,rfl,tt,rfl,L.qd,_,rfl,a3,lq,_,rfl,.inl (SqL.of a2),rfl,_,rfl,?_⟩
    rw [ai]
    cases e1:gy w.qu q with
    | nil =>
      rw [e1] at p
      refine fz (b:=true) (decide_eq_true rfl) (eC ?_)
      refine ⟨_,rfl,t,_,_,_,rfl,rfl,tt,rfl,_,rfl,_,rfl,rfl,l,vs,rfl,SqL.of (g.sm _ _ hl),fun pr hpr=>?_⟩
      have sp:=aM hpr (.lst vs.reverse)
      refine ⟨pr,rfl,⟨_,SqL.of ao⟩,fY (K:=K) (a:=pr) (xs:=vs.reverse) (fun i σ G=>∃ u9 u10 u11:Option V,σ=[some (.ref t),some (.ref L.l),some (.ref kh),some (.int h.to),some (.ref gl),some (.ref dl),some (.ref L.tl),some (.ref L.nl),some (.ref L.wl),u9,u10,u11]/\Rg bs qs H0 G L h w tc (ws++vs.reverse.take i)/\G pr=some (.lst vs.reverse))
        ⟨_,_,_,rfl,by rw [eK,dj]; exact g.same sp,ao⟩ ?_ ?_ ?_⟩
      · rintro i σ G _ ⟨_,_,_,rfl,_,h2⟩
        exact SqL.of h2
      · rintro i x σ G hi ⟨u9,u10,u11,rfl,g1,h2⟩
        have li:=(aL.mp hi).1
        rw [iM] at li
        have ll:(ws++vs.reverse.take i).length < aE:=by
          rw [ay,cT]
          omega
        refine ⟨_,rfl,.inl ⟨rfl,_,SqL.of g1.hw⟩,_,rfl,L.wl,_,_,rfl,rfl,g1.hw,ll,?_⟩
        have npr:pr≠L.wl:=fun z=>by
          have y:=g.hw
          rw [<- z,hpr] at y
          cases y
        refine ⟨_,_,_,rfl,?_,aR h2 npr⟩
        rw [ff,hi,<- pP]
        exact g1.work _
      · rintro σ G ⟨u9,u10,u11,rfl,g1,_⟩
        rw [cM] at g1
        refine p G vs hD ⟨tc,by omega,?_⟩
        have z:=g1.pure w.rk (kP (x:=q) g1.ok.nu) (fun y hy=>by
          rcases jN hy with e | e
          · exact g1.ok.su y e
          · rw [e]
            exact bK _ hq)
        exact z
    | cons m ms =>
      rw [e1] at p a2 gq
      refine fz (b:=false) (decide_eq_false (fun z=>by have:=jU z; rw [bX] at this; omega)) (dY ?_)
      have g1:=g.queue (x:=q) (l:=lq) (ns:=ms) a1 (by have:=gq.1; rw [bX] at this; omega) (fun z hz=>gq.2 z (aa _ hz))
      have g2:=g1.box (x:=x) (gq.2 m aA)
      refine aO ?_
      refine ⟨_,rfl,L.l,_,_,_,rfl,rfl,SqL.of g.hl,rfl,_,rfl,t,_,_,_,rfl,rfl,tt,rfl,L.qd,_,rfl,a3,.inl ⟨rfl,_,SqL.of a2⟩,lq,_,_,0,.int m,rfl,rfl,a2,(by decide),(by decide),(p5 (n:=((m :: ms).map V.int).length) (i:=0) (j:=0) (by unfold ixN; rw [if_pos (by decide),if_pos (by rw [ai,bX]; omega)]; rfl)).1,rfl,?_⟩
      refine ⟨_,rfl,L.l,_,_,_,rfl,rfl,SqL.of g1.hl,rfl,_,rfl,t,_,_,_,rfl,rfl,SqT.of (g1.sm _ _ ht),rfl,L.bd,_,rfl,g1.putB hx,?_⟩
      dsimp only
      refine aO ?_
      refine ⟨_,rfl,.inl ⟨rfl,_,SqL.of g2.ht⟩,_,rfl,t,_,_,_,rfl,rfl,SqT.of (g2.sm _ _ ht),rfl,L.tl,_,_,rfl,rfl,g2.ht,by rw [ai]; omega,?_⟩
      have g3:=g2.touch (x:=q) (bK _ hq)
      have eq:tc.map V.str++[V.str q]=(tc++[q]).map V.str:=by rw [aV]; rfl
      rw [<- eq] at g3
      have ht3:upd (upd (upd H lq (.lst (ms.map V.int))) L.bd (.dK (boK (jo w.bx x m)))) L.tl (.lst (tc.map V.str++[V.str q])) L.tl=some (.lst ((tc++[q]).map V.str)):=by rw [<- eq]; exact ao
      dsimp only
      refine ⟨_,rfl,.inl ⟨rfl,_,SqL.of ht3⟩,_,rfl,t,_,_,_,rfl,rfl,SqT.of (g3.sm _ _ ht),rfl,L.tl,_,_,rfl,rfl,ht3,by rw [ai,ay]; exact jm (Nat.add_le_add_right (kA lt) _) (by show 100000 + 1 < aE; decide),?_⟩
      have g4:=g3.touch (x:=x) (dC _ hx)
      have eq2:(tc++[q]).map V.str++[V.str x]=(tc++[q]++[x]).map V.str:=by rw [aV (l₁:=tc++[q])]; rfl
      rw [<- eq2] at g4
      have sw:∀ y∈gP (gP w.wr x) q,y∈bs++qs:=fun y hy=>by
        rcases jN hy with e | e
        · rcases jN e with e | e
          · exact g.ok.sw y e
          · rw [e]
            exact dC _ hx
        · rw [e]
          exact bK _ hq
      have nq:(gP w.qn q).Nodup:=kP g.ok.nu
      have sq:∀ y∈gP w.qn q,y∈bs++qs:=fun y hy=>by
        rcases jN hy with e | e
        · exact g.ok.su y e
        · rw [e]
          exact bK _ hq
      have g5:=(g4.pure w.rk nq sq).wrote (wr:=gP (gP w.wr x) q) (kP (kP g.ok.nw)) sw (fun y=>by
        show y∈gP (gP w.wr x) q↔y∈gP (gP w.wr q) x
        rw [mZ,mZ,mZ,mZ]
        exact ⟨fun z=>z.elim (fun z=>z.elim (fun z=>.inl (.inl z)) .inr) (fun z=>.inl (.inr z)),fun z=>z.elim (fun z=>z.elim (fun z=>.inl (.inl z)) .inr) (fun z=>.inl (.inr z))⟩)
      exact p _ [] none ⟨tc++[q]++[x],by rw [ay,ay]; exact aS _,by rw [iK,dj]; exact g5⟩
  | put x F =>
    obtain ⟨t,u,rfl,ht,hx,hF⟩:=(by simpa only [dZ] using hd)
    have tt:=SqT.of (K:=K) (g.sm _ _ ht)
    have hxx:x∈bs++qs:=dC _ hx
    simp only [shD,doD,rck] at p
    refine aO ⟨_,rfl,t,_,_,_,rfl,rfl,tt,rfl,rfl,_,rfl,nx (by decide +kernel) (cS ?_)⟩
    dsimp only
    refine aO ⟨_,rfl,t,_,_,_,rfl,rfl,tt,rfl,rfl,_,rfl,nx (by decide +kernel) (cS ?_)⟩
    dsimp only
    refine aO ⟨_,rfl,t,_,_,_,rfl,rfl,tt,rfl,rfl,_,rfl,nx (by decide +kernel) (cS ?_)⟩
    dsimp only
    refine aO (cN ?_)
    refine ⟨_,rfl,t,_,_,_,rfl,rfl,tt,rfl,?_⟩
    refine aZ ?_
    dsimp only
    refine aO ⟨_,rfl,t,_,_,_,rfl,rfl,tt,rfl,rfl,_,rfl,nx (by decide +kernel) (cS ?_)⟩
    dsimp only
    refine aO (cN ?_)
    refine ⟨_,rfl,_,rfl,_,rfl,kh,_,_,_,rfl,rfl,SqT.of kk1,rfl,_,rfl,u,F,bs,qs,L.l,L.bd,L.qd,gl,_,_,gX h w,rfl,g.hl,hF.1.same g.sm,hF.2,g.holds hg,g.asks,fun G1 s1=>?_⟩
    refine aZ ?_
    dsimp only
    have g0:=g.same s1
    have tt:=SqT.of (K:=K) (g0.sm _ _ ht)
    have hdl1:=g0.sm _ _ hdl
    cases ee:ev (gX h w) F with
    | nought =>
      rw [ee] at p
      exact aO ⟨_,rfl,_,"str",_,true,rfl,.str _,iI,_,rfl,eC ⟨_,rfl,p _ g0.sm⟩⟩
    | great =>
      rw [ee] at p
      exact aO ⟨_,rfl,_,"str",_,true,rfl,.str _,iI,_,rfl,eC ⟨_,rfl,p _ g0.sm⟩⟩
    | ok n =>
    rw [ee] at p
    dsimp only at p
    have wn:Wo n:=j1 g.asks (hF.1.same g.sm) ee
    refine aO ⟨_,rfl,_,"str",_,false,rfl,.int n,kit_is,_,rfl,dY (cS ?_)⟩
    dsimp only
    refine aO ⟨_,rfl,t,_,_,_,rfl,rfl,tt,rfl,rfl,_,rfl,nx (by decide +kernel) (cS ?_)⟩
    dsimp only
    refine aO ?_
    refine ⟨_,rfl,.inl ⟨rfl,_,SqL.of g0.ht⟩,_,rfl,t,_,_,_,rfl,rfl,tt,rfl,L.tl,_,_,rfl,rfl,g0.ht,by rw [ai]; omega,?_⟩
    have g1:=g0.touch (x:=x) hxx
    have eq:tc.map V.str++[V.str x]=(tc++[x]).map V.str:=by rw [aV]; rfl
    rw [<- eq] at g1
    have tt:=SqT.of (K:=K) (g1.sm _ _ ht)
    have hdl1:=g1.sm _ _ hdl
    dsimp only
    have l2:(tc++[x]).length<=tc.length + 2:=by rw [ay]; exact iO (show 1<=2 by decide) _
    refine aO ⟨_,rfl,t,_,_,_,rfl,rfl,tt,rfl,rfl,_,rfl,nx (by decide +kernel) (cS ?_)⟩
    dsimp only
    refine aO ⟨_,rfl,t,_,_,_,rfl,rfl,tt,rfl,rfl,_,rfl,yx ?_⟩
    refine aO ?_
    refine ⟨_,rfl,_,rfl,L.l,_,_,_,rfl,rfl,SqL.of g1.hl,rfl,_,rfl,t,_,_,_,rfl,rfl,tt,rfl,L.bd,_,rfl,g1.putB hx,?_⟩
    have g2:=g1.box (x:=x) wn
    exact p _ [] none ⟨_,l2,by rw [iK,dj]; exact g2.pure (w.rk++[F]) g.ok.nu g.ok.su⟩
  | push x F =>
    obtain ⟨t,u,rfl,ht,hx,hF⟩:=(by simpa only [dZ] using hd)
    have tt:=SqT.of (K:=K) (g.sm _ _ ht)
    have hxx:x∈bs++qs:=bK _ hx
    simp only [shD,doD,rck] at p
    refine aO ⟨_,rfl,t,_,_,_,rfl,rfl,tt,rfl,rfl,_,rfl,nx (by decide +kernel) (cS ?_)⟩
    dsimp only
    refine aO ⟨_,rfl,t,_,_,_,rfl,rfl,tt,rfl,rfl,_,rfl,nx (by decide +kernel) (cS ?_)⟩
    dsimp only
    refine aO ⟨_,rfl,t,_,_,_,rfl,rfl,tt,rfl,rfl,_,rfl,nx (by decide +kernel) (cS ?_)⟩
    dsimp only
    refine aO (cN ?_)
    refine ⟨_,rfl,t,_,_,_,rfl,rfl,tt,rfl,?_⟩
    refine aZ ?_
    dsimp only
    refine aO ⟨_,rfl,t,_,_,_,rfl,rfl,tt,rfl,rfl,_,rfl,nx (by decide +kernel) (cS ?_)⟩
    dsimp only
    refine aO (cN ?_)
    refine ⟨_,rfl,_,rfl,_,rfl,kh,_,_,_,rfl,rfl,SqT.of kk1,rfl,_,rfl,u,F,bs,qs,L.l,L.bd,L.qd,gl,_,_,gX h w,rfl,g.hl,hF.1.same g.sm,hF.2,g.holds hg,g.asks,fun G1 s1=>?_⟩
    refine aZ ?_
    dsimp only
    have g0:=g.same s1
    have tt:=SqT.of (K:=K) (g0.sm _ _ ht)
    have hdl1:=g0.sm _ _ hdl
    cases ee:ev (gX h w) F with
    | nought =>
      rw [ee] at p
      exact aO ⟨_,rfl,_,"str",_,true,rfl,.str _,iI,_,rfl,eC ⟨_,rfl,p _ g0.sm⟩⟩
    | great =>
      rw [ee] at p
      exact aO ⟨_,rfl,_,"str",_,true,rfl,.str _,iI,_,rfl,eC ⟨_,rfl,p _ g0.sm⟩⟩
    | ok n =>
    rw [ee] at p
    dsimp only at p
    have wn:Wo n:=j1 g.asks (hF.1.same g.sm) ee
    refine aO ⟨_,rfl,_,"str",_,false,rfl,.int n,kit_is,_,rfl,dY (cS ?_)⟩
    dsimp only
    refine aO ⟨_,rfl,t,_,_,_,rfl,rfl,tt,rfl,rfl,_,rfl,nx (by decide +kernel) (cS ?_)⟩
    dsimp only
    refine aO ?_
    refine ⟨_,rfl,.inl ⟨rfl,_,SqL.of g0.ht⟩,_,rfl,t,_,_,_,rfl,rfl,tt,rfl,L.tl,_,_,rfl,rfl,g0.ht,by rw [ai]; omega,?_⟩
    have g1:=g0.touch (x:=x) hxx
    have eq:tc.map V.str++[V.str x]=(tc++[x]).map V.str:=by rw [aV]; rfl
    rw [<- eq] at g1
    have tt:=SqT.of (K:=K) (g1.sm _ _ ht)
    have hdl1:=g1.sm _ _ hdl
    dsimp only
    have l2:(tc++[x]).length<=tc.length + 2:=by rw [ay]; exact iO (show 1<=2 by decide) _
    refine aO ⟨_,rfl,t,_,_,_,rfl,rfl,tt,rfl,rfl,_,rfl,nx (by decide +kernel) (cS ?_)⟩
    dsimp only
    refine aO ⟨_,rfl,t,_,_,_,rfl,rfl,tt,rfl,rfl,_,rfl,nx (by decide +kernel) (cS ?_)⟩
    dsimp only
    obtain ⟨lq,a1,a2,a3⟩:=g1.getL hx
    have gq:=lO g.ok hx
    refine aO ?_
    refine ⟨_,rfl,L.l,_,_,_,rfl,rfl,SqL.of g1.hl,rfl,_,rfl,t,_,_,_,rfl,rfl,tt,rfl,L.qd,_,rfl,a3,lq,_,rfl,.inl (SqL.of a2),rfl,_,rfl,?_⟩
    rw [ai]
    by_cases c:(gy w.qu x).length=30
    · rw [if_pos (by omega)] at p
      refine fz (b:=true) (decide_eq_true (by show V.int (((gy w.qu x).length:Nat):Int)=V.int 30; rw [c]; rfl)) (eC ?_)
      exact p _ g1.sm
    · have cc:¬ 30<=(gy w.qu x).length:=by
        have:=gq.1
        omega
      rw [if_neg cc] at p
      refine fz (b:=false) (decide_eq_false (fun z=>c (by have z2:=jU z; have z3:(((gy w.qu x).length:Nat):Int)=30:=z2; omega))) (dY (cS ?_))
      dsimp only
      refine aO ?_
      refine ⟨_,rfl,L.l,_,_,_,rfl,rfl,SqL.of g1.hl,rfl,_,rfl,t,_,_,_,rfl,rfl,tt,rfl,L.qd,_,rfl,a3,.inl ⟨rfl,_,SqL.of a2⟩,_,rfl,lq,_,_,rfl,rfl,a2,by rw [ai]; exact jm gq.1 (by decide),?_⟩
      have g2:=g1.queue (x:=x) (l:=lq) (ns:=gy w.qu x++[n]) a1 (by rw [ay]; simp only [bX,jh]; omega) (fun m hm=>by
        rcases cE.mp hm with z | z
        · exact gq.2 m z
        · rw [aQ.mp z]
          exact wn)
      have eq3:(gy w.qu x).map V.int++[V.int n]=(gy w.qu x++[n]).map V.int:=by rw [aV]; rfl
      rw [<- eq3] at g2
      exact p _ [] none ⟨_,l2,by rw [iK,dj]; exact g2.pure (w.rk++[F]) (qn:=gP w.qn x) (kP g.ok.nu) (fun y hy=>by
        rcases jN hy with e | e
        · exact g.ok.su y e
        · rw [e]
          exact hxx)⟩
  | draw x F =>
    obtain ⟨t,u,rfl,ht,hx,hF⟩:=(by simpa only [dZ] using hd)
    have tt:=SqT.of (K:=K) (g.sm _ _ ht)
    have hxx:x∈bs++qs:=dC _ hx
    simp only [shD,doD,rck] at p
    refine aO ⟨_,rfl,t,_,_,_,rfl,rfl,tt,rfl,rfl,_,rfl,nx (by decide +kernel) (cS ?_)⟩
    dsimp only
    refine aO ⟨_,rfl,t,_,_,_,rfl,rfl,tt,rfl,rfl,_,rfl,nx (by decide +kernel) (cS ?_)⟩
    dsimp only
    refine aO ⟨_,rfl,t,_,_,_,rfl,rfl,tt,rfl,rfl,_,rfl,nx (by decide +kernel) (cS ?_)⟩
    dsimp only
    refine aO (cN ?_)
    refine ⟨_,rfl,t,_,_,_,rfl,rfl,tt,rfl,?_⟩
    refine aZ ?_
    dsimp only
    refine aO ⟨_,rfl,t,_,_,_,rfl,rfl,tt,rfl,rfl,_,rfl,nx (by decide +kernel) (cS ?_)⟩
    dsimp only
    refine aO (cN ?_)
    refine ⟨_,rfl,_,rfl,_,rfl,kh,_,_,_,rfl,rfl,SqT.of kk1,rfl,_,rfl,u,F,bs,qs,L.l,L.bd,L.qd,gl,_,_,gX h w,rfl,g.hl,hF.1.same g.sm,hF.2,g.holds hg,g.asks,fun G1 s1=>?_⟩
    refine aZ ?_
    dsimp only
    have g0:=g.same s1
    have tt:=SqT.of (K:=K) (g0.sm _ _ ht)
    have hdl1:=g0.sm _ _ hdl
    cases ee:ev (gX h w) F with
    | nought =>
      rw [ee] at p
      exact aO ⟨_,rfl,_,"str",_,true,rfl,.str _,iI,_,rfl,eC ⟨_,rfl,p _ g0.sm⟩⟩
    | great =>
      rw [ee] at p
      exact aO ⟨_,rfl,_,"str",_,true,rfl,.str _,iI,_,rfl,eC ⟨_,rfl,p _ g0.sm⟩⟩
    | ok n =>
    rw [ee] at p
    dsimp only at p
    have wn:Wo n:=j1 g.asks (hF.1.same g.sm) ee
    refine aO ⟨_,rfl,_,"str",_,false,rfl,.int n,kit_is,_,rfl,dY (cS ?_)⟩
    dsimp only
    refine aO ⟨_,rfl,t,_,_,_,rfl,rfl,tt,rfl,rfl,_,rfl,nx (by decide +kernel) (cS ?_)⟩
    dsimp only
    refine aO ?_
    refine ⟨_,rfl,.inl ⟨rfl,_,SqL.of g0.ht⟩,_,rfl,t,_,_,_,rfl,rfl,tt,rfl,L.tl,_,_,rfl,rfl,g0.ht,by rw [ai]; omega,?_⟩
    have g1:=g0.touch (x:=x) hxx
    have eq:tc.map V.str++[V.str x]=(tc++[x]).map V.str:=by rw [aV]; rfl
    rw [<- eq] at g1
    have tt:=SqT.of (K:=K) (g1.sm _ _ ht)
    have hdl1:=g1.sm _ _ hdl
    dsimp only
    have l2:(tc++[x]).length<=tc.length + 2:=by rw [ay]; exact iO (show 1<=2 by decide) _
    refine aO ⟨_,rfl,t,_,_,_,rfl,rfl,tt,rfl,rfl,_,rfl,yx ?_⟩
    refine qX ?_
    refine ⟨_,rfl,_,rfl,_,rfl,_,rfl,H0,L,h,ds,_,_,_,t,dl,u,x,n,rfl,g1,ht,hdl,hx,wn,ld,?_⟩
    unfold AN
    by_cases c1:n < 1
    · rw [if_pos c1] at p |-
      exact p
    · rw [if_neg c1] at p |-
      by_cases c2:ds=[]
      · rw [if_pos c2] at p |-
        exact p
      · rw [if_neg c2] at p |-
        exact fun G' g'=>p G' [] none ⟨_,l2,by rw [iK,dj]; exact g'.pure (w.rk++[F]) g.ok.nu g.ok.su⟩
  | ife F a b =>
    obtain ⟨t,u,u1,u2,rfl,ht,hF,hX,hY⟩:=(by simpa only [dZ] using hd)
    have tt:=SqT.of (K:=K) (g.sm _ _ ht)
    simp only [shD] at p
    refine aO ⟨_,rfl,t,_,_,_,rfl,rfl,tt,rfl,rfl,_,rfl,nx (by decide +kernel) (cS ?_)⟩
    dsimp only
    refine aO ⟨_,rfl,t,_,_,_,rfl,rfl,tt,rfl,rfl,_,rfl,nx (by decide +kernel) (cS ?_)⟩
    dsimp only
    refine aO ⟨_,rfl,t,_,_,_,rfl,rfl,tt,rfl,rfl,_,rfl,nx (by decide +kernel) (cS ?_)⟩
    dsimp only
    refine aO (cN ?_)
    refine ⟨_,rfl,t,_,_,_,rfl,rfl,tt,rfl,?_⟩
    refine aZ ?_
    dsimp only
    refine aO ⟨_,rfl,t,_,_,_,rfl,rfl,tt,rfl,rfl,_,rfl,yx ?_⟩
    refine cN ?_
    refine ⟨_,rfl,t,_,_,_,rfl,rfl,tt,rfl,?_⟩
    refine aZ ?_
    dsimp only
    refine aO (cN ?_)
    refine ⟨_,rfl,_,rfl,_,rfl,kh,_,_,_,rfl,rfl,SqT.of kk1,rfl,_,rfl,u,F,bs,qs,L.l,L.bd,L.qd,gl,_,_,gX h w,rfl,g.hl,hF.1.same g.sm,hF.2,g.holds hg,g.asks,fun G1 s1=>?_⟩
    refine aZ ?_
    dsimp only
    have g0:=g.same s1
    have tt:=SqT.of (K:=K) (g0.sm _ _ ht)
    have hdl1:=g0.sm _ _ hdl
    cases ee:ev (gX h w) F with
    | nought =>
      rw [ee] at p
      exact aO ⟨_,rfl,_,"str",_,true,rfl,.str _,iI,_,rfl,eC ⟨_,rfl,p _ g0.sm⟩⟩
    | great =>
      rw [ee] at p
      exact aO ⟨_,rfl,_,"str",_,true,rfl,.str _,iI,_,rfl,eC ⟨_,rfl,p _ g0.sm⟩⟩
    | ok n =>
    rw [ee] at p
    dsimp only at p
    have wn:Wo n:=j1 g.asks (hF.1.same g.sm) ee
    refine aO ⟨_,rfl,_,"str",_,false,rfl,.int n,kit_is,_,rfl,dY (cS ?_)⟩
    dsimp only
    refine aO ⟨_,rfl,t,_,_,_,rfl,rfl,tt,rfl,rfl,_,rfl,yx ?_⟩
    obtain ⟨lb,vb,hlb,lvb,hDb,hat⟩:∃ (lb:ae) (vb:List V),H0 lb=some (.lst vb)/\vb.length < 1000/\eA bs qs H0 (if n=0 then b else a) vb/\atI [V.str "if",u,u1,u2] (2 + (if decide (V.int n=V.int 0)=true then 1 else 0))=some (.ref lb):=by
      by_cases c:n=0
      · obtain ⟨l,vs,e,h1,h2,h3⟩:=hY
        rw [if_pos c,decide_eq_true (by rw [c]),if_pos rfl]
        exact ⟨l,vs,h1,h2,h3,by rw [<- e]; rfl⟩
      · obtain ⟨l,vs,e,h1,h2,h3⟩:=hX
        rw [if_neg c,decide_eq_false (fun z=>c (jU z)),if_neg (by decide)]
        exact ⟨l,vs,h1,h2,h3,by rw [<- e]; rfl⟩
    refine aO ?_
    refine ⟨_,rfl,_,rfl,rfl,.inr ⟨_,rfl,_,_,rfl,rfl,t,_,_,_,rfl,rfl,tt,hat,_,rfl,_,rfl,rfl,lb,vb,rfl,SqL.of (g0.sm _ _ hlb),fun pr hpr=>?_⟩⟩
    have sp:=aM hpr (.lst vb.reverse)
    refine ⟨pr,rfl,⟨_,SqL.of ao⟩,fY (K:=K) (a:=pr) (xs:=vb.reverse) (fun i σ G=>∃ u9 u10 u11:Option V,σ=[some (.ref t),some (.ref L.l),some (.ref kh),some (.int h.to),some (.ref gl),some (.ref dl),some (.ref L.tl),some (.ref L.nl),some (.ref L.wl),u9,u10,u11]/\Rg bs qs H0 G L h w tc (ws++vb.reverse.take i)/\G pr=some (.lst vb.reverse))
      ⟨_,_,_,rfl,by rw [eK,dj]; exact g0.same sp,ao⟩ ?_ ?_ ?_⟩
    · rintro i σ G _ ⟨_,_,_,rfl,_,h2⟩
      exact SqL.of h2
    · rintro i x σ G hi ⟨u9,u10,u11,rfl,g1,h2⟩
      have li:=(aL.mp hi).1
      rw [iM] at li
      have ll:(ws++vb.reverse.take i).length < aE:=by
        rw [ay,cT]
        omega
      refine ⟨_,rfl,.inl ⟨rfl,_,SqL.of g1.hw⟩,_,rfl,L.wl,_,_,rfl,rfl,g1.hw,ll,?_⟩
      have npr:pr≠L.wl:=fun z=>by
        have y:=g0.hw
        rw [<- z,hpr] at y
        cases y
      refine ⟨_,_,_,rfl,?_,aR h2 npr⟩
      rw [ff,hi,<- pP]
      exact g1.work _
    · rintro σ G ⟨u9,u10,u11,rfl,g1,_⟩
      rw [cM] at g1
      exact p G vb hDb ⟨tc,by omega,g1.pure (w.rk++[F]) g.ok.nu g.ok.su⟩
end
end My
namespace My
open PySem L2
structure Rec where
  h:Ev
  wb:List (Str×Int)
  wq:List (Str×List Int)
  out:List Ev
abbrev EN (h:Ev):HO:=.tup [.int h.t,.int h.r,.int h.fr,.int h.c]
def RcIn (F:Hp) (v:V) (q:Rec):Prop:=∃ (rc k wl od:ae) (ws1 ws2 vs:List V) (qa:List (Str×ae)),v=.ref rc/\F rc=some (.tup [.ref k,.int q.h.to,.str q.h.sg,.int q.h.a,.int q.h.b,.ref wl,.ref od])/\F k=some (EN q.h) /\
  F wl=some (.lst (ws1++ws2))/\bJ (pX F) ws1 q.wb/\bJ (rR F) ws2 qa/\eu F qa q.wq/\F od=some (.lst vs)/\bJ (kD F) vs q.out
theorem RcIn.same {F F':Hp} (s:cF F F') {v:V} {q:Rec} (h:RcIn F v q):RcIn F' v q:=by
  obtain ⟨rc,k,wl,od,ws1,ws2,vs,qa,e,h1,h2,h3,h4,h5,h6,h7,h8⟩:=h
  exact ⟨rc,k,wl,od,ws1,ws2,vs,qa,e,s _ _ h1,s _ _ h2,s _ _ h3,Paired.mono (fun _ _ z=>z.keep fun a xs e=>s _ _ e) h4,Paired.mono (fun _ _ z=>z.keep fun a xs e=>s _ _ e) h5,h6.same s,s _ _ h7,Paired.mono (fun _ _ z=>z.same s) h8⟩
theorem xZ {H:Hp} {n:Nat} {p q:ae} {xs:List V} (hp:H p=some (.tup xs)) (hq:H q=some (.tup xs)) (sc:∀ x∈xs,sc0 x):TEq H (n + 1) (.ref p) (.ref q):=
  .inr (.inr ⟨p,q,xs,xs,rfl,rfl,hp,hq,by
    clear hp hq
    induction xs with
    | nil=>exact .nil
    | cons x xs ih =>
      refine .cons ?_ (ih fun y hy=>sc y (aa _ hy))
      cases n with
      | zero=>exact ⟨sc x aA,rfl⟩
      | succ n=>exact .inl ⟨sc x aA,rfl⟩⟩)
theorem vn {H:Hp} {n:Nat} {α:Type} {R S:V->α->Prop} (f:∀ x y a,R x a->S y a->TEq H n x y):∀ {xs ys:List V} {as:List α},bJ R xs as->bJ S ys as->bJ (TEq H n) xs ys:=by
  intro xs ys as p
  induction p generalizing ys with
  | nil =>
    intro q
    cases q
    exact .nil
  | cons a b ih =>
    intro q
    cases q with
    | cons c d=>exact .cons (f _ _ _ a c) (ih d)
theorem Ce {H:Hp} {n:Nat} {xs ys xs' ys':List V} (a:bJ (TEq H n) xs ys) (b:bJ (TEq H n) xs' ys'):bJ (TEq H n) (xs++xs') (ys++ys'):=by
  induction a with
  | nil=>exact b
  | cons h _ ih=>exact .cons h ih
theorem la {H:Hp} {n:Nat} {x:V} (h:sc0 x):TEq H n x x:=by
  cases n with
  | zero=>exact ⟨h,rfl⟩
  | succ n=>exact .inl ⟨h,rfl⟩
theorem x5 {H:Hp} {n:Nat} {a b:ae} {h:Ev} (ha:H a=some (EN h)) (hb:H b=some (EN h)):TEq H (n + 1) (.ref a) (.ref b):=
  xZ ha hb fun x hx=>by
    simp only [az,bY,or_false] at hx
    rcases hx with rfl | rfl | rfl | rfl <;> trivial
theorem EO {H:Hp} {n:Nat} {v v':V} {e:Ev} (h:kD H v e) (h':kD H v' e):TEq H (n + 2) v v':=by
  obtain ⟨t,k,rfl,h1,h2⟩:=h
  obtain ⟨t',k',rfl,h1',h2'⟩:=h'
  exact .inr (.inr ⟨t,t',_,_,rfl,rfl,h1,h1',.cons (x5 h2 h2') (.cons (la trivial) (.cons (la trivial) (.cons (la trivial) (.cons (la trivial) .nil))))⟩)
theorem vo {H:Hp} {n:Nat} {a b:ae} {ns:List Int} (ha:H a=some (.lst (ns.map V.int))) (hb:H b=some (.lst (ns.map V.int))):TEq H (n + 1) (.ref a) (.ref b):=
  .inr (.inl ⟨a,b,_,_,rfl,rfl,ha,hb,by
    clear ha hb
    induction ns with
    | nil=>exact .nil
    | cons x xs ih=>exact .cons (la trivial) ih⟩)
theorem AO {H:Hp} {n:Nat}:∀ {qs:List (Str×List Int)} {qa qa':List (Str×ae)} {ws ws':List V},eu H qa qs->eu H qa' qs->bJ (rR H) ws qa->bJ (rR H) ws' qa'->bJ (TEq H (n + 2)) ws ws'
  | [],qa,qa',ws,ws',e,g,a,c=>by
    cases e
    cases g
    cases a
    cases c
    exact .nil
  | q :: qs,qa,qa',ws,ws',e,g,a,c=>by
    cases e with
    | cons e f =>
    cases g with
    | cons g h =>
    cases a with
    | cons a b =>
    cases c with
    | cons c d =>
    obtain ⟨t,rfl,h1⟩:=a
    obtain ⟨t',rfl,h1'⟩:=c
    obtain ⟨e1,e2⟩:=e
    obtain ⟨g1,g2⟩:=g
    rw [e1] at h1
    rw [g1] at h1'
    exact .cons (.inr (.inr ⟨t,t',_,_,rfl,rfl,h1,h1',.cons (la trivial) (.cons (vo e2 g2) .nil)⟩)) (AO f h b d)
theorem Cf {H:Hp} {n:Nat} {v v':V} {q:Rec} (h:RcIn H v q) (h':RcIn H v' q):TEq H (n + 4) v v':=by
  obtain ⟨rc,k,wl,od,ws1,ws2,vs,qa,rfl,h1,h2,h3,h4,h5,h6,h7,h8⟩:=h
  obtain ⟨rc',k',wl',od',ws1',ws2',vs',qa',rfl,h1',h2',h3',h4',h5',h6',h7',h8'⟩:=h'
  have w1:bJ (TEq H (n + 2)) ws1 ws1':=vn (R:=pX H) (S:=pX H) (fun x y a hx hy=>by
    obtain ⟨t,rfl,z⟩:=hx
    obtain ⟨t',rfl,z'⟩:=hy
    exact xZ z z' fun x hx=>by
      simp only [az,bY,or_false] at hx
      rcases hx with rfl | rfl <;> trivial) h4 h4'
  have w2:bJ (TEq H (n + 2)) ws2 ws2':=AO h6 h6' h5 h5'
  refine .inr (.inr ⟨rc,rc',_,_,rfl,rfl,h1,h1',.cons (x5 h2 h2') (.cons (la trivial) (.cons (la trivial) (.cons (la trivial) (.cons (la trivial) (.cons ?_ (.cons ?_ .nil))))))⟩)
  · exact .inr (.inl ⟨wl,wl',_,_,rfl,rfl,h3,h3',Ce w1 w2⟩)
  · exact .inr (.inl ⟨od,od',_,_,rfl,rfl,h7,h7',vn (R:=kD H) (S:=kD H) (fun x y a hx hy=>EO hx hy) h8 h8'⟩)
end My
namespace My
open PySem L2
theorem oK {α:Type}:∀ {ps:List (Str×α)} {i:Nat} {p:Str×α},(ps.map (·.1)).Nodup->ps[i]?=some p->ps.lookup p.1=some p.2
  | [],i,p,_,h=>by simp at h
  | (a,b) :: ps,0,p,_,h=>by
    simp at h
    subst h
    exact bQ
  | (a,b) :: ps,i + 1,p,nd,h=>by
    have h:ps[i]?=some p:=by simpa using h
    obtain ⟨n1,n2⟩:=cI.mp nd
    have ne:(p.1 == a)=false:=beq_eq_false_iff_ne.mpr fun e=>n1 (by rw [<- e]; exact cG.mpr ⟨p,cy h,rfl⟩)
    rw [cL,ne]
    exact oK n2 h
structure CpNew (H G:Hp) (l:ae) (bx:List (Str×Int)) (qu:List (Str×List Int)) (dr:Nat) (se:Int) (bd qd:ae) (qa:List (Str×ae)):Prop where
  sm:cF H G
  hl:G l=some (.lst [.ref bd,.ref qd,.int dr,.int se])
  hb:G bd=some (.dK (boK bx))
  hq:G qd=some (.dK (quK qa))
  hqs:eu G qa qu
  nd:(l :: bd :: qd :: qa.map (·.2)).Nodup
  fr:∀ a∈l :: bd :: qd :: qa.map (·.2),H a=none
def lu (H:Hp) (sl:ae) (bx:List (Str×Int)) (qu:List (Str×List Int)) (dr:Nat) (se:Int):Prop:=
  ∃ bd qd qa,H sl=some (.lst [.ref bd,.ref qd,.int dr,.int se])/\H bd=some (.dK (boK bx))/\H qd=some (.dK (quK qa))/\eu H qa qu
theorem lu.same {H H':Hp} (s:cF H H') {sl:ae} {bx:List (Str×Int)} {qu:List (Str×List Int)} {dr:Nat} {se:Int} (h:lu H sl bx qu dr se):lu H' sl bx qu dr se:=by
  obtain ⟨bd,qd,qa,h1,h2,h3,h4⟩:=h
  exact ⟨bd,qd,qa,s _ _ h1,s _ _ h2,s _ _ h3,h4.same s⟩
def spCp:Sp:=fun vs H Q _=>∃ (sl:ae) (bx:List (Str×Int)) (qu:List (Str×List Int)) (dr:Nat) (se:Int),vs=[.ref sl]/\lu H sl bx qu dr se/\(qu.map (·.1)).Nodup/\qu.length < 100 /\
  ∀ (G:Hp) (l bd qd:ae) (qa:List (Str×ae)),CpNew H G l bx qu dr se bd qd qa->Q (.ref l) G
section
variable {P:aX} {w:cz} {K:aj} {mg:Str->Option af} {base:cR} {f:ae} {fd:cH}
seal L2.PS L2.PSs L2.PE L2.PA L2.PT L2.PW L2.PI L2.PG L2.PGs L2.PC
theorem ER:cD ["_law_state","_law_queues","_law_name"] ["_law_state"] (aB jC):=⟨rfl,rfl,rfl,by decide +kernel,rfl,by decide +kernel,by decide +kernel⟩
theorem ok_cp (D:Df K mg "_law_copy" jC ["_law_state"] f fd) (B:Bl mg):bZ P w K mg base CX0 1 f fd ["_law_state"] spCp:=by
  refine D.F.ok ER (fun vs H Q E h=>?_) (fun cdv A outer s H vs Q E hr h=>?_)
  · obtain ⟨sl,bx,qu,dr,se,rfl,_⟩:=h
    rfl
  obtain ⟨sl,bx,qu,dr,se,rfl,⟨bd,qd,qa,hsl,hb,hq,hl⟩,ndq,lq,k⟩:=h
  have hu:=jZ hr
  refine ⟨_,ah (bF (i:=1) ER.nd rfl (Or.inl rfl) jn)
    (ah (qf (fq cj rfl (tU (aP bT (pv 0) ag (fun _ _=>rfl))) (cP (i:=2) ER.nd rfl (Or.inl rfl)) (au (gu hu (pv 1) (pv 2) (hV jl (by rfl) B.list boot_list (ig (gs hu (aP bT (pv 0) ag (fun _ _=>rfl)) (pv 2) (fun _ _=>rfl)) ak)) rfl))))
    (au (bD (el (iU (qG iX lN uc uX (aP bT (pv 0) ag (fun _ _=>rfl))) (aT (pv 1) (ig (aP bT (pv 0) ag (fun _ _=>rfl)) (ig (aP bT (pv 0) ag (fun _ _=>rfl)) ak)))))))),?_⟩
  refine aO (cN ?_)
  intro d hd
  refine aZ ?_
  dsimp only
  have s1:cF H (upd H d (.dK [])):=aM hd _
  have nf:∀ (ob:Obj) (u:HO),H qd≠some (.frz ob u):=fun ob u z=>by
    rw [hq] at z
    cases z
  have ndd:d≠qd:=(aJ hq hd).symm
  have nsq:sl≠qd:=gJ hsl hq (by intro z; cases z)
  have nlq:(qa.map (·.1)).Nodup:=by
    rw [hl.nm]
    exact ndq
  refine aO ?_
  refine ⟨_,rfl,sl,_,_,_,rfl,rfl,SqL.of (s1 _ _ hsl),rfl,qd,_,rfl,s1 _ _ hq,nf,fun od=>?_⟩
  refine qS (d:=qd) (od:=od) (kvs:=quK qa) (fun i σ G=>∃ (v2:Option V) (qa':List (Str×ae)),σ=[some (.ref sl),some (.ref d),v2]/\G qd=some (.frz od (.dK (quK qa)))/\(∀ b o,H b=some o->b≠qd->G b=some o)/\G d=some (.dK (quK qa')) /\
    eu G qa' (qu.take i)/\(qa'.map (·.2)).Nodup/\∀ a∈qa'.map (·.2),H a=none/\a≠d) ⟨none,[],rfl,ao,fun b o e n=>?_,?_,?_,nU,fun a h=>by cases h⟩ ?_ ?_ ?_
  · rw [aY n]
    exact s1 _ _ e
  · rw [aY ndd]
    exact ao
  · rw [eK]
    exact .nil
  · rintro i σ G _ ⟨_,_,_,h1,_⟩
    exact h1
  · rintro i kv σ G hi ⟨v2,qa',rfl,g1,g2,g3,g4,g5,g6⟩
    obtain ⟨p,hp,rfl⟩:∃ p,qa[i]?=some p/\kv=((Sum.inr p.1:Key),V.ref p.2):=by
      unfold quK at hi
      rw [dk] at hi
      cases z:qa[i]? with
      | none =>
        rw [z] at hi
        cases hi
      | some p =>
        rw [z] at hi
        cases hi
        exact ⟨p,rfl,rfl⟩
    obtain ⟨q,hq1,hq2,hq3⟩:=hl.nth hp
    have npq:p.2≠qd:=gJ hq3 hq (by intro z; cases z)
    have lkp:qa.lookup p.1=some p.2:=oK nlq hp
    have dg:kd G qd (.str p.1) (some (.ref p.2)):=.inl ⟨quK qa,Sum.inr p.1,.inr ⟨od,g1⟩,rfl,(oa lkp).symm⟩
    refine aZ ?_
    dsimp only
    refine ⟨_,rfl,sl,_,_,_,rfl,rfl,SqL.of (g2 _ _ hsl nsq),rfl,_,rfl,qd,_,rfl,dg,p.2,_,rfl,.inl (SqL.of (g2 _ _ hq3 npq)),fun l hl'=>?_⟩
    have sl_:=aM hl' (.lst (q.2.map V.int))
    have gd2:=sl_ _ _ g3
    have lti:i < qu.length:=(aL.mp hq1).1
    have tk:(qu.take (i + 1))=qu.take i++[q]:=by
      rw [ff,hq1]
      rfl
    have nin:p.1∉qa'.map (·.1):=by
      rw [g4.nm,hq2]
      intro z
      have nd2:((qu.take (i + 1)).map (·.1)).Nodup:=by
        rw [oG]
        exact ndq.sublist (gG _ _)
      rw [tk,aV] at nd2
      exact (ez.mp nd2).2.2 _ z q.1 (by simp) rfl
    have len':(quK qa').length < aE:=by
      have z:=g4.len
      rw [cT] at z
      rw [kQ]
      have:=eM
      omega
    have dp:=kY.k (k:=Sum.inr p.1) (v:=.ref l) gd2 len'
    rw [oF nin] at dp
    refine ⟨_,rfl,_,rfl,d,_,rfl,dp,?_⟩
    have nlG:G l=none:=hl'
    have nl0:H l=none:=by
      cases z:H l with
      | none=>rfl
      | some o =>
        by_cases c:l=qd
        · rw [c,g1] at nlG
          cases nlG
        · rw [g2 _ _ z c] at nlG
          cases nlG
    have nld:l≠d:=fun z=>by rw [z,g3] at nlG; cases nlG
    refine ⟨_,qa'++[(p.1,l)],rfl,?_,fun b o e n=>?_,ao,?_,?_,fun a ha=>?_⟩
    · rw [aY ndd.symm]
      exact sl_ _ _ g1
    · rw [aY (aJ e hd)]
      exact sl_ _ _ (g2 _ _ e n)
    · rw [tk]
      have old:eu (upd (upd G l (.lst (q.2.map V.int))) d (.dK (quK (qa'++[(p.1,l)])))) qa' (qu.take i):=
        eu.keep (L:=⟨0,0,0,0,0,0,0,0,0,0,.non,.non,qa'⟩) (fun a u e m=>aR (sl_ _ _ e) (g6 a m).2) (fun _ h=>h) g4
      exact dB old ⟨hq2,aR ao nld⟩
    · rw [aV]
      refine ez.mpr ⟨g5,by simp,fun a ha b hb=>?_⟩
      rw [aQ.mp hb]
      intro z
      obtain ⟨pp,hpp,e⟩:=cG.mp ha
      obtain ⟨j,hj⟩:=dh hpp
      obtain ⟨_,_,_,y⟩:=g4.nth hj
      rw [e,z,nlG] at y
      cases y
    · rw [aV] at ha
      rcases cE.mp ha with z | z
      · exact g6 a z
      · rw [aQ.mp z]
        exact ⟨nl0,nld⟩
  · rintro σ G ⟨v2,qa',rfl,g1,g2,g3,g4,g5,g6⟩
    rw [kQ,hl.len,cM] at g4
    refine ⟨qd,od,_,g1,nf,?_⟩
    have sH:cF H (upd G qd (.dK (quK qa))):=fun b o e=>by
      by_cases c:b=qd
      · rw [c,ao]
        rw [c,hq] at e
        exact e
      · rw [aY c]
        exact g2 _ _ e c
    have g3':upd G qd (.dK (quK qa)) d=some (.dK (quK qa')):=aR g3 ndd
    have g4':eu (upd G qd (.dK (quK qa))) qa' qu:=
      eu.keep (L:=⟨0,0,0,0,0,0,0,0,0,0,.non,.non,qa'⟩) (fun a u e m=>aR e (aJ hq (g6 a m).1).symm) (fun _ h=>h) g4
    generalize upd G qd (.dK (quK qa))=G2 at sH g3' g4'
    refine ⟨_,rfl,sl,_,_,_,rfl,rfl,SqL.of (sH _ _ hsl),rfl,.inr (.inr (.inl ⟨rfl,.inl ⟨_,sH _ _ hb⟩⟩)),bd,_,rfl,rfl,sH _ _ hb,fun e he=>?_⟩
    have s3:=aM he (.dK (boK bx))
    refine ⟨_,rfl,_,rfl,sl,_,_,_,rfl,rfl,SqL.of (s3 _ _ (sH _ _ hsl)),rfl,_,rfl,sl,_,_,_,rfl,rfl,SqL.of (s3 _ _ (sH _ _ hsl)),rfl,(by show 4<=aE; decide),fun l hl'=>?_⟩
    have s4:=aM hl' (.lst [.ref e,.ref d,.int dr,.int se])
    have he0:=none_of sH he
    have nl0:=none_of (sH.trans s3) hl'
    have hd3:=s3 _ _ g3'
    have he3:upd G2 e (.dK (boK bx)) e=_:=ao
    refine k _ l e d qa' ⟨(sH.trans s3).trans s4,ao,s4 _ _ he3,s4 _ _ hd3,(g4'.same s3).same s4,?_,?_⟩
    · have nl_e:l≠e:=(aJ he3 hl').symm
      have nl_d:l≠d:=(aJ hd3 hl').symm
      have ne_d:e≠d:=(aJ g3' he).symm
      have ql:∀ a∈qa'.map (·.2),∃ o,G2 a=some o:=fun a ha=>by
        obtain ⟨pp,hpp,e⟩:=cG.mp ha
        obtain ⟨j,hj⟩:=dh hpp
        obtain ⟨_,_,_,y⟩:=g4'.nth hj
        rw [<- e]
        exact ⟨_,y⟩
      refine cI.mpr ⟨fun z=>?_,cI.mpr ⟨fun z=>?_,cI.mpr ⟨fun z=>(g6 d z).2 rfl,g5⟩⟩⟩
      · rcases az.mp z with z | z
        · exact nl_e z
        · rcases az.mp z with z | z
          · exact nl_d z
          · obtain ⟨o,y⟩:=ql l z
            exact (aJ (s3 _ _ y) hl') rfl
      · rcases az.mp z with z | z
        · exact ne_d z
        · obtain ⟨o,y⟩:=ql e z
          exact (aJ y he) rfl
    · intro a ha
      rcases az.mp ha with z | z
      · rw [z]
        exact nl0
      · rcases az.mp z with z | z
        · rw [z]
          exact he0
        · rcases az.mp z with z | z
          · rw [z]
            exact hd
          · exact (g6 a z).1
end
end My
namespace My
open PySem L2
theorem AQ {X:Cx} (K:aj) (hK:X.K=K):OpR X (fX .In) (rIn K false):=by
  rw [<- hK]
  exact sE
theorem pF (xs:List Str):(xs.map V.str).all oA=true:=by
  induction xs with
  | nil=>rfl
  | cons x xs ih =>
    rw [dN,uv,ih]
    rfl
theorem Cg (x:Str) (xs:List Str):inV (.str x) (xs.map V.str)=decide (x∈xs):=by
  unfold inV
  induction xs with
  | nil=>rfl
  | cons y xs ih =>
    rw [dN,jT,ih]
    have e:eqV (.str y) (.str x)=decide (x=y):=by
      by_cases c:x=y
      · subst c
        rw [decide_eq_true rfl]
        simp [eqV]
      · rw [decide_eq_false c]
        simp [eqV]
        exact fun z=>c z.symm
    rw [e]
    by_cases c:x=y
    · subst c
      simp
    · simp [c]
theorem pQ {α β:Type} {R:α->β->Prop}:∀ {xs:List α} {ys:List β} {y:β},bJ R xs (ys++[y])->∃ xs0 x,xs=xs0++[x]/\bJ R xs0 ys/\R x y
  | _,[],_,.cons a b=>by
    cases b
    exact ⟨[],_,rfl,.nil,a⟩
  | _,_ :: ys,_,.cons a b=>by
    obtain ⟨xs0,x,e,h1,h2⟩:=pQ (ys:=ys) b
    exact ⟨_ :: xs0,x,by rw [e]; rfl,.cons a h1,h2⟩
theorem rj {α β:Type} {R:α->β->Prop} {xs xs':List α} {ys ys':List β} (a:bJ R xs ys) (b:bJ R xs' ys'):bJ R (xs++xs') (ys++ys'):=by
  induction a with
  | nil=>exact b
  | cons h _ ih=>exact .cons h ih
theorem rm {α β:Type} {R:α->β->Prop} {xs:List α} {ys:List β} (a:bJ R xs ys):bJ R xs.reverse ys.reverse:=by
  induction a with
  | nil=>exact .nil
  | cons h _ ih =>
    rw [jr,jr]
    exact rj ih (.cons h .nil)
theorem eA.pair {bs qs:List Str} {H:Hp}:∀ (D:Ds) (vs:List V),eA bs qs H D vs->bJ (fun v d=>dZ bs qs H d v) vs D.toL
  | .nil,vs,h=>by
    simp only [eA] at h
    subst h
    exact .nil
  | .cons d r,vs,h=>by
    simp only [eA] at h
    obtain ⟨v,vr,rfl,h1,h2⟩:=h
    exact .cons h1 (eA.pair r vr h2)
theorem Dd.size_pos (d:Dd):1<=d.size:=by
  cases d <;> simp only [Dd.size] <;> omega
theorem x6:∀ S:List Dd,S.length<=szL S
  | []=>aS _
  | d :: S=>by
    have a:=x6 S
    have b:=d.size_pos
    show S.length + 1<=(d.size :: (S.map Dd.size)).sum
    rw [ux]
    show S.length + 1<=d.size + szL S
    omega
theorem AR (d:Dd) (S:List Dd):szL (d :: S)=d.size + szL S:=by
  show (d.size :: (S.map Dd.size)).sum=_
  rw [ux]
  rfl
theorem ES {h:Ev} {ds:List Int} {d:Dd} {w:Wk} {p:Wk×Ds} (e:shD h ds d w=.ok p):p.1.out.length<=w.out.length + 1:=by
  cases d with
  | pull q x o =>
    simp only [shD] at e
    split at e <;> cases e <;> exact lI _
  | ife f t e' =>
    simp only [shD] at e
    split at e <;> cases e
    exact lI _
  | put x f=>simp only [shD,doD,rck,vc] at e; (repeat' split at e) <;> cases e <;> simp_all <;> (repeat' split at *) <;> simp_all <;> subst_vars <;> simp
  | push q f=>simp only [shD,doD,rck] at e; (repeat' split at e) <;> cases e <;> simp_all <;> (repeat' split at *) <;> simp_all <;> subst_vars <;> simp
  | draw x f=>simp only [shD,doD,rck,vc] at e; (repeat' split at e) <;> cases e <;> simp_all <;> (repeat' split at *) <;> simp_all <;> subst_vars <;> simp
  | send to sg sp rk a b=>simp only [shD,doD,rck,CW] at e; (repeat' split at e) <;> cases e <;> simp_all <;> (repeat' split at *) <;> simp_all <;> subst_vars <;> simp
  | fin=>simp only [shD,doD] at e; (repeat' split at e) <;> cases e <;> simp_all <;> subst_vars <;> simp
section
variable {P:aX} {w:cz} {K:aj} {mg:Str->Option af} {base:cR} {f fO fC:ae} {fd fdO fdC:cH} {bs qs:List Str}
seal L2.PS L2.PSs L2.PE L2.PA L2.PT L2.PW L2.PI L2.PG L2.PGs L2.PC
abbrev pLd:List Str:=["_law_machines","_law_state","_law_happening"]
abbrev nLd:List Str:=pLd++(["_law_key","_law_at","_law_sign","_law_one","_law_other","_law_machine_here","_law_work","_law_heard","_law_deeds_here","_law_touched","_law_news","_law_deed_here","_law_fault","_law_writes"]:List Str)
theorem mj:cD nLd pLd (aB ir):=⟨rfl,rfl,rfl,by decide +kernel,rfl,by decide +kernel,by decide +kernel⟩
theorem ndLd:((["_law_name","_law_worth"]:List Str)++nLd).Nodup:=by decide +kernel
theorem ndLe:((["_law_name"]:List Str)++nLd).Nodup:=by decide +kernel
structure LdOk (bs qs:List Str) (H G:Hp) (h:Ev) (w:Wk) (t l rc:ae):Prop where
  sm:cF H G
  ht:G t=some (.tup [.ref l,.ref rc,.bl w.en])
  hl:lu G l w.bx w.qu w.dr w.se
  hrc:RcIn G (.ref rc) ⟨h,wrB bs w,wrQ qs w,w.out⟩
def spLd (bs qs:List Str):Sp:=fun vs H Q _=>∃ (ml sl:ae) (ms:List V) (hv mv:V) (h:Ev) (ds:List Int) (hs:List (Str×Ds)) (bx:List (Str×Int)) (qu:List (Str×List Int)) (dr:Nat) (se:Int),vs=[.ref ml,.ref sl,hv]/\H ml=some (.lst ms) /\
  kD H hv h/\atI ms h.to=some mv/\og bs qs ds hs H mv/\lu H sl bx qu dr se/\nJ bs qs (w0 bx qu dr se)/\Wo h.t/\Wo h.a/\Wo h.b/\ds.length<=1000/\(hs.map (·.1)).Nodup/\(iT hs h.sg).size < 10000/\("the end":Str)∉bs++qs /\
  match doS h ds (iT hs h.sg) (w0 bx qu dr se) with
  | .ok w'=>∀ (G:Hp) (t l rc:ae),LdOk bs qs H G h w' t l rc->Q (.ref t) G
  | .error e=>∀ G,cF H G->Q (.str (kS e)) G
theorem ok_ld (D:Df K mg "_law_done" ir pLd f fd) (DO:Df K mg "_law_one_deed" gO pOd fO fdO) (GO:bZ P w K mg base CX0 18 fO fdO pOd (spOd bs qs)) (DC:Df K mg "_law_copy" jC ["_law_state"] fC fdC) (B:Bl mg):bZ P w K mg base CX0 19 f fd pLd (spLd bs qs):=by
  have GC:bZ P w K mg base CX0 1 fC fdC ["_law_state"] spCp:=ok_cp DC B
  refine D.F.ok mj (fun vs H Q E h=>?_) (fun cdv A outer s H vs Q E hr h=>?_)
  · obtain ⟨ml,sl,ms,hv,mv,h,ds,hs,bx,qu,dr,se,rfl,_⟩:=h
    rfl
  obtain ⟨ml,sl,ms,hv,mv,h,ds,hs,bx,qu,dr,se,rfl,hml,hE,hmv,hM,hS,ok,wt,wa,wb,ld,ndh,szd,nte,p⟩:=h
  have hu:=jZ hr
  have r1:eN 1 _:=hr.mono (by omega)
  refine ⟨_,ah (oU (pv 2) (nV rfl (eX (cP (i:=3) mj.nd rfl (Or.inl rfl)) (eX (cP (i:=4) mj.nd rfl (Or.inl rfl)) (eX (cP (i:=5) mj.nd rfl (Or.inl rfl)) (eX (cP (i:=6) mj.nd rfl (Or.inl rfl)) (eX (cP (i:=7) mj.nd rfl (Or.inl rfl)) kI)))))))
    (ah (bF (i:=8) mj.nd rfl (Or.inl rfl) (aP bT (pv 0) (pv 4) (fun _ _=>rfl)))
    (ah (bF (i:=1) mj.nd rfl (by first | exact Or.inl rfl | exact Or.inr rfl) (aN GC r1 (by rfl) DC.m DC.F.kp DC.b .nil bR (aT (pv 1) ak)))
    (ah (bF (i:=9) mj.nd rfl (Or.inl rfl) (el ak))
    (ah (fq cj rfl (fj (aP bC (pv 8) ag (fun _ _=>rfl))) (nV rfl (eX (cP (i:=10) mj.nd rfl (Or.inl rfl)) (eX (cP (i:=11) mj.nd rfl (Or.inl rfl)) kI))) (au (cK (bE di (pv 10) (pv 5) (bM _)) (au (bF (i:=9) mj.nd rfl (Or.inl rfl) (wC (pv 11) (j3 (uB qx ag))))) bH)))
    (ah (bF (i:=12) mj.nd rfl (by first | exact Or.inl rfl | exact Or.inr rfl) (el ak))
    (ah (bF (i:=13) mj.nd rfl (by first | exact Or.inl rfl | exact Or.inr rfl) (el ak))
    (ah (zm cj (bE kK (cu (dS K (by rfl)) (by rfl) B.len cw (aT (pv 9) ak)) ag (bM _)) (ah (bF (i:=14) mj.nd rfl (Or.inl rfl) (qG aW mh mi DI (pv 9)))
    (ah (bF (i:=15) mj.nd rfl (Or.inl rfl) (aN GO hr (by rfl) DO.m DO.F.kp DO.b .nil bR (aT (pv 14) (aT (pv 1) (aT (pv 3) (aT (pv 4) (wU (el (aT (pv 6) (aT (pv 7) ak))) (ig (aP bC (pv 8) ag (fun _ _=>rfl)) (aT (pv 12) (aT (pv 13) (aT (pv 9) ak)))))))))))
    (au (cK (bE zr (pv 15) bN (bM _)) (au (bD (pv 15))) bH)))))
    (ah (xr (i:=16) ["_law_name","_law_worth"] (iP.open (NN:=nLd) (N:=nLd) (sc:=aB ir) rfl rfl (by decide +kernel) rfl (by decide +kernel) (by decide +kernel) rfl (by decide +kernel)) rfl mj.nd rfl (Or.inl rfl) (fj (aP bC (pv 8) ag (fun _ _=>rfl))) (fun _ _ _ _=>xR (n:=2) K (by rfl) rfl (eX (cP (i:=0) ndLd rfl (Or.inl rfl)) (eX (cP (i:=1) ndLd rfl (Or.inl rfl)) kI))) (fun _ _ _ _=>xq (bE (AQ K (by rfl)) (pv 0) (pv 14) (by rfl))) (fun _ _ _ _=>eO (aT (pv 0) (ig (gs (by exact hu) (aP (vh K (by rfl)) (pv 3) ag (by intro _ _; rfl)) (pv 0) (by intro _ _; rfl)) ak))))
    (ah (bF (i:=16) mj.nd rfl (by first | exact Or.inl rfl | exact Or.inr rfl) (cJ vZ (pv 16) (m8 ["_law_name"] (iP.open (NN:=nLd) (N:=nLd) (sc:=aB ir) rfl rfl (by decide +kernel) rfl (by decide +kernel) (by decide +kernel) rfl (by decide +kernel)) rfl (fj (aP bC (pv 8) ag (fun _ _=>rfl))) (fun _ _ _ _=>cP (i:=0) ndLe rfl (Or.inl rfl)) (fun _ _ _ _=>xq (bE (AQ K (by rfl)) (pv 0) (pv 13) (by rfl))) (fun _ _ _ _=>eO (aT (pv 0) (iU (hV (Aw K (by rfl)) (by rfl) B.list boot_list (ig (gs (by exact hu) (aP (vh K (by rfl)) (pv 2) ag (by intro _ _; rfl)) (pv 0) (by intro _ _; rfl)) ak)) ak))))))
    (au (bD (eO (aT (pv 1) (qZ (eO (aT (pv 3) (aT (pv 4) (aT (pv 5) (aT (pv 6) (aT (pv 7) (aT (pv 16) (aT (pv 13) ak)))))))) (aw (j2 sE bN (pv 12) (by rfl)) ak))))))))))))))),?_⟩
  have big:=eM
  obtain ⟨th,kh,rfl,hth,hkh⟩:=id hE
  obtain ⟨tm,bl,ql,dl,hl,nm,vb,hvs,rfl,htm,hbl,pb,hql,hdl,hhl,ph⟩:=hM.ex
  -- key, at, sign, one, other = happening
  refine aO (cN ?_)
  refine ⟨_,rfl,th,_,rfl,SqT.of hth,rfl,_,_,rfl,_,_,rfl,_,_,rfl,_,_,rfl,_,_,rfl,rfl,?_⟩
  dsimp only
  refine aO (cN ?_)
  refine ⟨_,rfl,_,rfl,ml,_,_,_,rfl,rfl,SqL.of hml,hmv,?_⟩
  refine aZ ?_
  dsimp only
  refine aO (cN ?_)
  refine ⟨_,rfl,sl,bx,qu,dr,se,rfl,hS,(by have z:=ok.nq; rw [<- ok.kq] at z; exact z),(by have z:=ok.fw; have e:=congrArg gF ok.kq; rw [ai] at e; rw [ay] at z; have e2:qu.length=qs.length:=e; omega),fun Gc l bd qd qa C=>?_⟩
  refine aZ ?_
  dsimp only
  refine aO (cN ?_)
  refine ⟨bV _,fun w1 hw1=>?_⟩
  refine aZ ?_
  dsimp only
  have s1:=aM hw1 (.lst [])
  refine aO ?_
  refine ⟨_,rfl,tm,_,_,_,rfl,rfl,SqT.of (s1 _ _ (C.sm _ _ htm)),rfl,hl,rfl,⟨_,SqL.of (s1 _ _ (C.sm _ _ hhl))⟩,?_⟩
  refine fY (K:=K) (a:=hl) (xs:=hvs) (fun i σ G=>∃ (u10 u11:Option V) (wl:ae) (vs:List V) (DD:Ds),σ=[some (.ref ml),some (.ref l),some (.ref th),some (.ref kh),some (.int h.to),some (.str h.sg),some (.int h.a),some (.int h.b),some (.ref tm),some (.ref wl),u10,u11,none,none,none,none,none] /\
      cF Gc G/\Gc wl=none/\G wl=some (.lst vs.reverse)/\vs.length < 1000/\eA bs qs H DD vs/\((DD=.nil/\∀ j q,j < i->hs[j]?=some q->q.1≠h.sg)\/∃ j q,j < i/\hs[j]?=some q/\q.1=h.sg/\DD=q.2))
    ⟨_,_,w1,[],.nil,rfl,s1,hw1,ao,(by show 0 < 1000; decide),(by simp only [eA]),.inl ⟨rfl,fun j q hj=>absurd hj (CJ _)⟩⟩ ?_ ?_ ?_
  · rintro i σ G _ ⟨_,_,wl,vs,DD,rfl,sG,_⟩
    exact SqL.of (sG _ _ (C.sm _ _ hhl))
  · rintro i x σ G hi ⟨u10,u11,wl,vs,DD,rfl,sG,nwl,hwl,lvs,hDD,inv⟩
    obtain ⟨q,hq,tq,uq,rfl,htq,lq,vq,rfl,hlq,lvq,hDq⟩:=jF ph hi
    have sHG:=C.sm.trans sG
    refine ⟨tq,_,rfl,SqT.of (sHG _ _ htq),rfl,_,_,rfl,_,_,rfl,rfl,?_⟩
    dsimp only
    refine ⟨_,rfl,_,rfl,rfl,_,rfl,gH (fun c=>?_) (fun c=>cS ?_)⟩
    · have c:q.1=h.sg:=jV (gc c)
      refine cN ?_
      refine ⟨_,rfl,_,rfl,_,rfl,rfl,lq,vq,rfl,SqL.of (sHG _ _ hlq),fun pr hpr=>?_⟩
      refine aZ ?_
      exact ⟨_,_,pr,vq,q.2,rfl,sG.trans (aM hpr _),none_of sG hpr,ao,lvq,hDq,.inr ⟨i,q,lZ _,hq,c,rfl⟩⟩
    · have c:q.1≠h.sg:=fun z=>hU c (by rw [z])
      refine ⟨_,_,wl,vs,DD,rfl,sG,nwl,hwl,lvs,hDD,inv.elim (fun z=>.inl ⟨z.1,fun j q' hj hq'=>?_⟩) fun ⟨j,q',z1,z2,z3,z4⟩=>.inr ⟨j,q',A1 z1,z2,z3,z4⟩⟩
      rcases Nat.lt_or_eq_of_le (Nat.le_of_lt_succ hj) with y | y
      · exact z.2 j q' y hq'
      · subst y
        rw [hq] at hq'
        cases hq'
        exact c
  rintro σ G1 ⟨u10,u11,wl,vs,DD,rfl,sG,nwl,hwl,lvs,hDD,inv⟩
  dsimp only
  have eD:iT hs h.sg=DD:=by
    unfold iT
    rcases inv with ⟨z1,z2⟩ | ⟨j,q,_,z2,z3,z4⟩
    · cases y:hs.lookup h.sg with
      | none=>rw [z1]; rfl
      | some a =>
        obtain ⟨j,hj⟩:=dh (jO y)
        have lj:=(aL.mp hj).1
        exact absurd rfl (z2 j _ (by rw [bL ph]; exact lj) hj)
    · rw [<- z3,oK ndh z2,z4]
      rfl
  rw [eD] at p szd
  refine aO (cN ?_)
  refine ⟨bV _,fun tl htl=>?_⟩
  refine aZ ?_
  dsimp only
  have s2:=aM htl (.lst [])
  refine aO (cN ?_)
  refine ⟨bV _,fun nl hnl=>?_⟩
  refine aZ ?_
  dsimp only
  have s3:=aM hnl (.lst [])
  have sGG:=sG.trans (s2.trans s3)
  have g0:Rg bs qs H (upd (upd G1 tl (.lst [])) nl (.lst [])) ⟨l,bd,qd,tl,nl,wl,qa⟩ h (w0 bx qu dr se) [] vs.reverse:=by
    have ntl:=none_of sG htl
    have nnl:=none_of (sG.trans s2) hnl
    have tlnl:tl≠nl:=aJ (ao:upd G1 tl (.lst []) tl=_) hnl
    have tlwl:tl≠wl:=(aJ hwl htl).symm
    have nlwl:nl≠wl:=(aJ (s2 _ _ hwl) hnl).symm
    have thr:∀ a∈l :: bd :: qd :: qa.map (·.2),∃ o,Gc a=some o:=fun a ha=>by
      rcases az.mp ha with z | ha
      · rw [z]; exact ⟨_,C.hl⟩
      rcases az.mp ha with z | ha
      · rw [z]; exact ⟨_,C.hb⟩
      rcases az.mp ha with z | ha
      · rw [z]; exact ⟨_,C.hq⟩
      obtain ⟨pp,hpp,e⟩:=cG.mp ha
      obtain ⟨j,hj⟩:=dh hpp
      obtain ⟨_,_,_,y⟩:=C.hqs.nth hj
      rw [<- e]
      exact ⟨_,y⟩
    have out:∀ {b:ae},Gc b=none->b∉l :: bd :: qd :: qa.map (·.2):=fun {b} n m=>by
      obtain ⟨o,z⟩:=thr b m
      rw [n] at z
      cases z
    have o1:=out ntl
    have o2:=out nnl
    have o3:=out nwl
    refine ⟨C.sm.trans sGG,sGG _ _ C.hl,sGG _ _ C.hb,sGG _ _ C.hq,C.hqs.same sGG,s3 _ _ ao,⟨[],ao,.nil⟩,s3 _ _ (s2 _ _ hwl),?_,?_,ok,wt,wa,wb,fun x _=>Iff.rfl,⟨fun z=>(by cases z),fun z=>(by cases z)⟩,nte⟩
    · have nd:=C.nd
      show (l :: bd :: qd :: tl :: nl :: wl :: qa.map (·.2)).Nodup
      simp only [cI,az,not_or] at nd o1 o2 o3 |-
      obtain ⟨⟨d1,d2,d3⟩,⟨d4,d5⟩,d6,d7⟩:=nd
      obtain ⟨a1,a2,a3,a4⟩:=o1
      obtain ⟨b1,b2,b3,b4⟩:=o2
      obtain ⟨c1,c2,c3,c4⟩:=o3
      exact ⟨⟨d1,d2,eS a1,eS b1,eS c1,d3⟩,⟨d4,eS a2,eS b2,eS c2,d5⟩,⟨eS a3,eS b3,eS c3,d6⟩,⟨tlnl,tlwl,a4⟩,⟨nlwl,b4⟩,c4,d7⟩
    · intro a ha
      change a∈l :: bd :: qd :: tl :: nl :: wl :: qa.map (·.2) at ha
      simp only [az] at ha
      have fr:=C.fr
      rcases ha with z | z | z | z | z | z | z
      · exact fr a (by rw [z]; exact aA)
      · exact fr a (by rw [z]; exact aa _ aA)
      · exact fr a (by rw [z]; exact aa _ (aa _ aA))
      · rw [z]; exact none_of C.sm ntl
      · rw [z]; exact none_of C.sm nnl
      · rw [z]; exact none_of C.sm nwl
      · exact fr a (aa _ (aa _ (aa _ z)))
  generalize upd (upd G1 tl (.lst [])) nl (.lst [])=G2 at g0
  generalize hL:(⟨l,bd,qd,tl,nl,wl,qa⟩:RL)=L at g0
  have e1:l=L.l:=by rw [<- hL]
  have e2:wl=L.wl:=by rw [<- hL]
  have e3:tl=L.tl:=by rw [<- hL]
  have e4:nl=L.nl:=by rw [<- hL]
  rw [e1,e2,e3,e4]
  clear e1 e2 e3 e4 hL
  have pS:=rm (eA.pair DD vs hDD)
  rw [AL] at p
  have szS:szL DD.toL < 10000:=by rw [ua]; exact szd
  generalize DD.toL=S0 at p szS pS
  generalize vs.reverse=wv at g0 pS
  clear inv eD hDD hwl nwl sG sGG s1 s2 s3 htl hnl hw1 lvs
  refine aO ?_
  refine ⟨fun m σ G=>∃ (S:List Dd) (wk:Wk) (tc:List Str) (ws:List V) (u14 u15:Option V),σ=[some (.ref ml),some (.ref L.l),some (.ref th),some (.ref kh),some (.int h.to),some (.str h.sg),some (.int h.a),some (.int h.b),some (.ref tm),some (.ref L.wl),u10,u11,some (.ref L.tl),some (.ref L.nl),u14,u15,none] /\
      Rg bs qs H G L h wk tc ws/\bJ (fun v d=>dZ bs qs H d v) ws S.reverse/\doL h ds S wk=doL h ds S0 (w0 bx qu dr se)/\m=szL S/\szL S < 10000/\wk.out.length + szL S < 20000/\tc.length + 2 * szL S < 40000,⟨_,S0,w0 bx qu dr se,[],wv,_,_,rfl,g0,pS,rfl,rfl,szS,(by show 0 + _ < _; omega),(by show 0 + _ < _; omega)⟩,?_⟩
  rintro m σ G ⟨S,wk,tc,ws,u14,u15,rfl,g,pw,eL,rfl,bS,bo,bt⟩
  refine oH (K:=K) rfl g.hw _ ?_
  have lw:ws.length=S.length:=by
    have z:=bL pw
    rw [iM] at z
    exact z
  cases S with
  | cons d r =>
    rw [decide_eq_true (show (0:Int) < ws.length by rw [lw]; show (0:Int) < ((r.length + 1:Nat):Int); omega)]
    refine eC ?_
    refine ⟨fun σ' G'=>∃ m',m' < szL (d :: r)/\∃ (S:List Dd) (wk:Wk) (tc:List Str) (ws:List V) (u14 u15:Option V),σ'=[some (.ref ml),some (.ref L.l),some (.ref th),some (.ref kh),some (.int h.to),some (.str h.sg),some (.int h.a),some (.int h.b),some (.ref tm),some (.ref L.wl),u10,u11,some (.ref L.tl),some (.ref L.nl),u14,u15,none] /\
      Rg bs qs H G' L h wk tc ws/\bJ (fun v d=>dZ bs qs H d v) ws S.reverse/\doL h ds S wk=doL h ds S0 (w0 bx qu dr se)/\m'=szL S/\szL S < 10000/\wk.out.length + szL S < 20000/\tc.length + 2 * szL S < 40000,fun _ _ z=>z,?_⟩
    rw [jr] at pw
    obtain ⟨ws0,v,rfl,pw0,hd⟩:=pQ pw
    have lst:(ws0++[v])[(ws0++[v]).length - 1]?=some v:=by
      rw [ay]
      show (ws0++[v])[ws0.length + 1 - 1]?=_
      rw [zK,e9 (aS _),Nat.sub_self]
      rfl
    refine aO (cN ?_)
    refine ⟨_,rfl,.inl ⟨rfl,_,SqL.of g.hw⟩,L.wl,_,v,rfl,rfl,g.hw,lst,?_⟩
    rw [List.dropLast_concat]
    have g1:=g.work ws0
    generalize upd G L.wl (.lst ws0)=Ga at g1
    refine aZ ?_
    dsimp only
    refine aO (cN ?_)
    refine ⟨_,rfl,_,rfl,_,rfl,_,rfl,_,rfl,_,rfl,lt2,fun gl hgl=>?_⟩
    have s4:=aM hgl (.lst [.int h.a,.int h.b])
    have g2:=g1.same s4
    have hgl2:upd Ga gl (.lst [.int h.a,.int h.b]) gl=some (.lst [.int h.a,.int h.b]):=ao
    generalize upd Ga gl (.lst [.int h.a,.int h.b])=Gb at g2 hgl2
    have szd:=AR d r
    have dpos:=d.size_pos
    have lr:=x6 r
    have lw0:ws0.length=r.length:=by
      have z:=bL pw0
      rw [iM] at z
      exact z
    refine ⟨_,rfl,tm,_,_,_,rfl,rfl,SqT.of (g2.sm _ _ htm),rfl,_,rfl,_,rfl,_,rfl,H,L,h,ds,wk,tc,ws0,v,kh,gl,dl,d,rfl,g2,hd,hkh,hgl2,hdl,ld,(by omega),(by omega),(by omega),?_⟩
    rw [AM] at eL
    cases es:shD h ds d wk with
    | error e =>
      rw [es] at eL
      change Except.error e=_ at eL
      rw [<- eL] at p
      intro G' sm'
      refine aZ ?_
      dsimp only
      refine ⟨_,rfl,rfl,_,rfl,?_⟩
      refine fz (b:=true) (by cases e <;> rfl) (eC ?_)
      exact ⟨_,rfl,p G' sm'⟩
    | ok q =>
      rw [es] at eL
      change doL h ds (q.2.toL++r) q.1=_ at eL
      rintro G' vs' hvs' ⟨tc',ltc',g3⟩
      have zs:=Cd es
      have zo:=ES es
      have zz:szL (q.2.toL++r)=q.2.size + szL r:=by rw [Cc,ua]
      refine aZ ?_
      dsimp only
      refine ⟨_,rfl,rfl,_,rfl,?_⟩
      refine fz (b:=false) rfl (dY (cS ?_))
      refine ⟨_,(by rw [zz]; omega),q.2.toL++r,q.1,tc',ws0++vs'.reverse,_,_,rfl,g3,?_,eL,rfl,(by omega),(by omega),(by omega)⟩
      rw [List.reverse_append]
      exact rj pw0 (rm (eA.pair _ _ hvs'))
  | nil =>
    have e:ws=[]:=List.eq_nil_of_length_eq_zero lw
    subst e
    refine dY ?_
    change Except.ok wk=_ at eL
    rw [<- eL] at p
    dsimp only at p |-
    clear eL pw bS bo bt lw g0 pS szS szd
    have fw:=g.ok.fw
    rw [ay] at fw
    have htm':=g.sm _ _ htm
    have inT:∀ x:Str,inV (.str x) (tc.map V.str)=decide (x∈tc):=fun x=>Cg x tc
    have ftc:∀ x∈bs++qs,decide (x∈tc)=decide (x∈wk.wr):=fun x hx=>by
      by_cases c:x∈tc
      · rw [decide_eq_true c,decide_eq_true ((g.tw x hx).mp c)]
      · rw [decide_eq_false c,decide_eq_false (fun z=>c ((g.tw x hx).mpr z))]
    refine aO (cN ?_)
    refine vm (K:=K) (a:=bl) (xs:=vb) rfl (SqT.of htm') rfl (SqL.of (g.sm _ _ hbl)) (fun i ys G'=>cF G G'/\bJ (pX G') ys (((bs.take i).filter fun x=>decide (x∈wk.wr)).map fun x=>(x,nZ wk.bx x))) ⟨cF.refl _,by rw [eK]; exact .nil⟩ ?_ ?_ ?_
    · rintro i ys G' hi ⟨sm',pw'⟩
      have lf:(((bs.take i).filter fun x=>decide (x∈wk.wr)).map fun x=>(x,nZ wk.bx x)).length<=bs.length:=by
        rw [ai]
        refine cU (ei _ _) ?_
        rw [cT]
        omega
      have lw:=bL pw'
      exact ⟨SqL.of (sm' _ _ (g.sm _ _ hbl)),by omega⟩
    · rintro i x ys G' hi ⟨sm',pw'⟩
      have g1:=g.same sm'
      obtain ⟨y,hy,a,n,rfl,ha⟩:=jF pb hi
      have ha:=g1.sm _ _ ha
      have my:y∈bs:=cy hy
      have ft:=kR (p:=fun x=>decide (x∈wk.wr)) hy
      refine ⟨a,_,rfl,SqT.of ha,rfl,_,_,rfl,_,_,rfl,rfl,rfl,?_⟩
      refine ⟨_,rfl,_,rfl,L.tl,_,rfl,.inl (SqL.of g1.ht),rfl,pF tc,_,rfl,?_⟩
      show (if (if false=true then !inV (.str y) (tc.map V.str) else inV (.str y) (tc.map V.str))=true then _ else _)
      rw [if_neg (by decide:¬ (false=true)),inT,ftc y (dC _ my)]
      by_cases c:y∈wk.wr
      · rw [if_pos (decide_eq_true c)] at ft
        rw [decide_eq_true c]
        refine eC ?_
        refine ⟨_,rfl,_,rfl,L.l,_,_,_,rfl,rfl,SqL.of g1.hl,rfl,_,rfl,L.bd,_,rfl,(by have z:=kd.k (k:=Sum.inr y) g1.hb; rw [tV (by rw [g1.ok.kb]; exact my)] at z; exact z),lt2,fun tt htt=>?_⟩
        have st_:=aM htt (.tup [.str y,.int (nZ wk.bx y)])
        refine ⟨sm'.trans st_,?_⟩
        rw [ft,aV]
        exact dB (Paired.mono (fun _ _ z=>z.keep fun b xs e=>st_ _ _ e) pw') ⟨tt,rfl,ao⟩
      · rw [if_neg (by rw [decide_eq_false c]; decide),dj] at ft
        rw [decide_eq_false c]
        refine dY ⟨sm',?_⟩
        rw [ft]
        exact pw'
    rintro ws1 G3 ⟨sm3,pw1⟩ wl1 hwl1
    have ev1:vb.length=bs.length:=bL pb
    rw [ev1,cM] at pw1
    have s5:=aM hwl1 (.lst ws1)
    have hw1':upd G3 wl1 (.lst ws1) wl1=some (.lst ws1):=ao
    have pw1':=Paired.mono (S:=pX (upd G3 wl1 (.lst ws1))) (fun _ _ z=>z.keep fun b xs e=>s5 _ _ e) pw1
    have sm4:=sm3.trans s5
    generalize upd G3 wl1 (.lst ws1)=G4 at hw1' pw1' sm4
    clear pw1 s5 hwl1 sm3
    have g4:=g.same sm4
    refine aZ ?_
    dsimp only
    refine aO (cN ?_)
    refine ⟨_,rfl,?_⟩
    refine vm (K:=K) (a:=ql) (xs:=qs.map V.str) rfl (SqT.of (g4.sm _ _ htm)) rfl (SqL.of (g4.sm _ _ hql)) (fun i ys G'=>∃ qa:List (Str×ae),cF G4 G'/\bJ (rR G') ys qa/\eu G' qa (((qs.take i).filter fun x=>decide (x∈wk.wr)).map fun x=>(x,gy wk.qu x))) ⟨[],cF.refl _,.nil,by rw [eK]; exact .nil⟩ ?_ ?_ ?_
    · rintro i ys G' hi ⟨qa',sm',pw',pl'⟩
      have lf:(((qs.take i).filter fun x=>decide (x∈wk.wr)).map fun x=>(x,gy wk.qu x)).length<=qs.length:=by
        rw [ai]
        refine cU (ei _ _) ?_
        rw [cT]
        omega
      have lw:=bL pw'
      have lw2:=bL pl'
      exact ⟨SqL.of (sm' _ _ (g4.sm _ _ hql)),by omega⟩
    · rintro i x ys G' hi ⟨qa',sm',pw',pl'⟩
      have g1:=g4.same sm'
      obtain ⟨y,hy,rfl⟩:∃ y,qs[i]?=some y/\x=.str y:=by
        rw [dk] at hi
        cases z:qs[i]? with
        | none =>
          rw [z] at hi
          cases hi
        | some y =>
          rw [z] at hi
          cases hi
          exact ⟨y,rfl,rfl⟩
      have my:y∈qs:=cy hy
      have ft:=kR (p:=fun x=>decide (x∈wk.wr)) hy
      refine aZ ⟨rfl,?_⟩
      refine ⟨_,rfl,_,rfl,L.tl,_,rfl,.inl (SqL.of g1.ht),rfl,pF tc,_,rfl,?_⟩
      show (if (if false=true then !inV (.str y) (tc.map V.str) else inV (.str y) (tc.map V.str))=true then _ else _)
      rw [if_neg (by decide:¬ (false=true)),inT,ftc y (bK _ my)]
      by_cases c:y∈wk.wr
      · rw [if_pos (decide_eq_true c)] at ft
        rw [decide_eq_true c]
        obtain ⟨lz,h1,h2,h3⟩:=g1.getL my
        refine eC ?_
        refine ⟨_,rfl,_,rfl,L.l,_,_,_,rfl,rfl,SqL.of g1.hl,rfl,_,rfl,L.qd,_,rfl,h3,lz,_,rfl,.inl (SqL.of h2),fun nq hnq=>⟨lt2,fun tt htt=>?_⟩⟩
        have sn:=aM hnq (.lst ((gy wk.qu y).map V.int))
        have st_:=aM htt (.tup [.str y,.ref nq])
        refine ⟨qa'++[(y,nq)],(sm'.trans sn).trans st_,dB (Paired.mono (fun _ _ z=>z.keep fun b xs e=>st_ _ _ (sn _ _ e)) pw') ⟨tt,rfl,ao⟩,?_⟩
        rw [ft,aV]
        exact dB ((pl'.same sn).same st_) ⟨rfl,st_ _ _ ao⟩
      · rw [if_neg (by rw [decide_eq_false c]; decide),dj] at ft
        rw [decide_eq_false c]
        refine dY ⟨qa',sm',pw',?_⟩
        rw [ft]
        exact pl'
    rintro ws2 G5 ⟨qa',sm5,pw2,pl2⟩ w2 hw2
    rw [ai,cM] at pl2
    have s6:=aM hw2 (.lst ws2)
    have l1:=bL pw1'
    have l2:=bL pw2
    have l3:=bL pl2
    have lf1:((bs.filter fun x=>decide (x∈wk.wr)).map fun x=>(x,nZ wk.bx x)).length<=bs.length:=by
      rw [ai]
      exact ei _ _
    have lf2:((qs.filter fun x=>decide (x∈wk.wr)).map fun x=>(x,gy wk.qu x)).length<=qs.length:=by
      rw [ai]
      exact ei _ _
    refine ⟨wl1,w2,ws1,ws2,rfl,rfl,s6 _ _ (sm5 _ _ hw1'),ao,by omega,fun w3 hw3=>?_⟩
    have s7:=aM hw3 (.lst (ws1++ws2))
    have sm7:=(sm5.trans s6).trans s7
    have g7:=g4.same sm7
    have r1':=Paired.mono (S:=pX (upd (upd G5 w2 (.lst ws2)) w3 (.lst (ws1++ws2)))) (fun _ _ z=>z.keep fun b xs e=>sm7 _ _ e) pw1'
    have r2':=Paired.mono (S:=rR (upd (upd G5 w2 (.lst ws2)) w3 (.lst (ws1++ws2)))) (fun _ _ z=>z.keep fun b xs e=>s7 _ _ (s6 _ _ e)) pw2
    have r3':=(pl2.same s6).same s7
    have r4':upd (upd G5 w2 (.lst ws2)) w3 (.lst (ws1++ws2)) w3=some (.lst (ws1++ws2)):=ao
    generalize upd (upd G5 w2 (.lst ws2)) w3 (.lst (ws1++ws2))=G7 at g7 r1' r2' r3' r4'
    refine aZ ?_
    dsimp only
    refine ⟨_,rfl,_,rfl,_,rfl,_,rfl,_,rfl,_,rfl,_,rfl,_,rfl,(by show 7<=aE; decide),fun rc hrc=>?_⟩
    have s8:=aM hrc (.tup [.ref kh,.int h.to,.str h.sg,.int h.a,.int h.b,.ref w3,.ref L.nl])
    have g8:=g7.same s8
    refine ⟨_,rfl,L.tl,_,rfl,.inl (SqL.of g8.ht),rfl,pF tc,(by show 3<=aE; decide),fun t ht=>?_⟩
    have een:(if false=true then !inV (.str "the end") (tc.map V.str) else inV (.str "the end") (tc.map V.str))=wk.en:=by
      rw [if_neg (by decide:¬ (false=true)),inT]
      by_cases c:("the end":Str)∈tc
      · rw [decide_eq_true c,g.te.mp c]
      · rw [decide_eq_false c]
        cases z:wk.en with
        | false=>rfl
        | true=>exact absurd (g.te.mpr z) c
    rw [een]
    have s9:=aM ht (.tup [.ref L.l,.ref rc,.bl wk.en])
    have g9:=g8.same s9
    have s89:=s8.trans s9
    obtain ⟨ov,ho1,ho2⟩:=g9.hn
    exact p _ t L.l rc ⟨g9.sm,ao,⟨L.bd,L.qd,L.qa,g9.hl,g9.hb,g9.hq,g9.hqs⟩,rc,kh,w3,L.nl,ws1,ws2,ov,qa',rfl,s9 _ _ ao,g9.sm _ _ hkh,s89 _ _ r4',Paired.mono (fun _ _ z=>z.keep fun b xs e=>s89 _ _ e) r1',Paired.mono (fun _ _ z=>z.keep fun b xs e=>s89 _ _ e) r2',r3'.same s89,ho1,ho2⟩
end
end My
namespace My
open PySem L2
def Wp (p:ae) (H:Hp):Hp:=fun a=>if a=p then none else H a
theorem oN {p a:ae} {H:Hp} (n:a≠p):Wp p H a=H a:=if_neg n
theorem iy {p:ae} {H:Hp}:cF (Wp p H) H:=fun a o e=>by
  unfold Wp at e
  by_cases c:a=p
  · rw [if_pos c] at e
    cases e
  · rw [if_neg c] at e
    exact e
theorem ly {p:ae} {H G:Hp} (b:But p H G):cF (Wp p H) (Wp p G):=fun a o e=>by
  by_cases c:a=p
  · unfold Wp at e
    rw [if_pos c] at e
    cases e
  · rw [oN c] at e |-
    exact b _ _ e c
theorem lQ {p:ae} {H G:Hp} (s:cF H G):cF (Wp p H) (Wp p G):=ly fun a o e _=>s _ _ e
theorem AS {H G:Hp} {p:ae} (hp:H p≠none):cF (Nw H G) (Wp p G):=fun a o e=>by
  by_cases c:H a=none
  · rw [j0 c] at e
    rw [oN fun z=>hp (by rw [<- z]; exact c)]
    exact e
  · unfold Nw at e
    rw [if_neg c] at e
    cases e
theorem Cj {α:Type} (g:α->V) {ps:List (Str×α)} {x:Str} {n:α} (h:x∉ps.map (·.1)):jt (ps.map fun p=>((Sum.inr p.1:Key),g p.2)) (Sum.inr x) (g n)=(ps++[(x,n)]).map fun p=>((Sum.inr p.1:Key),g p.2):=by
  have e:ps.lookup x=none:=by
    cases z:ps.lookup x with
    | none=>rfl
    | some a=>exact absurd (cG.mpr ⟨_,jO z,rfl⟩) h
  unfold jt
  have v:kX (ps.map fun p=>((Sum.inr p.1:Key),g p.2)) (Sum.inr x)=none:=by
    have z:=nj g x ps
    rw [e] at z
    exact z
  rw [lC,v]
  show (if false=true then _ else _)=_
  rw [if_neg (by decide),aV]
  rfl
theorem x8 {bx:List (Str×Int)} {x:Str} {n:Int} (h:x∉bx.map (·.1)):jt (boK bx) (Sum.inr x) (.int n)=boK (bx++[(x,n)]):=Cj V.int h
theorem rn {α:Type} {ps:List (Str×α)} {i:Nat} {q:Str×α} (nd:(ps.map (·.1)).Nodup) (h:ps[i]?=some q):q.1∉(ps.take i).map (·.1):=fun z=>by
  have nd2:((ps.take (i + 1)).map (·.1)).Nodup:=by
    rw [oG]
    exact nd.sublist (gG _ _)
  rw [ff,h,aV] at nd2
  exact (ez.mp nd2).2.2 _ z q.1 (by simp) rfl
theorem pairs_at {H:Hp}:∀ {ps:List (Str×Int)} {vb:List V} {i:Nat} {x:V},e8 H ps vb->vb[i]?=some x->∃ t q,x=.ref t/\ps[i]?=some q/\H t=some (.tup [.str q.1,.int q.2])
  | [],_,i,x,h,e=>by
    cases h
    simp at e
  | q :: ps,_,0,x,h,e=>by
    cases h with
    | cons a b =>
      obtain ⟨t,e1,h1⟩:=a
      simp at e
      subst e
      exact ⟨t,q,e1,rfl,h1⟩
  | q :: ps,_,i + 1,x,h,e=>by
    cases h with
    | cons a b =>
      obtain ⟨t,q',e1,h1,h2⟩:=pairs_at (ps:=ps) (i:=i) (x:=x) b (by simpa using e)
      exact ⟨t,q',e1,by simpa using h1,h2⟩
theorem pG {H:Hp}:∀ {ps:List (Str×Int)} {vb:List V},e8 H ps vb->vb.length=ps.length
  | [],_,h=>by
    cases h
    rfl
  | q :: ps,_,h=>by
    cases h with
    | cons a b=>rw [bX,bX,pG (ps:=ps) b]
section
variable {P:aX} {w:cz} {K:aj} {mg:Str->Option af} {base:cR} {f fD fWh:ae} {fd fdD fdWh:cH} {CM CS:ae}
seal L2.PS L2.PSs L2.PE L2.PA L2.PT L2.PW L2.PI L2.PG L2.PGs L2.PC
structure StIs (K:aj) (CS:ae):Prop where
  ha:aD K (.ref CS) "__class__"=some (some (.builtin "object.__class__"))
  hn:kM K (.builtin "object.__class__") "__get__"=some (some (.builtin "getset_descriptor.__get__"))
  hk:lT K (.builtin "object.__class__")=some true
  hm:dE K CS (.type "object")=some true
  kt:aq K (.ref CS) (.ref CS)=some true
abbrev pSs:List Str:=["_law_found","_law_due"]
theorem scSs:cD pSs pSs (aB fi):=⟨rfl,rfl,rfl,by decide +kernel,rfl,by decide +kernel,by decide +kernel⟩
def ET (CS:ae):Sp:=fun vs H Q _=>∃ (st sl:ae) (bx:List (Str×Int)) (qu:List (Str×List Int)) (dr:Nat) (se:Int),vs=[.ref st,.ref sl]/\qV CS H st bx qu dr se/\lu H sl bx qu dr se/\Q (.bl true) H
theorem vp {H:Hp}:∀ bx:List (Str×Int),bJ (fun (a b:Key×V)=>a.1=b.1/\DEq H 0 a.2 b.2) (boK bx) (boK bx)
  | []=>.nil
  | p :: bx=>.cons ⟨rfl,0,by decide,trivial,rfl⟩ (vp bx)
theorem vt {H:Hp}:∀ {qu:List (Str×List Int)} {qa qb:List (Str×ae)},eu H qa qu->eu H qb qu->bJ (fun (a b:Key×V)=>a.1=b.1/\DEq H 0 a.2 b.2) (quK qa) (quK qb)
  | [],_,_,a,b=>by
    cases a
    cases b
    exact .nil
  | q :: qu,_,_,a,b=>by
    cases a with
    | cons a1 a2 =>
    cases b with
    | cons b1 b2=>exact .cons ⟨by show (Sum.inr _:Key)=Sum.inr _; rw [a1.1,b1.1],1,by decide,vo (n:=0) a1.2 b1.2⟩ (vt a2 b2)
theorem C7 (D:Df K mg "_law_state_same" fi pSs f fd) (DWh:Df K mg "_law_whole" ja ["_law_found"] fWh fdWh) (WI:StIs K CS) (B:Bl mg) (TM:MdT K mg CM CS):bZ P w K mg base CX0 2 f fd pSs (ET CS):=by
  have GWh:bZ P w K mg base CX0 1 fWh fdWh ["_law_found"] xC:=z8 DWh B
  refine D.F.ok scSs (fun vs H Q E h=>?_) (fun cdv A outer s H vs Q E hr h=>?_)
  · obtain ⟨st,sl,bx,qu,dr,se,rfl,_⟩:=h
    rfl
  obtain ⟨st,sl,bx,qu,dr,se,rfl,⟨dx,bd,qd,qa,h1,h2,h3,h4⟩,⟨bd',qd',qa',g1,g2,g3,g4⟩,q⟩:=h
  have h50:=hu50 hr
  refine ⟨_,ah (cK ((kH (ik (fo (cu tT (by rfl) B.isi eF (aT (pv 0) (aT (tF (v:=.ref CS) (by rfl) TM.mS rfl) ak))))) (kH (ik (fo (aN GWh hr (by rfl) DWh.m DWh.F.kp DWh.b .nil bR (aw (cY (pv 0) (by rfl)) ak)))) (j8 (ik (fo (aN GWh hr (by rfl) DWh.m DWh.F.kp DWh.b .nil bR (aw (cY (pv 0) (by rfl)) ak))))))).pt) (au (bD j7)) bH)
    (ah (cK ((kH (bE (zV h50) (cY (pv 0) (by rfl)) (aP bT (pv 1) ag (fun _ _=>rfl)) (bM _)) (j8 (bE (zV h50) (cY (pv 0) (by rfl)) (aP bT (pv 1) ag (fun _ _=>rfl)) (bM _)))).pt) (au (bD j7)) bH)
    (au (bD (oR (j2 di (cY (pv 0) (by rfl)) (aP bT (pv 1) ag (fun _ _=>rfl)) (bM _)) (tG (j2 di (cY (pv 0) (by rfl)) (aP bT (pv 1) ag (fun _ _=>rfl)) (bM _))))))),?_⟩
  refine aO ?_
  refine iw (c:=false) (fun R r=>?_) (fun c=>by cases c) (fun _=>cS ?_)
  · refine ⟨_,rfl,.ref st,CS,.ref CS,true,rfl,.ins h1 TM.clS WI.ha WI.hn WI.hk WI.hm,WI.kt,_,rfl,?_⟩
    refine dY ?_
    refine ⟨_,rfl,st,CS,dx,_,_,rfl,h1,TM.clS,TM.nD,Ah _ _ _ _,dr,rfl,_,rfl,?_⟩
    refine dY ?_
    refine ⟨_,rfl,st,CS,dx,_,_,rfl,h1,TM.clS,TM.nS,Ai _ _ _ _,se,rfl,_,rfl,?_⟩
    exact r
  dsimp only
  refine aO ?_
  refine iw (c:=false) (fun R r=>?_) (fun c=>by cases c) (fun _=>cS ?_)
  · refine ⟨_,rfl,st,CS,dx,_,_,rfl,h1,TM.clS,TM.nB,yK _ _ _ _,_,rfl,sl,_,_,_,rfl,rfl,SqL.of g1,rfl,0,bd,bd',_,_,by decide,rfl,rfl,h2,g2,vp bx,_,rfl,?_⟩
    refine dY ?_
    refine ⟨_,rfl,st,CS,dx,_,_,rfl,h1,TM.clS,TM.nQ,wM _ _ _ _,_,rfl,sl,_,_,_,rfl,rfl,SqL.of g1,rfl,0,qd,qd',_,_,by decide,rfl,rfl,h3,g3,vt h4 g4,_,rfl,?_⟩
    exact r
  dsimp only
  refine qX ?_
  refine ⟨_,rfl,st,CS,dx,_,_,rfl,h1,TM.clS,TM.nD,Ah _ _ _ _,_,rfl,sl,_,_,_,rfl,rfl,SqL.of g1,rfl,rfl,_,rfl,?_⟩
  refine fz (b:=true) (decide_eq_true rfl) (eC ?_)
  refine ⟨_,rfl,st,CS,dx,_,_,rfl,h1,TM.clS,TM.nS,Ai _ _ _ _,_,rfl,sl,_,_,_,rfl,rfl,SqL.of g1,rfl,rfl,?_⟩
  rw [show decide (V.int se=V.int se)=true from decide_eq_true rfl]
  exact q
abbrev nFi:List Str:=["_law_machines","_law_found","_law_machine_here","_law_boxes","_law_name","_law_worth","_law_queues"]
theorem vv:cD nFi ["_law_machines"] (aB jd):=⟨rfl,rfl,rfl,by decide +kernel,rfl,by decide +kernel,by decide +kernel⟩
def noQ (qs:List Str):List (Str×List Int):=qs.map fun q=>(q,[])
theorem wX:∀ qs:List Str,(noQ qs).map (·.1)=qs
  | []=>rfl
  | q :: qs=>by
    show q :: (noQ qs).map (·.1)=_
    rw [wX qs]
def SlN (H G:Hp) (sl:ae) (M:MD):Prop:=lu (Nw H G) sl M.ps (noQ M.qs) 0 0
def spFi:Sp:=fun vs H Q _=>∃ (ml:ae) (ms:List V) (Ms:List MD),vs=[.ref ml]/\H ml=some (.lst ms)/\bJ (rg H) ms Ms/\(∀ M∈Ms,(M.ps.map (·.1)).Nodup/\M.ps.length<=9/\M.qs.Nodup/\M.qs.length<=9)/\Ms.length<=9 /\
  ∀ (G:Hp) (l:ae) (sls:List ae),cF H G->H l=none->G l=some (.lst (sls.map V.ref))->bJ (SlN H G) sls Ms->Q (.ref l) G
theorem take_snoc {α:Type} {xs:List α} {i:Nat} {x:α} (h:xs[i]?=some x):xs.take (i + 1)=xs.take i++[x]:=by
  rw [ff,h]
  rfl
theorem rp {H G:Hp} {a:ae} {o:HO} (h:H a≠none):cF (Nw H G) (Nw H (upd G a o)):=fun b u e=>by
  by_cases c:H b=none
  · rw [j0 c] at e |-
    exact aR e fun z=>h (by rw [<- z]; exact c)
  · unfold Nw at e
    rw [if_neg c] at e
    cases e
theorem lR {G:Hp} {a:ae} {o:HO}:Dm G (upd G a o):=fun b n=>(fv n).2
theorem ok_fi (D:Df K mg "_law_first" jd ["_law_machines"] f fd):bZ P w K mg base CX0 1 f fd ["_law_machines"] spFi:=by
  refine D.F.ok vv (fun vs H Q E h=>?_) (fun cdv A outer s H vs Q E hr h=>?_)
  · obtain ⟨ml,ms,Ms,rfl,_⟩:=h
    rfl
  obtain ⟨ml,ms,Ms,rfl,hml,hp,hok,lM,k⟩:=h
  have hu:=jZ hr
  refine ⟨_,ah (bF (i:=1) vv.nd rfl (Or.inl rfl) (el ak))
    (ah (fq cj rfl (fj (pv 0)) (cP (i:=2) vv.nd rfl (Or.inl rfl)) (ah (bF (i:=3) vv.nd rfl (Or.inl rfl) jn)
    (ah (fq cj rfl (fj (aP bC (pv 2) ag (fun _ _=>rfl))) (nV rfl (eX (cP (i:=4) vv.nd rfl (Or.inl rfl)) (eX (cP (i:=5) vv.nd rfl (Or.inl rfl)) kI))) (au (gu hu (pv 3) (pv 4) (pv 5) rfl)))
    (ah (bF (i:=6) vv.nd rfl (Or.inl rfl) jn)
    (ah (fq cj rfl (fj (aP bC (pv 2) ag (fun _ _=>rfl))) (cP (i:=4) vv.nd rfl (Or.inl rfl)) (au (gu hu (pv 6) (pv 4) (el ak) rfl)))
    (au (dv (ia aW bA bB dR (pv 1) (wU (el (aT (pv 3) (aT (pv 6) (cX ag (cX ag ak))))) ak)))))))))
    (au (bD (pv 1)))),?_⟩
  have big:=eM
  refine aO (cN ?_)
  refine ⟨bV _,fun lf hlf=>?_⟩
  refine aZ ?_
  dsimp only
  have s0:=aM hlf (.lst [])
  have h1lf:upd H lf (.lst []) lf≠none:=by rw [ao]; intro z; cases z
  have h1d:Dm H (upd H lf (.lst [])):=lR
  generalize hH1:upd H lf (.lst [])=H1 at s0 h1lf h1d
  have e1:H1 lf=some (.lst []):=by rw [<- hH1]; exact ao
  refine aO ?_
  refine ⟨_,rfl,ml,rfl,⟨_,SqL.of (s0 _ _ hml)⟩,fY (K:=K) (a:=ml) (xs:=ms) (fun i σ G=>∃ (sls:List ae) (u2 u3 u4 u5 u6:Option V),σ=[some (.ref ml),some (.ref lf),u2,u3,u4,u5,u6]/\cF H G/\Dm H1 G/\G lf=some (.lst (sls.map V.ref))/\bJ (SlN H1 G) sls (Ms.take i))
    ⟨[],_,_,_,_,_,rfl,s0,(fun _ z=>z),e1,(by rw [eK]; exact .nil)⟩ ?_ ?_ ?_⟩
  · rintro i σ G _ ⟨_,_,_,_,_,_,rfl,sG,_⟩
    exact SqL.of (sG _ _ hml)
  · rintro i x σ G hi ⟨sls,u2,u3,u4,u5,u6,rfl,sG,dG,hlfG,hS⟩
    obtain ⟨M,hM,t,bl,ql,n0,x3,x4,vb,rfl,ht,hbl,hB,hql⟩:=jF hp hi
    obtain ⟨ndp,lp,ndq,lq⟩:=hok M (cy hM)
    refine aZ ?_
    dsimp only
    refine aO (cN ?_)
    intro bd hbd
    refine aZ ?_
    dsimp only
    have s1:=aM hbd (.dK [])
    refine aO ?_
    refine ⟨_,rfl,t,_,_,_,rfl,rfl,SqT.of (s1 _ _ (sG _ _ ht)),rfl,bl,rfl,⟨_,SqL.of (s1 _ _ (sG _ _ hbl))⟩,fY (K:=K) (a:=bl) (xs:=vb) (fun j σ G1=>∃ (u4 u5:Option V),σ=[some (.ref ml),some (.ref lf),some (.ref t),some (.ref bd),u4,u5,u6]/\cF G G1/\G1 bd=some (.dK (boK (M.ps.take j))))
      ⟨_,_,rfl,s1,(by rw [eK]; exact ao)⟩ ?_ ?_ ?_⟩
    · rintro j σ G1 _ ⟨_,_,rfl,s2,_⟩
      exact SqL.of (s2 _ _ (sG _ _ hbl))
    · rintro j y σ G1 hj ⟨u4,u5,rfl,s2,hb1⟩
      obtain ⟨tq,q,rfl,hq,htq⟩:=pairs_at hB hj
      have lj:=(aL.mp hq).1
      refine ⟨tq,_,rfl,SqT.of (s2 _ _ (sG _ _ htq)),rfl,_,_,rfl,_,_,rfl,rfl,?_⟩
      dsimp only
      have dp:=kY.k (k:=Sum.inr q.1) (v:=.int q.2) hb1 (by rw [qg,cT]; omega)
      rw [x8 (rn ndp hq),<- take_snoc hq] at dp
      exact ⟨_,rfl,_,rfl,_,rfl,bd,_,rfl,dp,_,_,rfl,gz s2 hbd _,ao⟩
    rintro σ G1 ⟨u4,u5,rfl,s2,hb1⟩
    have lvb:vb.length=M.ps.length:=pG hB
    rw [lvb,cM] at hb1
    dsimp only
    refine aO (cN ?_)
    intro qd hqd
    refine aZ ?_
    dsimp only
    have s3:=aM hqd (.dK [])
    have hqq:upd G1 qd (.dK []) qd=some (.dK []):=ao
    have dq1:Dm G1 (upd G1 qd (.dK [])):=lR
    generalize upd G1 qd (.dK [])=Gq at s3 hqq dq1
    have nq0:Gq qd≠none:=by rw [hqq]; intro z; cases z
    have s23:=s2.trans s3
    refine aO ?_
    refine ⟨_,rfl,t,_,_,_,rfl,rfl,SqT.of (s23 _ _ (sG _ _ ht)),rfl,ql,rfl,⟨_,SqL.of (s23 _ _ (sG _ _ hql))⟩,fY (K:=K) (a:=ql) (xs:=M.qs.map V.str) (fun j σ G2=>∃ (u4:Option V) (qa:List (Str×ae)),σ=[some (.ref ml),some (.ref lf),some (.ref t),some (.ref bd),u4,u5,some (.ref qd)]/\cF G1 G2/\Dm Gq G2/\G2 qd=some (.dK (quK qa))/\eu (Nw Gq G2) qa (noQ (M.qs.take j)))
      ⟨_,[],rfl,s3,(fun _ z=>z),hqq,(by rw [eK]; exact .nil)⟩ ?_ ?_ ?_⟩
    · rintro j σ G2 _ ⟨_,_,rfl,s4,_⟩
      exact SqL.of (s4 _ _ (s2 _ _ (sG _ _ hql)))
    · rintro j y σ G2 hj ⟨u4,qa,rfl,s4,d4,hq2,hQ⟩
      obtain ⟨z,hz,rfl,lz,tk⟩:=q9 hj
      refine aZ ?_
      dsimp only
      refine ⟨bV _,fun nl hnl=>?_⟩
      have s5:=aM hnl (.lst [])
      have nnl:=d4 _ hnl
      have lqa:=hQ.len
      have nin:z∉qa.map (·.1):=by
        rw [hQ.nm]
        intro m
        rw [wX] at m
        have m':z∈M.qs.take j:=m
        have nd2:(M.qs.take (j + 1)).Nodup:=ndq.sublist (gG _ _)
        rw [tk] at nd2
        exact (ez.mp nd2).2.2 _ m' z (by simp) rfl
      have dp:=kY.k (k:=Sum.inr z) (v:=.ref nl) (s5 _ _ hq2) (by
        rw [kQ,lqa]
        unfold noQ
        rw [ai,cT]
        omega)
      rw [oF nin] at dp
      have s6:=gz (H:=G1) (s4.trans s5) hqd (.dK (quK (qa++[(z,nl)])))
      have nlq:nl≠qd:=(aJ hq2 hnl).symm
      refine ⟨_,rfl,_,rfl,qd,_,rfl,dp,_,qa++[(z,nl)],rfl,s6,(d4.trans lR).trans lR,ao,?_⟩
      unfold noQ
      rw [tk,aV]
      refine dB ((hQ.same (j5 s5)).same (rp nq0)) ⟨rfl,?_⟩
      rw [j0 nnl]
      exact aR ao nlq
    rintro σ G2 ⟨u4,qa,rfl,s4,d4,hq2,hQ⟩
    rw [ai,cM] at hQ
    dsimp only
    have sGG:=s2.trans s4
    have lsl:=bL hS
    refine ⟨_,rfl,.inl ⟨rfl,_,SqL.of (sGG _ _ hlfG)⟩,_,rfl,_,rfl,(by show 4<=aE; decide),fun sl hsl=>?_⟩
    have s7:=aM hsl (.lst [.ref bd,.ref qd,.int 0,.int 0])
    refine ⟨lf,_,_,rfl,rfl,s7 _ _ (sGG _ _ hlfG),(by rw [ai,lsl,cT]; omega),?_⟩
    have s8:=gz (H:=H) ((sG.trans sGG).trans s7) hlf (.lst (sls.map V.ref++[.ref sl]))
    have dGq:Dm G Gq:=(Dm.same s2).trans dq1
    have d1q:Dm H1 Gq:=dG.trans dGq
    have nlfq:Gq lf≠none:=fun z=>h1lf (d1q _ z)
    have nsl1:=d1q _ (d4 _ hsl)
    have nbd1:=dG _ hbd
    have nqd1:=(dG.trans (Dm.same s2)) _ hqd
    have slf:sl≠lf:=fun z=>h1lf (by rw [<- z]; exact nsl1)
    have bdf:bd≠lf:=fun z=>h1lf (by rw [<- z]; exact nbd1)
    have qdf:qd≠lf:=fun z=>h1lf (by rw [<- z]; exact nqd1)
    refine ⟨sls++[sl],_,_,_,_,_,rfl,s8,((dG.trans (Dm.same sGG)).trans lR).trans lR,by rw [aV]; exact ao,?_⟩
    rw [take_snoc hM]
    refine dB (Paired.mono (fun a b z=>lu.same (((j5 (sGG.trans s7))).trans (rp h1lf)) z) hS) ⟨bd,qd,qa,?_,?_,?_,?_⟩
    · rw [j0 nsl1]
      exact aR ao slf
    · rw [j0 nbd1]
      exact aR (s7 _ _ (s4 _ _ hb1)) bdf
    · rw [j0 nqd1]
      exact aR (s7 _ _ hq2) qdf
    · exact (((hQ.same (j5 s7)).same (rp nlfq)).same (nc d1q))
  rintro σ G ⟨sls,u2,u3,u4,u5,u6,rfl,sG,dG,hlfG,hS⟩
  rw [bL hp,cM] at hS
  exact ⟨_,rfl,k G lf sls sG hlf hlfG (Paired.mono (fun a b z=>lu.same (nc h1d) z) hS)⟩
end
end My
namespace My
open PySem L2
theorem yZ {n:Nat} {ti:TE} {g:TG} {tc:L2.TT} {te:TE} {σ:St} {H:Hp} {Q:VK} (P:Nat->Hp->Prop) (hi:∀ R:VK,(∀ (m:Nat) (H1:Hp),P m H1->R (.int m) H1)->ti σ H R) (hb:∀ m H1,P m H1->m < 1000) (Pv:Nat->Hp->Nat->List V->Hp->Prop) (h0:∀ m H1,P m H1->Pv m H1 0 [] H1) (hl:∀ m H1,P m H1->∀ i ys H,i<=m->Pv m H1 i ys H->ys.length < aE)
    (hs:∀ m H1,P m H1->∀ i ys H,i < m->Pv m H1 i ys H->g (.int (0 + i)) (cV n none++σ) H fun σ2 H2=>σ2.drop n=σ/\tc σ2 H2 fun b H3=>if b=true then te σ2 H3 fun y H4=>Pv m H1 (i + 1) (ys++[y]) H4 else Pv m H1 (i + 1) ys H3)
    (hd:∀ m H1,P m H1->∀ ys H,Pv m H1 m ys H->∀ p,H p=none->Q (.ref p) (upd H p (.lst ys))):qM n (Cu (jY ti uD)) g tc te σ H Q:=
  hi _ fun m H1 p=>⟨(m:Int),rfl,by have:=hb m H1 p; omega,by have:=hb m H1 p; omega,by
    rw [A5]
    exact zR (Pv m H1) (h0 m H1 p) (hl m H1 p) (hs m H1 p) (hd m H1 p)⟩
theorem kZ {p:ae} {G:Hp} {a:ae} (h:dD G p) (n:G a=none):a≠p:=by
  obtain ⟨x,y,e⟩:=h
  exact (aJ e n).symm
theorem dD.some {p:ae} {G:Hp} (h:dD G p):G p≠none:=by
  obtain ⟨x,y,e⟩:=h
  rw [e]
  intro z
  cases z
theorem sZ {p:ae} {G:Hp} (h:dD G p) {a:ae} {o:HO} (n:a≠p):dD (upd G a o) p:=by
  obtain ⟨x,y,e⟩:=h
  exact ⟨x,y,aR e n.symm⟩
theorem But.dm' {p:ae} {H G:Hp} (b:But p H G) (pu:dD G p):Dm H G:=fun a n=>by
  cases e:H a with
  | none=>rfl
  | some o =>
    by_cases c:a=p
    · rw [c] at n
      exact absurd n pu.some
    · rw [b a o e c] at n
      cases n
section
variable {P:aX} {w:cz} {K:aj} {mg:Str->Option af} {base:cR} {f fD fDn fSs:ae} {fd fdD fdDn fdSs:cH} {CM CS CD CF CE:ae} {bs qs:List Str} {cf:Flt->ae}
seal L2.PS L2.PSs L2.PE L2.PA L2.PT L2.PW L2.PI L2.PG L2.PGs L2.PC
abbrev pSr:List Str:=["_law_purse_here","_law_machine_here"]
abbrev nSr:List Str:=["_law_purse_here","_law_machine_here","_law_boxes","_law_queues","_law_name","_law_worth","_law_great","_law_many"]
theorem vw:cD nSr pSr (aB gE):=⟨rfl,rfl,rfl,by decide +kernel,rfl,by decide +kernel,by decide +kernel⟩
theorem ndSr:((["_law_k"]:List Str)++nSr).Nodup:=by decide +kernel
def spSr:Sp:=fun vs H Q _=>∃ (p:ae) (v:V) (M:MD),vs=[.ref p,v]/\dD H p/\rg (Wp p H) v M/\(M.ps.map (·.1)).Nodup/\M.ps.length<=9/\M.qs.Nodup/\M.qs.length<=9/\(∀ q∈M.ps,Wo q.2) /\
  ∀ (G:Hp) (sl:ae) (bx:List (Str×Int)) (qu:List (Str×List Int)) (dn:Nat) (se:Int),lu (Nw H G) sl bx qu dn se->bx.map (·.1)=M.ps.map (·.1)->qu.map (·.1)=M.qs->(∀ q∈bx,Wo q.2)->(∀ q∈qu,q.2.length<=30/\∀ n∈q.2,Wo n)->dD G p->But p H G->Q (.ref sl) G
theorem ok_sr (D:Df K mg "_law_stirred" gE pSr f fd) (DD:Df K mg "_law_draw" eE ["_law_purse_here","_law_out_of"] fD fdD) (B:Bl mg):bZ P w K mg base CX0 2 f fd pSr spSr:=by
  have GD:bZ P w K mg base CX0 1 fD fdD ["_law_purse_here","_law_out_of"] jE:=jH DD
  refine D.F.ok vw (fun vs H Q E h=>?_) (fun cdv A outer s H vs Q E r1 h=>?_)
  · obtain ⟨p,v,M,rfl,_⟩:=h
    rfl
  obtain ⟨p,v,M,rfl,pu,hF,ndp,lp,ndq,lq,wps,k⟩:=h
  have hu:=jZ r1
  refine ⟨_,ah (bF (i:=2) vw.nd rfl (Or.inl rfl) jn)
    (ah (bF (i:=3) vw.nd rfl (Or.inl rfl) jn)
    (ah (fq cj rfl (fj (aP bC (pv 1) ag (fun _ _=>rfl))) (nV rfl (eX (cP (i:=4) vw.nd rfl (Or.inl rfl)) (eX (cP (i:=5) vw.nd rfl (Or.inl rfl)) kI))) (ah (bF (i:=6) vw.nd rfl (Or.inl rfl) (cJ gK (aN GD r1 (by rfl) DD.m DD.F.kp DD.b .nil bR (aT (pv 0) (kE (cJ fZ (cJ jQ ag (cJ iG ag ag)) ag) ak))) (cJ iG ag ag)))
    (au (gu hu (pv 2) (pv 4) (aP bT (el (aT (pv 5) (aT (pv 6) (kE (cJ gK (aN GD r1 (by rfl) DD.m DD.F.kp DD.b .nil bR (aT (pv 0) (cX ag ak))) ag) ak)))) (aN GD r1 (by rfl) DD.m DD.F.kp DD.b .nil bR (aT (pv 0) (cX ag ak))) (fun _ _=>rfl)) rfl))))
    (ah (fq cj rfl (fj (aP bC (pv 1) ag (fun _ _=>rfl))) (cP (i:=4) vw.nd rfl (Or.inl rfl)) (ah (bF (i:=7) vw.nd rfl (Or.inl rfl) (aP bT (el (cX ag (cX ag (cX ag (cX ag (cX ag ak)))))) (aN GD r1 (by rfl) DD.m DD.F.kp DD.b .nil bR (aT (pv 0) (cX ag ak))) (fun _ _=>rfl)))
    (au (gu hu (pv 3) (pv 4) (m8 ["_law_k"] (iP.open (NN:=nSr) (N:=nSr) (sc:=aB gE) rfl rfl (by decide +kernel) rfl (by decide +kernel) (by decide +kernel) rfl (by decide +kernel)) rfl (iV (by rfl) B.range (aT (pv 7) ak)) (fun _ _ _ _=>cP (i:=0) ndSr rfl (Or.inl rfl)) (fun _ _ _ _=>m7) (fun _ _ _ _=>cJ gK (aN GD r1 (by rfl) DD.m DD.F.kp DD.b .nil bR (aT (pv 1) (cX ag ak))) ag)) rfl))))
    (au (bD (el (aT (pv 2) (aT (pv 3) (iU (aN GD r1 (by rfl) DD.m DD.F.kp DD.b .nil bR (aT (pv 0) (cX ag ak))) (iU (aN GD r1 (by rfl) DD.m DD.F.kp DD.b .nil bR (aT (pv 0) (cX ag ak))) ak)))))))))),?_⟩
  have big:=eM
  have c15:oX 10 15:=⟨by decide,by decide,by decide⟩
  have e15:(10:Int) ^ (15:Int).toNat=1000000000000000:=by decide
  obtain ⟨t,bl,ql,n0,x3,x4,vb,rfl,ht,hbl,hB,hql⟩:=hF
  have wpn:∀ {a:ae} {o:HO},Wp p H a=some o->a≠p:=fun {a o} e z=>by
    unfold Wp at e
    rw [if_pos z] at e
    cases e
  have npt:t≠p/\bl≠p/\ql≠p:=⟨wpn ht,wpn hbl,wpn hql⟩
  have ht0:=iy _ _ ht
  have hbl0:=iy _ _ hbl
  have hql0:=iy _ _ hql
  refine aO (cN ?_)
  intro bd hbd
  refine aZ ?_
  dsimp only
  have s1:=aM hbd (.dK [])
  refine aO (cN ?_)
  intro qd hqd
  refine aZ ?_
  dsimp only
  have s2:=aM hqd (.dK [])
  have nbd:=kZ pu hbd
  have nqd:=kZ (pu.same s1) hqd
  have hqd0:=none_of s1 hqd
  have hb1:=s2 _ _ (ao:upd H bd (.dK []) bd=_)
  have hq1:upd (upd H bd (.dK [])) qd (.dK []) qd=some (.dK []):=ao
  have pu1:=(pu.same s1).same s2
  have sH:=s1.trans s2
  generalize upd (upd H bd (.dK [])) qd (.dK [])=Hq at hb1 hq1 pu1 sH
  have nbq:bd≠qd:=fun z=>by rw [z] at hbd; rw [<- z] at hqd; rw [ao] at hqd; cases hqd
  have hpq:=pu1.some
  have hqq:Hq qd≠none:=by rw [hq1]; intro z; cases z
  have hqb:Hq bd≠none:=by rw [hb1]; intro z; cases z
  refine aO ?_
  refine ⟨_,rfl,t,_,_,_,rfl,rfl,SqT.of (sH _ _ ht0),rfl,bl,rfl,⟨_,SqL.of (sH _ _ hbl0)⟩,fY (K:=K) (a:=bl) (xs:=vb) (fun j σ G=>∃ (u4 u5 u6:Option V) (bx:List (Str×Int)),σ=[some (.ref p),some (.ref t),some (.ref bd),some (.ref qd),u4,u5,u6,none]/\dD G p/\But p H G/\Dm Hq G/\G bd=some (.dK (boK bx))/\G qd=some (.dK [])/\bx.map (·.1)=(M.ps.take j).map (·.1)/\∀ q∈bx,Wo q.2)
    ⟨_,_,_,[],rfl,pu1,(fun a o e _=>sH _ _ e),(fun _ z=>z),hb1,hq1,(by simp),(fun q hq=>by cases hq)⟩ ?_ ?_ ?_⟩
  · rintro j σ G _ ⟨_,_,_,_,rfl,_,bG,_⟩
    exact SqL.of (bG _ _ hbl0 npt.2.1)
  · rintro j y σ G hj ⟨u4,u5,u6,bx,rfl,puG,bG,dG,hbG,hqG,hnm,hwo⟩
    obtain ⟨tq,q,rfl,hq,htq⟩:=pairs_at hB hj
    have lj:=(aL.mp hq).1
    have ntq:tq≠p:=wpn htq
    refine ⟨tq,_,rfl,SqT.of (bG _ _ (iy _ _ htq) ntq),rfl,_,_,rfl,_,_,rfl,rfl,?_⟩
    dsimp only
    refine aO (cN ?_)
    refine ⟨_,rfl,_,_,rfl,rfl,c15,_,_,rfl,rfl,.inl ⟨by decide,by decide⟩,_,_,rfl,rfl,p,_,rfl,puG,by decide,by decide,fun ra G1 ra0 ra1 pu2 b1=>⟨_,_,rfl,rfl,c15,_,_,rfl,rfl,?_⟩⟩
    refine aZ ?_
    dsimp only
    refine ⟨_,rfl,_,rfl,_,rfl,p,9,rfl,pu2,by decide,by decide,fun rb G2 rb0 rb1 pu3 b2=>⟨_,_,rfl,rfl,(by show 3<=aE; decide),fun l hl=>?_⟩⟩
    have t1:=aM hl (.lst ([q.2,ra - (10:Int) ^ (15:Int).toNat,rb - 4].map V.int))
    have nl:=kZ pu3 hl
    refine ⟨_,rfl,p,3,rfl,pu3.same t1,by decide,by decide,fun rc G3 rc0 rc1 pu4 b3=>?_⟩
    obtain ⟨m,hm,wm⟩:∃ m:Int,atI ([q.2,ra - (10:Int) ^ (15:Int).toNat,rb - 4].map V.int) rc=some (.int m)/\Wo m:=by
      have hr:rc=0\/rc=1\/rc=2:=by omega
      rcases hr with rfl | rfl | rfl
      · exact ⟨_,rfl,wps q (cy hq)⟩
      · refine ⟨_,rfl,?_⟩
        unfold Wo
        rw [e15] at *
        omega
      · exact ⟨_,rfl,by unfold Wo; omega⟩
    have bb:But p G G3:=((b1.trans b2).same t1).trans b3
    have hb3:=bb _ _ hbG nbd
    have lbx:bx.length<=9:=by
      have z:=congrArg gF hnm
      rw [ai,ai,cT] at z
      omega
    have dp:=kY.k (k:=Sum.inr q.1) (v:=.int m) hb3 (by rw [qg]; omega)
    rw [x8 (by rw [hnm]; exact rn ndp hq)] at dp
    refine ⟨l,_,_,_,rfl,rfl,SqL.of (b3 _ _ ao nl),hm,_,rfl,_,rfl,bd,_,rfl,dp,_,_,_,bx++[(q.1,m)],rfl,sZ pu4 nbd,?_,(dG.trans (bb.dm' pu4)).trans lR,ao,aR (bb _ _ hqG nqd) nbq.symm,?_,fun z hz=>?_⟩
    · intro a o e n
      exact aR (bb _ _ (bG a o e n) n) (aJ e hbd)
    · rw [aV,hnm,take_snoc hq,aV]
      rfl
    · rcases cE.mp hz with y | y
      · exact hwo z y
      · rw [aQ.mp y]
        exact wm
  rintro σ G ⟨u4,u5,u6,bx,rfl,puG,bG,dG,hbG,hqG,hnm,hwo⟩
  rw [pG hB,cM] at hnm
  dsimp only
  refine aO ?_
  refine ⟨_,rfl,t,_,_,_,rfl,rfl,SqT.of (bG _ _ ht0 npt.1),rfl,ql,rfl,⟨_,SqL.of (bG _ _ hql0 npt.2.2)⟩,fY (K:=K) (a:=ql) (xs:=M.qs.map V.str) (fun j σ G=>∃ (u4 u7:Option V) (qa:List (Str×ae)) (qu:List (Str×List Int)),σ=[some (.ref p),some (.ref t),some (.ref bd),some (.ref qd),u4,u5,u6,u7]/\dD G p/\But p H G/\Dm Hq G/\G bd=some (.dK (boK bx))/\G qd=some (.dK (quK qa))/\eu (Nw Hq G) qa qu/\qu.map (·.1)=M.qs.take j/\∀ q∈qu,q.2.length<=30/\∀ n∈q.2,Wo n)
    ⟨_,_,[],[],rfl,puG,bG,dG,hbG,hqG,.nil,(by simp),(fun q hq=>by cases hq)⟩ ?_ ?_ ?_⟩
  · rintro j σ G _ ⟨_,_,_,_,rfl,_,bG,_⟩
    exact SqL.of (bG _ _ hql0 npt.2.2)
  · rintro j y σ G hj ⟨u4,u7,qa,qu,rfl,puG,bG,dG,hbG,hqG,hQ,hqn,hqo⟩
    obtain ⟨z,hz,rfl,lz,tk⟩:=q9 hj
    refine aZ ?_
    dsimp only
    refine aO (cN ?_)
    refine ⟨(by show 5<=aE; decide),fun l hl=>?_⟩
    have t1:=aM hl (.lst ([0,1,2,29,30].map V.int))
    have nl:=kZ puG hl
    refine ⟨_,rfl,p,5,rfl,puG.same t1,by decide,by decide,fun ra G1 ra0 ra1 pu2 b1=>?_⟩
    obtain ⟨n,hn,ln⟩:∃ n:Nat,atI ([0,1,2,29,30].map V.int) ra=some (.int n)/\n<=30:=by
      have hr:ra=0\/ra=1\/ra=2\/ra=3\/ra=4:=by omega
      rcases hr with rfl | rfl | rfl | rfl | rfl
      · exact ⟨0,rfl,by decide⟩
      · exact ⟨1,rfl,by decide⟩
      · exact ⟨2,rfl,by decide⟩
      · exact ⟨29,rfl,by decide⟩
      · exact ⟨30,rfl,by decide⟩
    refine ⟨l,_,_,_,rfl,rfl,SqL.of (b1 _ _ ao nl),hn,?_⟩
    refine aZ ?_
    dsimp only
    have b01:But p G G1:=(But.same (But.refl _ _) t1).trans b1
    refine yZ (fun m G'=>m=n/\G'=G1) (fun R hR=>⟨_,rfl,hR n G1 ⟨rfl,rfl⟩⟩) (fun m G' h=>by omega) (fun m G' i ys G2=>∃ ns:List Int,ys=ns.map V.int/\ns.length=i/\(∀ x∈ns,Wo x)/\dD G2 p/\But p G1 G2) ?_ ?_ ?_ ?_
    · rintro m G' ⟨rfl,rfl⟩
      exact ⟨[],rfl,rfl,(fun x hx=>by cases hx),pu2,But.refl _ _⟩
    · rintro m G' ⟨rfl,rfl⟩ i ys G2 hi ⟨ns,rfl,ln2,_⟩
      rw [ai]
      omega
    · rintro m G' _ i ys G2 hi ⟨ns,rfl,ln2,wn,pu',b'⟩
      refine aZ ⟨rfl,?_⟩
      unfold wy
      refine eC ?_
      refine ⟨_,rfl,p,9,rfl,pu',by decide,by decide,fun rb G3 rb0 rb1 pu3 b3=>⟨_,_,rfl,rfl,ns++[rb - 4],(by rw [aV]; rfl),(by rw [ay,ln2]; rfl),(fun x hx=>?_),pu3,b'.trans b3⟩⟩
      rcases cE.mp hx with y | y
      · exact wn x y
      · rw [aQ.mp y]
        unfold Wo
        omega
    rintro m G' ⟨rfl,rfl⟩ ys G2 ⟨ns,rfl,ln2,wn,pu3,b3⟩ nl' hnl
    have s5:=aM hnl (.lst (ns.map V.int))
    have bb:=b01.trans b3
    have hq2:=bb _ _ hqG nqd
    have lqa:=hQ.len
    have lqu:qu.length<=9:=by
      have y:=congrArg gF hqn
      rw [ai,cT] at y
      omega
    have nin:z∉qa.map (·.1):=by
      rw [hQ.nm,hqn]
      intro m'
      have nd2:(M.qs.take (j + 1)).Nodup:=ndq.sublist (gG _ _)
      rw [tk] at nd2
      exact (ez.mp nd2).2.2 _ m' z (by simp) rfl
    have dp:=kY.k (k:=Sum.inr z) (v:=.ref nl') (s5 _ _ hq2) (by
      rw [kQ,lqa]
      omega)
    rw [oF nin] at dp
    have nlq:nl'≠qd:=(aJ hq2 hnl).symm
    have d3:Dm Hq G2:=dG.trans (bb.dm' pu3)
    have nnl:=d3 _ hnl
    refine ⟨_,rfl,_,rfl,qd,_,rfl,dp,_,_,qa++[(z,nl')],qu++[(z,ns)],rfl,sZ (pu3.same s5) nqd,?_,(d3.trans lR).trans lR,aR (s5 _ _ (bb _ _ hbG nbd)) nbq,ao,?_,?_,fun q hq=>?_⟩
    · intro a o e n'
      exact aR (s5 _ _ (bb _ _ (bG a o e n') n')) (aJ e hqd0)
    · refine dB (((hQ.same (z7 hpq bb)).same (j5 s5)).same (rp hqq)) ⟨rfl,?_⟩
      rw [j0 nnl]
      exact aR ao nlq
    · rw [aV,hqn,tk]
      rfl
    · rcases cE.mp hq with y | y
      · exact hqo q y
      · rw [aQ.mp y]
        exact ⟨by show ns.length<=30; omega,wn⟩
  rintro σ G3 ⟨u4',u7,qa,qu,rfl,puG3,bG3,dG3,hbG3,hqG3,hQ,hqn,hqo⟩
  rw [ai,cM] at hqn
  dsimp only
  refine qX (lst_i ?_)
  refine ⟨_,rfl,_,rfl,_,rfl,p,9,rfl,puG3,by decide,by decide,fun ra G4 ra0 ra1 pu5 b4=>⟨_,rfl,p,9,rfl,pu5,by decide,by decide,fun rb G5 rb0 rb1 pu6 b5=>⟨(by show 4<=aE; decide),fun sl hsl=>?_⟩⟩⟩
  obtain ⟨dn,rfl⟩:∃ dn:Nat,ra=(dn:Int):=⟨ra.toNat,by omega⟩
  have s7:=aM hsl (.lst [.ref bd,.ref qd,.int dn,.int rb])
  have b45:=b4.trans b5
  have dF:Dm Hq G5:=dG3.trans (b45.dm' pu6)
  have dH:Dm H Hq:=Dm.same sH
  have nsl:=dH _ (dF _ hsl)
  refine k _ sl bx qu dn rb ⟨bd,qd,qa,?_,?_,?_,?_⟩ hnm hqn hwo hqo (pu6.same s7) ((bG3.trans b45).same s7)
  · rw [j0 nsl]
    exact ao
  · rw [j0 hbd]
    exact s7 _ _ (b45 _ _ hbG3 nbd)
  · rw [j0 hqd0]
    exact s7 _ _ (b45 _ _ hqG3 nqd)
  · exact ((hQ.same (z7 hpq b45)).same (j5 s7)).same (nc dH)
end
end My
namespace My
open PySem L2
deriving instance DecidableEq for Flt
structure Cls6 (K:aj) (mg:Str->Option af) (cf:Flt->ae) (CE:ae):Prop where
  m:mg "Nought"=some (.ref (cf .nought))/\mg "Great"=some (.ref (cf .great))/\mg "Full"=some (.ref (cf .full))/\mg "Dry"=some (.ref (cf .dry))/\mg "Span"=some (.ref (cf .span))/\mg "Late"=some (.ref (cf .late))
  mE:mg "MomentError"=some (.ref CE)
  mV:mg "ValueError"=none
  c:∀ e,nG K (cf e)
  k:∀ e e',aq K (.ref (cf e)) (.ref (cf e'))=some (decide (e'=e))
  e:∀ e,aq K (.ref (cf e)) (.ref CE)=some true
  v:∀ e,aq K (.ref (cf e)) (.type "ValueError")=some true
theorem tf:eI "ValueError"=some (.type "ValueError"):=by decide +kernel
section
variable {P:aX} {w:cz} {K:aj} {mg:Str->Option af} {base:cR} {f:ae} {fd:cH}
theorem y7:cD ["self"] ["self"] (aB hW):=⟨rfl,rfl,rfl,by decide +kernel,rfl,by decide +kernel,by decide +kernel⟩
theorem wY (F:Fun K "word" "Nought.word" hW f fd):bZ P w K mg base CX0 1 f fd ["self"] (oh (kS .nought)):=by
  refine F.ok y7 (fun vs H Q E h=>?_) (fun cdv A outer s H vs Q E hr h=>?_)
  · obtain ⟨a,rfl,_⟩:=h
    rfl
  obtain ⟨a,rfl,q⟩:=h
  exact ⟨_,au (bD bN),q⟩
theorem AU:cD ["self"] ["self"] (aB iB):=⟨rfl,rfl,rfl,by decide +kernel,rfl,by decide +kernel,by decide +kernel⟩
theorem y8 (F:Fun K "word" "Great.word" iB f fd):bZ P w K mg base CX0 1 f fd ["self"] (oh (kS .great)):=by
  refine F.ok AU (fun vs H Q E h=>?_) (fun cdv A outer s H vs Q E hr h=>?_)
  · obtain ⟨a,rfl,_⟩:=h
    rfl
  obtain ⟨a,rfl,q⟩:=h
  exact ⟨_,au (bD bN),q⟩
theorem Ck:cD ["self"] ["self"] (aB iY):=⟨rfl,rfl,rfl,by decide +kernel,rfl,by decide +kernel,by decide +kernel⟩
theorem AV (F:Fun K "word" "Full.word" iY f fd):bZ P w K mg base CX0 1 f fd ["self"] (oh (kS .full)):=by
  refine F.ok Ck (fun vs H Q E h=>?_) (fun cdv A outer s H vs Q E hr h=>?_)
  · obtain ⟨a,rfl,_⟩:=h
    rfl
  obtain ⟨a,rfl,q⟩:=h
  exact ⟨_,au (bD bN),q⟩
theorem EU:cD ["self"] ["self"] (aB ju):=⟨rfl,rfl,rfl,by decide +kernel,rfl,by decide +kernel,by decide +kernel⟩
theorem Cm (F:Fun K "word" "Dry.word" ju f fd):bZ P w K mg base CX0 1 f fd ["self"] (oh (kS .dry)):=by
  refine F.ok EU (fun vs H Q E h=>?_) (fun cdv A outer s H vs Q E hr h=>?_)
  · obtain ⟨a,rfl,_⟩:=h
    rfl
  obtain ⟨a,rfl,q⟩:=h
  exact ⟨_,au (bD bN),q⟩
theorem Cn:cD ["self"] ["self"] (aB iZ):=⟨rfl,rfl,rfl,by decide +kernel,rfl,by decide +kernel,by decide +kernel⟩
theorem AW (F:Fun K "word" "Span.word" iZ f fd):bZ P w K mg base CX0 1 f fd ["self"] (oh (kS .span)):=by
  refine F.ok Cn (fun vs H Q E h=>?_) (fun cdv A outer s H vs Q E hr h=>?_)
  · obtain ⟨a,rfl,_⟩:=h
    rfl
  obtain ⟨a,rfl,q⟩:=h
  exact ⟨_,au (bD bN),q⟩
theorem Co:cD ["self"] ["self"] (aB i5):=⟨rfl,rfl,rfl,by decide +kernel,rfl,by decide +kernel,by decide +kernel⟩
theorem AX (F:Fun K "word" "Late.word" i5 f fd):bZ P w K mg base CX0 1 f fd ["self"] (oh (kS .late)):=by
  refine F.ok Co (fun vs H Q E h=>?_) (fun cdv A outer s H vs Q E hr h=>?_)
  · obtain ⟨a,rfl,_⟩:=h
    rfl
  obtain ⟨a,rfl,q⟩:=h
  exact ⟨_,au (bD bN),q⟩
end
end My
namespace My
open PySem L2
section
variable {P:aX} {w:cz} {K:aj} {mg:Str->Option af} {base:cR} {f fD fDn fSs:ae} {fd fdD fdDn fdSs:cH} {CM CS CD CF CE:ae} {bs qs:List Str} {cf:Flt->ae}
seal L2.PS L2.PSs L2.PE L2.PA L2.PT L2.PW L2.PI L2.PG L2.PGs L2.PC
abbrev pTo:List Str:=["_law_model_here","_law_state","_law_happening"]
abbrev nTo:List Str:=["_law_model_here","_law_state","_law_happening","_law_fault","_law_found","e"]
theorem rq:cD nTo pTo (aB jD):=⟨rfl,rfl,rfl,by decide +kernel,rfl,by decide +kernel,by decide +kernel⟩
def spTo (CM CD CS:ae) (bs qs:List Str) (n:Nat):Sp:=fun vs H Q _=>∃ (m dxm ml st:ae) (fs:List (Str×V)) (ms:List V) (hv mv:V) (h:Ev) (ds:List Int) (hs:List (Str×Ds)) (bx:List (Str×Int)) (qu:List (Str×List Int)) (dr:Nat) (se:Int),vs=[.ref m,.ref st,hv]/\H m=some (.ins CM dxm fs)/\fs.lookup ("machines":Str)=some (.ref ml)/\H ml=some (.lst ms) /\
  kD H hv h/\atI ms h.to=some mv/\og bs qs ds hs H mv/\qV CS H st bx qu dr se/\nJ bs qs (w0 bx qu dr se)/\Wo h.t/\Wo h.a/\Wo h.b/\(iT hs h.sg).deep < n/\(iT hs h.sg).size < 100000 /\
  match doS h ds (iT hs h.sg) (w0 bx qu dr se) with
  | .ok w'=>∀ (G:Hp) (L:Lay) (t rc wl:ae) (ws1 ws2:List V) (qa:List (Str×ae)),yQ CD CS bs qs H G L h ds w' t rc wl ws1 ws2 qa->Q (.ref t) G
  | .error e=>∀ G,cF H G->Q (.str (kS e)) G
theorem ok_to {n:Nat} {fW:Flt->ae} {fdW:Flt->cH} (D:Df K mg "_law_told" jD pTo f fd) (DDn:Df K mg "done" px ["model","state","happening"] fDn fdDn) (GDn:bZ P w K mg base (CXo P w) (20 + 3 * n + 2) fDn fdDn ["model","state","happening"] (Av cf CM CD CS bs qs n)) (mF:mg "Fault"=some (.ref CF)) (xF:∀ e,dy K (.ref (cf e)) (.ref CF)=some true) (B:Bl mg) (X6:Cls6 K mg cf CE) (MW:∀ e,kW K (cf e) "word" (fW e)) (BW:∀ e,Binds K (fdW e) ["self"] []) (GW:∀ e,bZ P w K mg base CX0 1 (fW e) (fdW e) ["self"] (oh (kS e))) :
    bZ P w K mg base CX0 (20 + 3 * n + 3) f fd pTo (spTo CM CD CS bs qs n):=by
  refine D.F.ok rq (fun vs H Q E h=>?_) (fun cdv A outer s H vs Q E hr h=>?_)
  · obtain ⟨m,dxm,ml,st,fs,ms,hv,mv,h,ds,hs,bx,qu,dr,se,rfl,_⟩:=h
    rfl
  obtain ⟨m,dxm,ml,st,fs,ms,hv,mv,h,ds,hs,bx,qu,dr,se,rfl,hm,hfs,hml,hE,hmv,hM,hS,ok,wt,wa,wb,dn,sz,p⟩:=h
  have r1:eN 1 _:=hr.mono (by omega)
  cases ew:doS h ds (iT hs h.sg) (w0 bx qu dr se) with
  | ok w' =>
    rw [ew] at p
    refine ⟨_,ah (bF (i:=3) rq.nd rfl (Or.inl rfl) tD)
    (ah (bF (i:=4) rq.nd rfl (Or.inl rfl) tD)
    (ah (zI (fun C σ G=>∃ er:Flt,C=cf er/\doS h ds (iT hs h.sg) (w0 bx qu dr se)=.error er/\cF H G) (fun pins=>au (bF (i:=4) rq.nd rfl (Or.inl rfl) (uL GDn hr (by rfl) DDn.m DDn.F.kp DDn.b qL (aT (pv 0) (aT (pv 1) (aT (pv 2) ak)))))) (zQ 5 (by rfl) mF rq.nd rfl rfl (fun ea=>au (bF (i:=3) rq.nd rfl (Or.inl rfl) (pv 5))) xo))
    (ah (cK (qp (zk (pv 3))) (au (bD (pv 4))) bH)
    (ah (cK ((kH (ik (fo (cu j4 (by rfl) B.isi eF (aT (pv 3) (aT (tF (v:=.ref CE) (by rfl) X6.mE rfl) ak))))) (j8 (ik (fo (cu j4 (by rfl) B.isi eF (aT (pv 3) (aT (fG (v:=.ty "ValueError") (by rfl) X6.mV tf rfl) ak))))))).pt) (au (bD bN)) bH)
    (au (bD (uY (pv 3) (X6.c .nought) (MW .nought) (GW .nought) r1 (BW .nought) bR))))))),?_⟩
    refine aO (cN ?_)
    refine aZ ?_
    dsimp only
    refine aO (cN ?_)
    refine aZ ?_
    dsimp only
    refine aO ?_
    refine ⟨cN ?_,fun C σ' H' hl ht=>?_⟩
    · refine ⟨_,rfl,_,rfl,_,rfl,m,dxm,ml,st,fs,ms,hv,mv,h,ds,hs,bx,qu,dr,se,rfl,hm,hfs,hml,hE,hmv,hM,hS,ok,wt,wa,wb,dn,sz,?_⟩
      rw [ew]
      intro G L t rc wl ws1 ws2 qa d
      refine aZ ?_
      dsimp only
      refine aO ?_
      refine ⟨_,rfl,_,rfl,?_⟩
      refine fz (b:=true) rfl (eC ?_)
      exact ⟨_,rfl,p G L t rc wl ws1 ws2 qa d⟩
    · obtain ⟨er,_,z,_⟩:=ht
      rw [ew] at z
      cases z
  | error er =>
    rw [ew] at p
    refine ⟨_,ah (bF (i:=3) rq.nd rfl (Or.inl rfl) tD)
    (ah (bF (i:=4) rq.nd rfl (Or.inl rfl) tD)
    (ah (zI (fun C σ G=>∃ er:Flt,C=cf er/\doS h ds (iT hs h.sg) (w0 bx qu dr se)=.error er/\cF H G) (fun pins=>au (bF (i:=4) rq.nd rfl (Or.inl rfl) (uL GDn hr (by rfl) DDn.m DDn.F.kp DDn.b qL (aT (pv 0) (aT (pv 1) (aT (pv 2) ak)))))) (zQ 5 (by rfl) mF rq.nd rfl rfl (fun ea=>au (bF (i:=3) rq.nd rfl (Or.inl rfl) (pv 5))) xo))
    (ah (cK (qp (zk (pv 3))) (au (bD (pv 4))) bH)
    (ah (cK ((kH (ik (fo (cu j4 (by rfl) B.isi eF (aT (pv 3) (aT (tF (v:=.ref CE) (by rfl) X6.mE rfl) ak))))) (j8 (ik (fo (cu j4 (by rfl) B.isi eF (aT (pv 3) (aT (fG (v:=.ty "ValueError") (by rfl) X6.mV tf rfl) ak))))))).pt) (au (bD bN)) bH)
    (au (bD (uY (pv 3) (X6.c er) (MW er) (GW er) r1 (BW er) bR))))))),?_⟩
    refine aO (cN ?_)
    refine aZ ?_
    dsimp only
    refine aO (cN ?_)
    refine aZ ?_
    dsimp only
    refine aO ?_
    refine ⟨cN ?_,fun C σ' H' hl ht=>?_⟩
    · refine ⟨_,rfl,_,rfl,_,rfl,m,dxm,ml,st,fs,ms,hv,mv,h,ds,hs,bx,qu,dr,se,rfl,hm,hfs,hml,hE,hmv,hM,hS,ok,wt,wa,wb,dn,sz,?_⟩
      rw [ew]
      intro G sG
      exact ⟨cf er,rfl,er,rfl,rfl,sG⟩
    · obtain ⟨er',rfl,z,sG⟩:=ht
      rw [ew] at z
      cases z
      have l6:σ'.length=6:=by
        rw [hl]
        rfl
      refine .inl ⟨xF er,fun ea hea=>?_⟩
      refine ⟨.ref ea,fV (by rw [l6]; decide),?_⟩
      refine aZ ?_
      dsimp only [zP]
      have se:=aM hea (XO ea (cf er))
      have g3:(((σ'.set 5 (some (.ref ea))).set 3 (some (.ref ea))).set 5 none)[3]?=some (some (.ref ea)):=by
        rw [jW (by decide)]
        exact fV (by rw [Bm,l6]; decide)
      refine aO ?_
      refine ⟨_,g3,_,rfl,?_⟩
      refine fz (b:=false) rfl (dY (cS ?_))
      dsimp only
      refine aO ?_
      refine iw (c:=false) (fun R r=>?_) (fun c=>by cases c) (fun _=>cS ?_)
      · refine ⟨_,g3,ea,cf er,_,.ref CE,true,rfl,rfl,fun _ z=>z,ao,X6.c er,X6.e er,_,rfl,?_⟩
        refine dY ?_
        refine ⟨_,g3,ea,cf er,_,.type "ValueError",true,rfl,rfl,fun _ z=>z,ao,X6.c er,X6.v er,_,rfl,?_⟩
        exact r
      dsimp only
      exact ⟨_,g3,ea,rfl,ao,_,rfl,p _ (sG.trans se)⟩
theorem scRg:cD pSs pSs (aB je):=⟨rfl,rfl,rfl,by decide +kernel,rfl,by decide +kernel,by decide +kernel⟩
def spRg (CS:ae):Sp:=fun vs H Q _=>(∃ x:Str,vs=[.str x,.str x]/\Q (.bl true) H) \/
  ∃ (t t' st sl rc rc':ae) (en:Bool) (bx:List (Str×Int)) (qu:List (Str×List Int)) (dr:Nat) (se:Int) (q:Rec),vs=[.ref t,.ref t']/\H t=some (.tup [.ref st,.ref rc,.bl en])/\H t'=some (.tup [.ref sl,.ref rc',.bl en])/\qV CS H st bx qu dr se/\lu H sl bx qu dr se/\RcIn H (.ref rc) q/\RcIn H (.ref rc') q/\Q (.bl true) H
theorem ok_rg (D:Df K mg "_law_right" je pSs f fd) (DSs:Df K mg "_law_state_same" fi pSs fSs fdSs) (GSs:bZ P w K mg base CX0 2 fSs fdSs pSs (ET CS)) (kss:aq K (.type "str") (.type "str")=some true) (kts:aq K (.type "tuple") (.type "str")=some false) (ktt:aq K (.type "tuple") (.type "tuple")=some true) (kbb:aq K (.type "bool") (.type "bool")=some true) (B:Bl mg):bZ P w K mg base CX0 3 f fd pSs (spRg CS):=by
  refine D.F.ok scRg (fun vs H Q E h=>?_) (fun cdv A outer s H vs Q E hr h=>?_)
  · rcases h with ⟨x,rfl,_⟩ | ⟨t,t',st,sl,rc,rc',en,bx,qu,dr,se,q,rfl,_⟩ <;> rfl
  have h50:=hu50 hr
  refine ⟨_,ah (cK (fo (cu dO (by rfl) B.isi eF (aw (pv 1) (aT (fG (v:=.ty "str") (by rfl) B.str boot_str rfl) ak)))) (au (bD (oR (cu dO (by rfl) B.isi eF (aw (pv 0) (aT (fG (v:=.ty "str") (by rfl) B.str boot_str rfl) ak))) (tG (j2 di (pv 0) (pv 1) (bM _)))))) bH)
    (ah (cK ((kH (ik (fo (cu dO (by rfl) B.isi eF (aw (pv 0) (aT (fG (v:=.ty "tuple") (by rfl) B.tuple boot_tuple rfl) ak))))) (kH (bE zr (cu (dS K (by rfl)) (by rfl) B.len cw (aT (pv 0) ak)) ag (bM _)) (j8 (ik (fo (aN GSs hr (by rfl) DSs.m DSs.F.kp DSs.b .nil bR (ig (aP bC (pv 0) ag (fun _ _=>rfl)) (ig (aP bC (pv 1) ag (fun _ _=>rfl)) ak)))))))).pt) (au (bD j7)) bH)
    (au (bD (oR (cu dO (by rfl) B.isi eF (aw (aP bC (pv 0) ag (fun _ _=>rfl)) (aT (fG (v:=.ty "tuple") (by rfl) B.tuple boot_tuple rfl) ak))) (oR (j2 (DZ h50) (aP bC (pv 0) ag (fun _ _=>rfl)) (aP bC (pv 1) ag (fun _ _=>rfl)) (bM _)) (oR (cu dO (by rfl) B.isi eF (aw (aP bC (pv 0) ag (fun _ _=>rfl)) (aT (fG (v:=.ty "bool") (by rfl) B.bool boot_bool rfl) ak))) (tG (j2 di (aP bC (pv 0) ag (fun _ _=>rfl)) (aP bC (pv 1) ag (fun _ _=>rfl)) (bM _))))))))),?_⟩
  rcases h with ⟨x,rfl,k⟩ | ⟨t,t',st,sl,rc,rc',en,bx,qu,dr,se,q,rfl,ht,ht',hS,hS',hR,hR',k⟩
  · refine aO ?_
    refine ⟨_,rfl,.str x,"str",.type "str",true,rfl,.str _,kss,_,rfl,eC ?_⟩
    refine qX ?_
    refine ⟨_,rfl,.str x,"str",.type "str",true,rfl,.str _,kss,_,rfl,eC ?_⟩
    refine ⟨_,rfl,_,rfl,rfl,?_⟩
    rw [show decide (V.str x=V.str x)=true from decide_eq_true rfl]
    exact k
  · refine aO ?_
    refine ⟨_,rfl,.ref t',"str",.type "tuple",false,rfl,.tup ht',kts,_,rfl,dY (cS ?_)⟩
    dsimp only
    refine aO ?_
    refine iw (c:=false) (fun R r=>?_) (fun c=>by cases c) (fun _=>cS ?_)
    · refine ⟨_,rfl,.ref t,"tuple",.type "tuple",true,rfl,.tup ht,ktt,_,rfl,?_⟩
      refine dY ?_
      refine ⟨_,rfl,t,_,rfl,.inr (SqT.of ht),rfl,_,rfl,?_⟩
      refine dY ?_
      refine ⟨_,rfl,t,_,_,_,rfl,rfl,SqT.of ht,rfl,_,rfl,t',_,_,_,rfl,rfl,SqT.of ht',rfl,st,sl,bx,qu,dr,se,rfl,hS,hS',_,rfl,?_⟩
      exact r
    dsimp only
    refine qX ?_
    refine ⟨_,rfl,t,_,_,_,rfl,rfl,SqT.of ht,rfl,.ref rc,"tuple",.type "tuple",true,rfl,?_,ktt,_,rfl,eC ?_⟩
    · obtain ⟨rc0,k0,wl,od,ws1,ws2,vs,qa,e,h1,_⟩:=hR
      cases e
      exact .tup h1
    refine ⟨_,rfl,t,_,_,_,rfl,rfl,SqT.of ht,rfl,_,rfl,t',_,_,_,rfl,rfl,SqT.of ht',rfl,4,by decide,Cf (n:=0) hR hR',_,rfl,eC ?_⟩
    refine ⟨_,rfl,t,_,_,_,rfl,rfl,SqT.of ht,rfl,.bl en,"bool",.type "bool",true,rfl,.bl _,kbb,_,rfl,eC ?_⟩
    refine ⟨_,rfl,t,_,_,_,rfl,rfl,SqT.of ht,rfl,_,rfl,t',_,_,_,rfl,rfl,SqT.of ht',rfl,rfl,?_⟩
    rw [show decide (V.bl en=V.bl en)=true from decide_eq_true rfl]
    exact k
end
end My
namespace My
open PySem L2
theorem yQ.rc {CD CS:ae} {bs qs:List Str} {H G:Hp} {L:Lay} {h:Ev} {ds:List Int} {w:Wk} {t rc wl:ae} {ws1 ws2:List V} {qa:List (Str×ae)} (d:yQ CD CS bs qs H G L h ds w t rc wl ws1 ws2 qa):RcIn G (.ref rc) ⟨h,wrB bs w,wrQ qs w,w.out⟩:=by
  obtain ⟨H0,s0,g⟩:=d.dg
  obtain ⟨vs,o1,o2⟩:=g.ho
  obtain ⟨k,h1,h2⟩:=d.hrc
  exact ⟨rc,k,wl,L.od,ws1,ws2,vs,qa,rfl,h1,d.sm _ _ h2,d.wr.hl,d.wr.b,d.wr.q,d.wr.l,o1,o2⟩
section
variable {P:aX} {w:cz} {K:aj} {mg:Str->Option af} {base:cR} {f fL fSI fTo fRg fSs:ae} {fd fdL fdSI fdTo fdRg fdSs:cH} {CM CS CD:ae} {bs qs:List Str}
seal L2.PS L2.PSs L2.PE L2.PA L2.PT L2.PW L2.PI L2.PG L2.PGs L2.PC
abbrev pAs:List Str:=["_law_model_here","_law_machines","_law_state","_law_happening"]
abbrev nAs:List Str:=["_law_model_here","_law_machines","_law_state","_law_happening","_law_queues","_law_name","_law_handed","_law_due","_law_turn","_law_found","_law_held"]
theorem rS:cD nAs pAs (aB jf):=⟨rfl,rfl,rfl,by decide +kernel,rfl,by decide +kernel,by decide +kernel⟩
def Cp (CM CD CS:ae) (bs qs:List Str):Sp:=fun vs H Q _=>∃ (m dxm mm ml sl:ae) (fs:List (Str×V)) (ms ms':List V) (hv mv mv':V) (h:Ev) (ds:List Int) (hs:List (Str×Ds)) (bx:List (Str×Int)) (qu:List (Str×List Int)) (dr:Nat) (se:Int),vs=[.ref m,.ref ml,.ref sl,hv]/\H m=some (.ins CM dxm fs)/\fs.lookup ("machines":Str)=some (.ref mm)/\H mm=some (.lst ms')/\atI ms' h.to=some mv'/\og bs qs ds hs H mv' /\
  H ml=some (.lst ms)/\atI ms h.to=some mv/\og bs qs ds hs H mv/\kD H hv h/\lu H sl bx qu dr se/\nJ bs qs (w0 bx qu dr se)/\Wo h.t/\Wo h.a/\Wo h.b/\ds.length<=1000/\(hs.map (·.1)).Nodup/\(iT hs h.sg).deep < 5/\(iT hs h.sg).size < 10000/\("the end":Str)∉bs++qs/\∀ G,cF H G->Q (.bl true) G
theorem ok_as (D:Df K mg "_law_asked" jf pAs f fd) (MS:Mk K CS fSI) (bSI:Binds K fdSI ["self","boxes","queues","drawn","sent"] []) (GSI:bZ P w K mg base CX0 1 fSI fdSI ["self","boxes","queues","drawn","sent"] (Eg CS)) (DL:Df K mg "_law_done" ir pLd fL fdL) (GL:bZ P w K mg base CX0 19 fL fdL pLd (spLd bs qs)) (DTo:Df K mg "_law_told" jD pTo fTo fdTo) (GTo:bZ P w K mg base CX0 38 fTo fdTo pTo (spTo CM CD CS bs qs 5)) (DRg:Df K mg "_law_right" je pSs fRg fdRg) (GRg:bZ P w K mg base CX0 3 fRg fdRg pSs (spRg CS)) (DSs:Df K mg "_law_state_same" fi pSs fSs fdSs) (GSs:bZ P w K mg base CX0 2 fSs fdSs pSs (ET CS)) (kss:aq K (.type "str") (.type "str")=some true) (kts:aq K (.type "tuple") (.type "str")=some false) (kil:aq K (.type "int") (.type "list")=some false) (kll:aq K (.type "list") (.type "list")=some true) (B:Bl mg) (TM:MdT K mg CM CS) :
    bZ P w K mg base CX0 39 f fd pAs (Cp CM CD CS bs qs):=by
  refine D.F.ok rS (fun vs H Q E h=>?_) (fun cdv A outer s H vs Q E hr h=>?_)
  · obtain ⟨m,dxm,mm,ml,sl,fs,ms,ms',hv,mv,mv',h,ds,hs,bx,qu,dr,se,rfl,_⟩:=h
    rfl
  obtain ⟨m,dxm,mm,ml,sl,fs,ms,ms',hv,mv,mv',h,ds,hs,bx,qu,dr,se,rfl,hm,hfs,hmm,hmv',hM',hml,hmv,hM,hE,⟨bd,qd,qa,hsl,hb,hq,hl⟩,ok,wt,wa,wb,ld,ndh,dpd,szd,nte,k⟩:=h
  have hu:=jZ hr
  have r2:eN 2 _:=hr.mono (by decide)
  have r3:eN 3 _:=hr.mono (by decide)
  have r19:eN 19 _:=hr.mono (by decide)
  refine ⟨_,ah (bF (i:=4) rS.nd rfl (Or.inl rfl) jn)
    (ah (qf (fq cj rfl (tU (aP bT (pv 2) ag (fun _ _=>rfl))) (cP (i:=5) rS.nd rfl (Or.inl rfl)) (au (gu hu (pv 4) (pv 5) (hV jl (by rfl) B.list boot_list (ig (gs hu (aP bT (pv 2) ag (fun _ _=>rfl)) (pv 5) (fun _ _=>rfl)) ak)) rfl))))
    (ah (bF (i:=6) rS.nd rfl (Or.inl rfl) (pZ MS GSI r2 (by rfl) TM.mS bSI .nil bR (iU (qG iX lN uc uX (aP bT (pv 2) ag (fun _ _=>rfl))) (aT (pv 4) (ig (aP bT (pv 2) ag (fun _ _=>rfl)) (ig (aP bT (pv 2) ag (fun _ _=>rfl)) ak))))))
    (ah (bF (i:=7) rS.nd rfl (Or.inl rfl) (aN GL r19 (by rfl) DL.m DL.F.kp DL.b .nil bR (aT (pv 1) (aT (pv 2) (aT (pv 3) ak)))))
    (ah (fq cj rfl (iV (by rfl) B.range (cX ag ak)) (cP (i:=8) rS.nd rfl (Or.inl rfl)) (ah (bF (i:=9) rS.nd rfl (Or.inl rfl) (aN GTo hr (by rfl) DTo.m DTo.F.kp DTo.b .nil bR (aT (pv 0) (aT (pv 6) (aT (pv 3) ak)))))
    (ah (cK ((kH (ik (fo (aN GRg r3 (by rfl) DRg.m DRg.F.kp DRg.b .nil bR (aT (pv 9) (aT (pv 7) ak))))) (j8 (ik (fo (aN GSs r2 (by rfl) DSs.m DSs.F.kp DSs.b .nil bR (aT (pv 6) (aT (pv 2) ak))))))).pt) (au (bD j7)) bH)
    (au (cK (ik (fo (cu dO (by rfl) B.isi eF (aw (pv 9) (aT (fG (v:=.ty "str") (by rfl) B.str boot_str rfl) ak))))) (ah (fq cj rfl (fj (aP bC (aP bC (pv 9) ag (fun _ _=>rfl)) ag (fun _ _=>rfl))) (nV rfl (eX (cP (i:=5) rS.nd rfl (Or.inl rfl)) (eX (cP (i:=10) rS.nd rfl (Or.inl rfl)) kI))) (au (cK (fo (cu dO (by rfl) B.isi eF (aw (pv 10) (aT (fG (v:=.ty "list") (by rfl) B.list boot_list rfl) ak)))) (au (dv (ia aW bA bB dR (pv 10) (cX ag ak)))) bH)))
    (ah (cK (ik (fo (aN GSs r2 (by rfl) DSs.m DSs.F.kp DSs.b .nil bR (ig (aP bC (pv 9) ag (fun _ _=>rfl)) (ig (aP bC (pv 7) ag (fun _ _=>rfl)) ak))))) (au (bD j7)) bH)
    (ah (dv (ia aW bA bB dR (aP bC (aP bC (pv 9) ag (fun _ _=>rfl)) ag (fun _ _=>rfl)) (qZ (eO (cX bN (cX ag ak))) ak) (hs:=qY)))
    (ah (dv (qG aW PySem.F.slot_list_clear PySem.F.type_list_clear yH (aP bC (aP bC (pv 9) ag (fun _ _=>rfl)) ag (fun _ _=>rfl))))
    (ah (qf (fq cj rfl (tU (cY (aP bC (pv 9) ag (fun _ _=>rfl)) (by rfl))) (cP (i:=5) rS.nd rfl (Or.inl rfl)) (au (dv (ia aW bA bB dR (gs hu (cY (aP bC (pv 9) ag (fun _ _=>rfl)) (by rfl)) (pv 5) (fun _ _=>rfl)) (cX ag ak))))))
    (ah (dv (qG iX sL PySem.F.type_dict_clear yG (cY (aP bC (pv 9) ag (fun _ _=>rfl)) (by rfl))))
    (au (cK (ik (fo (aN GSs r2 (by rfl) DSs.m DSs.F.kp DSs.b .nil bR (aT (pv 6) (aT (pv 2) ak))))) (au (bD j7)) bH)))))))) bH)))))
    (au (bD j7)))))),?_⟩
  have big:=eM
  have ndq:(qu.map (·.1)).Nodup:=by have z:=ok.nq; rw [<- ok.kq] at z; exact z
  have lqu:qu.length < 100:=by
    have z:=ok.fw
    have e:=congrArg gF ok.kq
    rw [ai] at e
    rw [ay] at z
    have e2:qu.length=qs.length:=e
    omega
  -- the queues' lists, copied
  refine aO (cN ?_)
  intro d hd
  refine aZ ?_
  dsimp only
  have s1:cF H (upd H d (.dK [])):=aM hd _
  have nf:∀ (ob:Obj) (u:HO),H qd≠some (.frz ob u):=fun ob u z=>by
    rw [hq] at z
    cases z
  have ndd:d≠qd:=(aJ hq hd).symm
  have nsq:sl≠qd:=gJ hsl hq (by intro z; cases z)
  have nlq:(qa.map (·.1)).Nodup:=by
    rw [hl.nm]
    exact ndq
  refine aO ?_
  refine ⟨_,rfl,sl,_,_,_,rfl,rfl,SqL.of (s1 _ _ hsl),rfl,qd,_,rfl,s1 _ _ hq,nf,fun od=>?_⟩
  refine qS (d:=qd) (od:=od) (kvs:=quK qa) (fun i σ G=>∃ (v5:Option V) (qa':List (Str×ae)),σ=[some (.ref m),some (.ref ml),some (.ref sl),some hv,some (.ref d),v5,none,none,none,none,none]/\G qd=some (.frz od (.dK (quK qa)))/\(∀ b o,H b=some o->b≠qd->G b=some o)/\G d=some (.dK (quK qa')) /\
    eu G qa' (qu.take i)/\∀ a∈qa'.map (·.2),H a=none/\a≠d) ⟨none,[],rfl,ao,fun b o e n=>?_,?_,?_,fun a h=>by cases h⟩ ?_ ?_ ?_
  · rw [aY n]
    exact s1 _ _ e
  · rw [aY ndd]
    exact ao
  · rw [eK]
    exact .nil
  · rintro i σ G _ ⟨_,_,_,h1,_⟩
    exact h1
  · rintro i kv σ G hi ⟨v5,qa',rfl,g1,g2,g3,g4,g6⟩
    obtain ⟨p,hp,rfl⟩:∃ p,qa[i]?=some p/\kv=((Sum.inr p.1:Key),V.ref p.2):=by
      unfold quK at hi
      rw [dk] at hi
      cases z:qa[i]? with
      | none =>
        rw [z] at hi
        cases hi
      | some p =>
        rw [z] at hi
        cases hi
        exact ⟨p,rfl,rfl⟩
    obtain ⟨q,hq1,hq2,hq3⟩:=hl.nth hp
    have npq:p.2≠qd:=gJ hq3 hq (by intro z; cases z)
    have lkp:qa.lookup p.1=some p.2:=oK nlq hp
    have dg:kd G qd (.str p.1) (some (.ref p.2)):=.inl ⟨quK qa,Sum.inr p.1,.inr ⟨od,g1⟩,rfl,(oa lkp).symm⟩
    refine aZ ?_
    dsimp only
    refine ⟨_,rfl,sl,_,_,_,rfl,rfl,SqL.of (g2 _ _ hsl nsq),rfl,_,rfl,qd,_,rfl,dg,p.2,_,rfl,.inl (SqL.of (g2 _ _ hq3 npq)),fun l hl'=>?_⟩
    have sl_:=aM hl' (.lst (q.2.map V.int))
    have gd2:=sl_ _ _ g3
    have lti:i < qu.length:=(aL.mp hq1).1
    have tk:(qu.take (i + 1))=qu.take i++[q]:=take_snoc hq1
    have nin:p.1∉qa'.map (·.1):=by
      rw [g4.nm,hq2]
      exact rn ndq hq1
    have len':(quK qa').length < aE:=by
      have z:=g4.len
      rw [cT] at z
      rw [kQ]
      omega
    have dp:=kY.k (k:=Sum.inr p.1) (v:=.ref l) gd2 len'
    rw [oF nin] at dp
    refine ⟨_,rfl,_,rfl,d,_,rfl,dp,?_⟩
    have nlG:G l=none:=hl'
    have nl0:H l=none:=by
      cases z:H l with
      | none=>rfl
      | some o =>
        by_cases c:l=qd
        · rw [c,g1] at nlG
          cases nlG
        · rw [g2 _ _ z c] at nlG
          cases nlG
    have nld:l≠d:=fun z=>by rw [z,g3] at nlG; cases nlG
    refine ⟨_,qa'++[(p.1,l)],rfl,?_,fun b o e n=>?_,ao,?_,fun a ha=>?_⟩
    · rw [aY ndd.symm]
      exact sl_ _ _ g1
    · rw [aY (aJ e hd)]
      exact sl_ _ _ (g2 _ _ e n)
    · rw [tk]
      have old:eu (upd (upd G l (.lst (q.2.map V.int))) d (.dK (quK (qa'++[(p.1,l)])))) qa' (qu.take i):=
        eu.keep (L:=⟨0,0,0,0,0,0,0,0,0,0,.non,.non,qa'⟩) (fun a u e m=>aR (sl_ _ _ e) (g6 a m).2) (fun _ h=>h) g4
      exact dB old ⟨hq2,aR ao nld⟩
    · rw [aV] at ha
      rcases cE.mp ha with z | z
      · exact g6 a z
      · rw [aQ.mp z]
        exact ⟨nl0,nld⟩
  rintro σ G ⟨v5,qa',rfl,g1,g2,g3,g4,g6⟩
  rw [kQ,hl.len,cM] at g4
  refine ⟨qd,od,_,g1,nf,?_⟩
  have sH:cF H (upd G qd (.dK (quK qa))):=fun b o e=>by
    by_cases c:b=qd
    · rw [c,ao]
      rw [c,hq] at e
      exact e
    · rw [aY c]
      exact g2 _ _ e c
  have g3':upd G qd (.dK (quK qa)) d=some (.dK (quK qa')):=aR g3 ndd
  have g4':eu (upd G qd (.dK (quK qa))) qa' qu:=
    eu.keep (L:=⟨0,0,0,0,0,0,0,0,0,0,.non,.non,qa'⟩) (fun a u e m=>aR e (aJ hq (g6 a m).1).symm) (fun _ h=>h) g4
  generalize upd G qd (.dK (quK qa))=G2 at sH g3' g4'
  clear g1 g2 g3 g4 g6 s1 ndd od
  dsimp only
  -- the state that is handed in
  refine aO (cN ?_)
  refine ⟨_,rfl,sl,_,_,_,rfl,rfl,SqL.of (sH _ _ hsl),rfl,.inr (.inr (.inl ⟨rfl,.inl ⟨_,sH _ _ hb⟩⟩)),bd,_,rfl,rfl,sH _ _ hb,fun b2 hb2=>?_⟩
  have s3:=aM hb2 (.dK (boK bx))
  have sH3:=sH.trans s3
  have hb3:upd G2 b2 (.dK (boK bx)) b2=some (.dK (boK bx)):=ao
  have g35:=s3 _ _ g3'
  have g45:=g4'.same s3
  generalize upd G2 b2 (.dK (boK bx))=G3 at sH3 hb3 g35 g45
  refine ⟨_,rfl,_,rfl,sl,_,_,_,rfl,rfl,SqL.of (sH3 _ _ hsl),rfl,_,rfl,sl,_,_,_,rfl,rfl,SqL.of (sH3 _ _ hsl),rfl,fun st dxs nst ndst nest=>?_⟩
  refine ⟨st,dxs,_,_,_,_,rfl,ao,fun F0 hst0 bt=>⟨rfl,?_⟩⟩
  have s34:cF G3 F0:=fun b o e2=>by
    have cx:b≠st:=aJ e2 nst
    refine bt b o ?_ cx
    rw [aY cx,aY (aJ e2 ndst)]
    exact e2
  have hSt0:qV CS F0 st bx qu dr se:=⟨dxs,b2,d,qa',hst0,s34 _ _ hb3,s34 _ _ g35,g45.same s34⟩
  have sF0:=sH3.trans s34
  refine aZ ?_
  dsimp only
  have hSl:lu H sl bx qu dr se:=⟨bd,qd,qa,hsl,hb,hq,hl⟩
  clear g35 g45 g3' g4' s3 s34 hb3 hst0 bt hb2 nst ndst nest sH sH3 hsl hb hq hl nf nsq nlq hd
  obtain ⟨th,kh,rfl,hth,hkh⟩:=id hE
  -- what is due
  refine aO (cN ?_)
  refine ⟨_,rfl,_,rfl,_,rfl,ml,sl,ms,.ref th,mv,h,ds,hs,bx,qu,dr,se,rfl,sF0 _ _ hml,hE.same sF0,hmv,hM.same sF0,hSl.same sF0,ok,wt,wa,wb,ld,ndh,szd,nte,?_⟩
  cases ew:doS h ds (iT hs h.sg) (w0 bx qu dr se) with
  | error er =>
    intro F1 sF1
    refine aZ ?_
    dsimp only
    refine aO ?_
    refine ⟨2,rfl,by decide,by decide,iW (n:=2) (fun i σ G=>∃ (u5 u8 u9 u10:Option V),σ=[some (.ref m),some (.ref ml),some (.ref sl),some (.ref th),some (.ref d),u5,some (.ref st),some (.str (kS er)),u8,u9,u10]/\cF F1 G)
      ⟨_,_,_,_,rfl,cF.refl _⟩ ?_ ?_⟩
    · rintro i σ G hi ⟨u5,u8,u9,u10,rfl,sG⟩
      have s01:=sF1.trans sG
      refine aZ ?_
      dsimp only
      refine aO (cN ?_)
      have sHG:=sF0.trans s01
      refine ⟨_,rfl,_,rfl,_,rfl,m,dxm,mm,st,fs,ms',.ref th,mv',h,ds,hs,bx,qu,dr,se,rfl,sHG _ _ hm,hfs,sHG _ _ hmm,hE.same sHG,hmv',hM'.same sHG,hSt0.same s01,ok,wt,wa,wb,dpd,by omega,?_⟩
      rw [ew]
      intro G1 sG1
      refine aZ ?_
      dsimp only
      refine aO ?_
      refine iw (c:=false) (fun R r=>?_) (fun c=>by cases c) (fun _=>cS ?_)
      · refine ⟨_,rfl,_,rfl,.inl ⟨_,rfl,_,rfl,?_⟩⟩
        refine dY ?_
        refine ⟨_,rfl,_,rfl,st,sl,bx,qu,dr,se,rfl,hSt0.same (s01.trans sG1),hSl.same (sF0.trans (s01.trans sG1)),_,rfl,?_⟩
        exact r
      dsimp only
      refine ⟨_,rfl,.str (kS er),"str",.type "str",true,rfl,.str _,kss,_,rfl,?_⟩
      refine dY (cS ?_)
      exact ⟨_,_,_,_,rfl,sG.trans sG1⟩
    · rintro σ G ⟨u5,u8,u9,u10,rfl,sG⟩
      exact k G ((sF0.trans sF1).trans sG)
  | ok w' =>
    intro F1 t l rc L1
    have sF1:=L1.sm
    refine aZ ?_
    dsimp only
    refine aO ?_
    refine ⟨2,rfl,by decide,by decide,iW (n:=2) (fun i σ G=>∃ (u5 u8 u9 u10:Option V),σ=[some (.ref m),some (.ref ml),some (.ref sl),some (.ref th),some (.ref d),u5,some (.ref st),some (.ref t),u8,u9,u10]/\cF F1 G)
      ⟨_,_,_,_,rfl,cF.refl _⟩ ?_ ?_⟩
    · rintro i σ G hi ⟨u5,u8,u9,u10,rfl,sG⟩
      have s01:=sF1.trans sG
      refine aZ ?_
      dsimp only
      refine aO (cN ?_)
      have sHG:=sF0.trans s01
      refine ⟨_,rfl,_,rfl,_,rfl,m,dxm,mm,st,fs,ms',.ref th,mv',h,ds,hs,bx,qu,dr,se,rfl,sHG _ _ hm,hfs,sHG _ _ hmm,hE.same sHG,hmv',hM'.same sHG,hSt0.same s01,ok,wt,wa,wb,dpd,by omega,?_⟩
      rw [ew]
      intro G1 L t' rc' wl ws1 ws2 qz dn
      refine aZ ?_
      dsimp only
      have sG1:=dn.sm
      obtain ⟨H0,s0,g⟩:=dn.dg
      obtain ⟨kr,hrc,_⟩:=dn.hrc
      obtain ⟨ov,ho1,_⟩:=g.ho
      have N:=Lay.ne g.nd
      have nd2:=dn.nd
      have fw:=g.ok.fw
      rw [ay] at fw
      have freL:∀ a∈L.all,G a=none:=fun a ha=>none_of s0 (g.fr a ha)
      have outL:∀ a∈L.all,a∉wl :: qz.map (·.2):=fun a ha hb=>(ez.mp nd2).2.2 a ha a hb rfl
      have freW:=dn.wr.fr
      have ndW:=cI.mp dn.wr.nd
      have zl:∀ a∈qz.map (·.2),∃ xs:List Int,G1 a=some (.lst (xs.map V.int))/\xs.length<=30:=fun a ha=>by
        obtain ⟨pp,hpp,e⟩:=cG.mp ha
        obtain ⟨j,hj⟩:=dh hpp
        obtain ⟨q,hq1,_,hq3⟩:=dn.wr.l.nth hj
        refine ⟨q.2,by rw [<- e]; exact hq3,?_⟩
        have mq:=cy hq1
        unfold wrQ at mq
        obtain ⟨x,hx,e2⟩:=cG.mp mq
        rw [<- e2]
        exact (lO g.ok (rB.mp hx).1).1
      have ntz:∀ {b:ae} {xs:List V},G1 b=some (.tup xs)->b∉qz.map (·.2):=fun {b xs} e m=>by
        obtain ⟨ys,y,_⟩:=zl b m
        rw [e] at y
        cases y
      have ht1:=sG1 _ _ (sG _ _ L1.ht)
      refine aO ?_
      refine iw (c:=false) (fun R r=>?_) (fun c=>by cases c) (fun _=>cS ?_)
      · refine ⟨_,rfl,_,rfl,.inr ⟨t',t,L.st,l,rc',rc,w'.en,w'.bx,w'.qu,w'.dr,w'.se,⟨h,wrB bs w',wrQ qs w',w'.out⟩,rfl,dn.ht,ht1,⟨L.dxs,L.bd,L.qd,L.qa,g.hst,g.hb,g.hq,g.hl⟩,L1.hl.same (sG.trans sG1),dn.rc,L1.hrc.same (sG.trans sG1),_,rfl,?_⟩⟩
        refine dY ?_
        refine ⟨_,rfl,_,rfl,st,sl,bx,qu,dr,se,rfl,hSt0.same (s01.trans sG1),hSl.same (sF0.trans (s01.trans sG1)),_,rfl,?_⟩
        exact r
      dsimp only
      refine ⟨_,rfl,.ref t',"str",.type "tuple",false,rfl,.tup dn.ht,kts,_,rfl,?_⟩
      refine eC ?_
      -- the record's lists are changed
      have lz:(ws1++ws2).length<=200:=by
        have a1:=bL dn.wr.b
        have a2:=bL dn.wr.q
        have a3:=dn.wr.l.len
        have b1:(wrB bs w').length<=bs.length:=by
          unfold wrB
          rw [ai]
          exact ei _ _
        have b2:(wrQ qs w').length<=qs.length:=by
          unfold wrQ
          rw [ai]
          exact ei _ _
        rw [ay]
        omega
      have nwl:wl∉qz.map (·.2):=ndW.1
      refine aO ?_
      refine ⟨_,rfl,t',_,_,_,rfl,rfl,SqT.of dn.ht,rfl,rc',_,_,_,rfl,rfl,SqT.of hrc,rfl,wl,rfl,⟨_,SqL.of dn.wr.hl⟩,fY (K:=K) (a:=wl) (xs:=ws1++ws2) (fun j σ Gx=>∃ (v5 v10:Option V),σ=[some (.ref m),some (.ref ml),some (.ref sl),some (.ref th),some (.ref d),v5,some (.ref st),some (.ref t),some (.int (0 + i)),some (.ref t'),v10]/\(∀ b o,G1 b=some o->b∉qz.map (·.2)->Gx b=some o)/\∀ a∈qz.map (·.2),∃ xs,Gx a=some (.lst xs)/\xs.length<=30 + j)
        ⟨_,_,rfl,(fun b o e _=>e),(fun a ha=>by
          obtain ⟨xs,y1,y2⟩:=zl a ha
          exact ⟨_,y1,by rw [ai]; omega⟩)⟩ ?_ ?_ ?_⟩
      · rintro j σ Gx _ ⟨_,_,rfl,kx,_⟩
        exact SqL.of (kx _ _ dn.wr.hl nwl)
      · rintro j x σ Gx hj ⟨v5,v10,rfl,kx,lx⟩
        have lj:=(aL.mp hj).1
        have more:∀ a∈qz.map (·.2),∃ xs,Gx a=some (.lst xs)/\xs.length<=30 + (j + 1):=fun a ha=>by
          obtain ⟨xs,y1,y2⟩:=lx a ha
          exact ⟨xs,y1,by omega⟩
        rcases cE.mp (cy hj) with mx | mx
        · obtain ⟨q,_,tq,rfl,htq⟩:=ku dn.wr.b x mx
          refine ⟨tq,_,rfl,SqT.of (kx _ _ htq (ntz htq)),rfl,_,_,rfl,_,_,rfl,rfl,?_⟩
          dsimp only
          refine ⟨_,rfl,.int q.2,"list",.type "int",false,rfl,.int _,kil,_,rfl,dY (cS ?_)⟩
          exact ⟨_,_,rfl,kx,more⟩
        · obtain ⟨q,hq,tq,rfl,htq⟩:=ku dn.wr.q x mx
          have mq:q.2∈qz.map (·.2):=cG.mpr ⟨q,hq,rfl⟩
          obtain ⟨xs,hxs,lxs⟩:=lx _ mq
          refine ⟨tq,_,rfl,SqT.of (kx _ _ htq (ntz htq)),rfl,_,_,rfl,_,_,rfl,rfl,?_⟩
          dsimp only
          refine ⟨_,rfl,.ref q.2,"list",.type "list",true,rfl,.lst hxs,kll,_,rfl,eC ?_⟩
          refine ⟨_,rfl,.inl ⟨rfl,_,SqL.of hxs⟩,q.2,xs,_,rfl,rfl,hxs,by omega,?_⟩
          refine ⟨_,_,rfl,fun b o e n=>aR (kx b o e n) (fun z=>n (by rw [z]; exact mq)),fun a ha=>?_⟩
          by_cases c:a=q.2
          · rw [c,ao]
            exact ⟨_,rfl,by rw [ay]; show xs.length + 1<=_; omega⟩
          · rw [aY c]
            exact more a ha
      rintro σ G2 ⟨v5,v10,rfl,kx,_⟩
      dsimp only
      have sG2:cF G G2:=fun b o e=>kx _ _ (sG1 _ _ e) fun mz=>by
        rw [freW b (aa _ mz)] at e
        cases e
      have kL:∀ {a:ae} {o:HO},G1 a=some o->a∈L.all->G2 a=some o:=fun {a o} e ma=>kx _ _ e fun mz=>outL a ma (aa _ mz)
      have ht2:=kx _ _ dn.ht (ntz dn.ht)
      have hrc2:=kx _ _ hrc (ntz hrc)
      have hwl2:=kx _ _ dn.wr.hl nwl
      have hst2:=kL g.hst Ak
      have hod2:=kL ho1 xK
      have hb2':=kL g.hb xI
      have hq2':=kL g.hq xJ
      have hl2:eu G2 L.qa w'.qu:=eu.keep (L:=L) (fun a u e mz=>kL e (BF mz)) (fun _ h=>h) g.hl
      have ht2':=sG2 _ _ (sG _ _ L1.ht)
      refine aO ?_
      refine iw (c:=false) (fun R r=>?_) (fun c=>by cases c) (fun _=>cS ?_)
      · refine ⟨_,rfl,t',_,_,_,rfl,rfl,SqT.of ht2,rfl,_,rfl,t,_,_,_,rfl,rfl,SqT.of ht2',rfl,L.st,l,w'.bx,w'.qu,w'.dr,w'.se,rfl,⟨L.dxs,L.bd,L.qd,L.qa,hst2,hb2',hq2',hl2⟩,L1.hl.same (sG.trans sG2),_,rfl,?_⟩
        exact r
      dsimp only
      -- the record's own lists
      refine aO ?_
      refine ⟨_,rfl,t',_,_,_,rfl,rfl,SqT.of ht2,rfl,rc',_,_,_,rfl,rfl,SqT.of hrc2,rfl,.inl ⟨rfl,_,SqL.of hwl2⟩,lt2,fun tx htx=>?_⟩
      have sx:=aM htx (.tup [.str "x",.int 0])
      refine ⟨wl,_,_,rfl,rfl,sx _ _ hwl2,by omega,?_⟩
      have nwL:∀ {a:ae},a∈L.all->a≠wl:=fun {a} ma z=>outL a ma (by rw [z]; exact aA)
      have sG3:=gz (sG2.trans sx) (freW wl aA) (.lst (ws1++ws2++[.ref tx]))
      have ht3:=aR (o':=.lst (ws1++ws2++[.ref tx])) (sx _ _ ht2) (gJ (sx _ _ ht2) (sx _ _ hwl2) (by intro z; cases z))
      have hrc3:=aR (o':=.lst (ws1++ws2++[.ref tx])) (sx _ _ hrc2) (gJ (sx _ _ hrc2) (sx _ _ hwl2) (by intro z; cases z))
      have hst3:=aR (o':=.lst (ws1++ws2++[.ref tx])) (sx _ _ hst2) (nwL Ak)
      have hod3:=aR (o':=.lst (ws1++ws2++[.ref tx])) (sx _ _ hod2) (nwL xK)
      have hb3':=aR (o':=.lst (ws1++ws2++[.ref tx])) (sx _ _ hb2') (nwL xI)
      have hq3':=aR (o':=.lst (ws1++ws2++[.ref tx])) (sx _ _ hq2') (nwL xJ)
      have hl3:eu (upd (upd G2 tx (.tup [.str "x",.int 0])) wl (.lst (ws1++ws2++[.ref tx]))) L.qa w'.qu:=eu.keep (L:=L) (fun a u e mz=>aR (sx _ _ e) (nwL (BF mz))) (fun _ h=>h) hl2
      generalize upd (upd G2 tx (.tup [.str "x",.int 0])) wl (.lst (ws1++ws2++[.ref tx]))=G3 at sG3 ht3 hrc3 hst3 hod3 hb3' hq3' hl3
      dsimp only
      refine aO ?_
      refine ⟨_,rfl,t',_,_,_,rfl,rfl,SqT.of ht3,rfl,rc',_,_,_,rfl,rfl,SqT.of hrc3,rfl,.inl ⟨rfl,_,SqL.of hod3⟩,L.od,_,rfl,rfl,hod3,?_⟩
      have sG4:=gz sG3 (freL _ xK) (.lst [])
      have ht4:=aR (o':=.lst []) ht3 (gJ ht3 hod3 (by intro z; cases z))
      have hst4:=aR (o':=.lst []) hst3 (gJ hst3 hod3 (by intro z; cases z))
      have hb4':=aR (o':=.lst []) hb3' (gJ hb3' hod3 (by intro z; cases z))
      have hq4':=aR (o':=.lst []) hq3' (gJ hq3' hod3 (by intro z; cases z))
      have hl4:eu (upd G3 L.od (.lst [])) L.qa w'.qu:=eu.keep (L:=L) (fun a u e mz=>aR e (N.ol a mz).symm) (fun _ h=>h) hl3
      generalize upd G3 L.od (.lst [])=G4 at sG4 ht4 hst4 hb4' hq4' hl4
      dsimp only
      -- the told state's queues
      have nqz:(L.qa.map (·.1)).Nodup:=by
        rw [hl4.nm,g.ok.kq]
        exact g.ok.nq
      have lqa:L.qa.length < 100:=by
        have e1:=hl4.len
        have e2:=congrArg gF g.ok.kq
        rw [ai] at e2
        omega
      have nfq:∀ (ob:Obj) (u:HO),H L.qd≠some (.frz ob u):=fun ob u z=>by
        have y:=freL _ xJ
        rw [(sF0.trans s01) _ _ z] at y
        cases y
      have l4z:∀ a∈L.qa.map (·.2),∃ xs:List V,G4 a=some (.lst xs)/\xs.length<=30:=fun a ha=>by
        obtain ⟨pp,hpp,e⟩:=cG.mp ha
        obtain ⟨j,hj⟩:=dh hpp
        obtain ⟨q,hq1,_,hq3⟩:=hl4.nth hj
        exact ⟨_,by rw [<- e]; exact hq3,by rw [ai]; exact (g.ok.wq q (cy hq1)).1⟩
      refine aO ?_
      refine ⟨_,rfl,t',_,_,_,rfl,rfl,SqT.of ht4,rfl,L.st,CS,L.dxs,_,_,rfl,hst4,TM.clS,TM.nQ,wM _ _ _ _,L.qd,_,rfl,hq4',nfq,fun od=>?_⟩
      refine qS (d:=L.qd) (od:=od) (kvs:=quK L.qa) (fun j σ Gx=>∃ (v5:Option V),σ=[some (.ref m),some (.ref ml),some (.ref sl),some (.ref th),some (.ref d),v5,some (.ref st),some (.ref t),some (.int (0 + i)),some (.ref t'),v10]/\Gx L.qd=some (.frz od (.dK (quK L.qa)))/\(∀ b o,G4 b=some o->b≠L.qd->b∉L.qa.map (·.2)->Gx b=some o)/\∀ a∈L.qa.map (·.2),∃ xs,Gx a=some (.lst xs)/\xs.length<=30 + j) ⟨_,rfl,ao,fun b o e n _=>aR e n,fun a ha=>?_⟩ ?_ ?_ ?_
      · obtain ⟨xs,y1,y2⟩:=l4z a ha
        exact ⟨xs,aR y1 (gJ y1 hq4' (by intro z; cases z)),by omega⟩
      · rintro j σ Gx _ ⟨_,rfl,h1,_⟩
        exact h1
      · rintro j kv σ Gx hj ⟨v5,rfl,x1,x2,x3⟩
        obtain ⟨p,hp,rfl⟩:∃ p,L.qa[j]?=some p/\kv=((Sum.inr p.1:Key),V.ref p.2):=by
          unfold quK at hj
          rw [dk] at hj
          cases z:L.qa[j]? with
          | none =>
            rw [z] at hj
            cases hj
          | some p =>
            rw [z] at hj
            cases hj
            exact ⟨p,rfl,rfl⟩
        have lj:=(aL.mp hp).1
        have mp:p.2∈L.qa.map (·.2):=cG.mpr ⟨p,cy hp,rfl⟩
        obtain ⟨xs,hxs,lxs⟩:=x3 _ mp
        have lkp:L.qa.lookup p.1=some p.2:=oK nqz hp
        have dg:kd Gx L.qd (.str p.1) (some (.ref p.2)):=.inl ⟨quK L.qa,Sum.inr p.1,.inr ⟨od,x1⟩,rfl,(oa lkp).symm⟩
        have ht5:=x2 _ _ ht4 (gJ ht4 hq4' (by intro z; cases z)) (fun mz=>by
          obtain ⟨ys,y,_⟩:=l4z _ mz
          rw [ht4] at y
          cases y)
        have hst5:=x2 _ _ hst4 (gJ hst4 hq4' (by intro z; cases z)) (fun mz=>by
          obtain ⟨ys,y,_⟩:=l4z _ mz
          rw [hst4] at y
          cases y)
        refine aZ ?_
        dsimp only
        refine ⟨_,rfl,t',_,_,_,rfl,rfl,SqT.of ht5,rfl,L.st,CS,L.dxs,_,_,rfl,hst5,TM.clS,TM.nQ,wM _ _ _ _,_,rfl,L.qd,_,rfl,dg,.inl ⟨rfl,_,SqL.of hxs⟩,p.2,xs,_,rfl,rfl,hxs,by omega,?_⟩
        have npq:L.qd≠p.2:=fun z=>by
          rw [<- z,x1] at hxs
          cases hxs
        refine ⟨_,rfl,aR x1 npq,fun b o e n mz=>aR (x2 b o e n mz) (fun z=>mz (by rw [z]; exact mp)),fun a ha=>?_⟩
        by_cases c:a=p.2
        · rw [c,ao]
          exact ⟨_,rfl,by rw [ay]; show xs.length + 1<=_; omega⟩
        · rw [aY c]
          obtain ⟨ys,y1,y2⟩:=x3 a ha
          exact ⟨ys,y1,by omega⟩
      rintro σ Gx ⟨v5',rfl,x1,x2,x3⟩
      refine ⟨L.qd,od,_,x1,nfq,?_⟩
      have ht5:=x2 _ _ ht4 (gJ ht4 hq4' (by intro z; cases z)) (fun mz=>by
        obtain ⟨ys,y,_⟩:=l4z _ mz
        rw [ht4] at y
        cases y)
      have hst5:=x2 _ _ hst4 (gJ hst4 hq4' (by intro z; cases z)) (fun mz=>by
        obtain ⟨ys,y,_⟩:=l4z _ mz
        rw [hst4] at y
        cases y)
      have hb5':=x2 _ _ hb4' N.bq (fun mz=>by
        obtain ⟨ys,y,_⟩:=l4z _ mz
        rw [hb4'] at y
        cases y)
      have sG5:cF G (upd Gx L.qd (.dK (quK L.qa))):=fun b o e=>by
        have n1:b≠L.qd:=aJ e (freL _ xJ)
        exact aR (x2 _ _ (sG4 _ _ e) n1 fun mz=>by
          rw [freL _ (BF mz)] at e
          cases e) n1
      have ht6:=aR (o':=.dK (quK L.qa)) ht5 (gJ ht4 hq4' (by intro z; cases z))
      have hst6:=aR (o':=.dK (quK L.qa)) hst5 (gJ hst4 hq4' (by intro z; cases z))
      have hb6':=aR (o':=.dK (quK L.qa)) hb5' N.bq
      generalize upd Gx L.qd (.dK (quK L.qa))=G5 at sG5 ht6 hst6 hb6'
      dsimp only
      refine aO ?_
      refine ⟨_,rfl,t',_,_,_,rfl,rfl,SqT.of ht6,rfl,L.st,CS,L.dxs,_,_,rfl,hst6,TM.clS,TM.nB,yK _ _ _ _,.inr (.inr (.inl ⟨rfl,.inl ⟨_,hb6'⟩⟩)),L.bd,_,rfl,rfl,hb6',?_⟩
      have sG6:=gz sG5 (freL _ xI) (.dK [])
      dsimp only
      refine iw (c:=false) (fun R r=>?_) (fun c=>by cases c) (fun _=>cS ?_)
      · refine ⟨_,rfl,_,rfl,st,sl,bx,qu,dr,se,rfl,hSt0.same (s01.trans sG6),hSl.same (sF0.trans (s01.trans sG6)),_,rfl,?_⟩
        exact r
      exact ⟨_,_,_,_,rfl,sG.trans sG6⟩
    · rintro σ G ⟨u5,u8,u9,u10,rfl,sG⟩
      exact k G ((sF0.trans sF1).trans sG)
end
end My
namespace My
open PySem L2
def x9 (K:aj):Sp:=fun vs H Q _=>∃ (a:ae) (ns:List Int),vs=[.ref a]/\SqL K H a (ns.map V.int)/\ns.length<=63/\(∀ x∈ns,eU x<=1048576)/\∀ H',Q (.bl true) H'
theorem nv {α:Type} {R:V->α->Prop}:∀ {xs:List V} {ys:List α} {i:Nat} {y:α},bJ R xs ys->ys[i]?=some y->∃ x,xs[i]?=some x/\R x y
  | _,_,i,y,.nil,h=>by simp at h
  | _ :: _,_ :: _,0,y,.cons a b,h=>by
    simp at h
    subst h
    exact ⟨_,rfl,a⟩
  | _ :: _,_ :: _,i + 1,y,.cons a b,h=>by
    obtain ⟨x,h1,h2⟩:=nv (i:=i) (y:=y) b (by simpa using h)
    exact ⟨x,by simpa using h1,h2⟩
theorem rA {α β:Type} {R:β->α->Prop}:∀ {xs:List β} {ys:List α} {i:Nat} {y:α},bJ R xs ys->ys[i]?=some y->∃ x,xs[i]?=some x/\R x y
  | _,_,i,y,.nil,h=>by simp at h
  | _ :: _,_ :: _,0,y,.cons a b,h=>by
    simp at h
    subst h
    exact ⟨_,rfl,a⟩
  | _ :: _,_ :: _,i + 1,y,.cons a b,h=>by
    obtain ⟨x,h1,h2⟩:=rA (i:=i) (y:=y) b (by simpa using h)
    exact ⟨x,by simpa using h1,h2⟩
theorem Cq {P:Ds->Prop} {hs:List (Str×Ds)} (h:∀ q∈hs,P q.2) (n:P .nil) (sg:Str):P (iT hs sg):=by
  unfold iT
  cases e:hs.lookup sg with
  | none=>exact n
  | some d=>exact h _ (jO e)
theorem wZ {K:aj} {n:Nat} {ti:TE} {g:TG} {tc:L2.TT} {te:TE} {σ:St} {H:Hp} {Q:VK} {a:ae} {xs:List V} (hi:∀ R:VK,R (.ref a) H->ti σ H R) (hx:SqL K H a xs) (Pv:Nat->List V->Hp->Prop) (h0:Pv 0 [] H) (hl:∀ i ys H,i<=xs.length->Pv i ys H->SqL K H a xs/\ys.length < aE)
    (hs:∀ i x ys H,xs[i]?=some x->Pv i ys H->g x (cV n none++σ) H fun σ2 H2=>σ2.drop n=σ/\tc σ2 H2 fun b H3=>if b=true then te σ2 H3 fun y H4=>Pv (i + 1) (ys++[y]) H4 else Pv (i + 1) ys H3)
    (hd:∀ ys H,Pv xs.length ys H->∀ p,H p=none->Q (.ref p) (upd H p (.lst ys))):qM n (w9 K ti) g tc te σ H Q:=
  hi _ ⟨a,rfl,⟨xs,hx⟩,lE Pv h0 hl hs hd⟩
def stirT:TS:=fun D σ H=>∃ (p lm:ae) (ms:List V) (i:Int) (v:V) (M:MD),σ[1]?=some (some (.ref p))/\σ[2]?=some (some (.ref lm))/\σ[5]?=some (some (.int i))/\dD H p/\H lm=some (.lst ms)/\lm≠p/\atI ms i=some v/\rg (Wp p H) v M/\(M.ps.map (·.1)).Nodup/\M.ps.length<=9/\M.qs.Nodup/\M.qs.length<=9/\(∀ q∈M.ps,Wo q.2) /\
  (∀ G,dD G p->But p H G->D.nx σ G)/\(∀ (G:Hp) (sl:ae) (bx:List (Str×Int)) (qu:List (Str×List Int)) (dn:Nat) (se:Int),lu (Nw H G) sl bx qu dn se->bx.map (·.1)=M.ps.map (·.1)->qu.map (·.1)=M.qs->(∀ q∈bx,Wo q.2)->(∀ q∈qu,q.2.length<=30/\∀ n∈q.2,Wo n)->dD G p->But p H G->D.nx (σ.set 13 (some (.ref sl))) G)
section
variable {P:aX} {w:cz} {K:aj} {mg:Str->Option af} {base:cR} {f fP fM fD fMo fF fSr fAs fMI CM CS CD:ae} {fd fdP fdM fdD fdMo fdF fdSr fdAs fdMI:cH}
seal L2.PS L2.PSs L2.PE L2.PA L2.PT L2.PW L2.PI L2.PG L2.PGs L2.PC
abbrev nL0:List Str:=["_law_script","_law_purse_here","_law_machines","_law_model_here","_law_states","_law_at","_law_heard","_law_k","_law_time","_law_key","_law_one","_law_other","_law_happening","_law_state"]
theorem scL:cD nL0 ["_law_script"] (aB sP):=⟨rfl,rfl,rfl,by decide +kernel,rfl,by decide +kernel,by decide +kernel⟩
theorem ndL0:((["_law_sign","_law_deeds_here"]:List Str)++nL0).Nodup:=by decide +kernel
theorem MoI.wk {n:Int} {H:Hp} {v:V} {M:MD} (h:MoI n H v M) {bx:List (Str×Int)} {qu:List (Str×List Int)} {dn:Nat} {se:Int} (e1:bx.map (·.1)=M.ps.map (·.1)) (e2:qu.map (·.1)=M.qs) (w1:∀ q∈bx,Wo q.2) (w2:∀ q∈qu,q.2.length<=30/\∀ n∈q.2,Wo n):nJ M.bs M.qs (w0 bx qu dn se):=by
  have lb:=h.lb
  have lq:=h.lq
  exact ⟨e1.trans h.kb,e2,h.nb,h.nq,w1,w2,nU,(fun x hx=>by cases hx),nU,(fun x hx=>by cases hx),(fun x hx=>by cases hx),by rw [ay]; omega⟩
theorem EV (D:Df K mg "law" sP ["_law_script"] f fd) (DP:Df K mg "_law_purse" jb ["_law_script"] fP fdP) (DM:Df K mg "_law_mixed" il ["_law_cell","_law_k"] fM fdM) (DD:Df K mg "_law_draw" eE ["_law_purse_here","_law_out_of"] fD fdD)
    (DMo:Df K mg "_law_model" iq pMo fMo fdMo) (GMo:bZ P w K mg base CX0 19 fMo fdMo pMo spMo) (DF:Df K mg "_law_first" jd ["_law_machines"] fF fdF) (DSr:Df K mg "_law_stirred" gE pSr fSr fdSr) (DAs:Df K mg "_law_asked" jf pAs fAs fdAs) (GAs0:∀ bs qs,bZ P w K mg base CX0 39 fAs fdAs pAs (Cp CM CD CS bs qs))
    (MM:Mk K CM fMI) (bMI:Binds K fdMI ["self","machines"] []) (GMI:bZ P w K mg base CX0 31 fMI fdMI ["self","machines"] (spMI CM 29)) (B:Bl mg) (TM:MdT K mg CM CS) :
    bZ P w K mg base CX0 40 f fd ["_law_script"] (x9 K):=by
  have GP:bZ P w K mg base CX0 2 fP fdP ["_law_script"] (xy K):=zX DP DM B
  have GD:bZ P w K mg base CX0 1 fD fdD ["_law_purse_here","_law_out_of"] jE:=jH DD
  have GF:bZ P w K mg base CX0 1 fF fdF ["_law_machines"] spFi:=ok_fi DF
  have GSr:bZ P w K mg base CX0 2 fSr fdSr pSr spSr:=ok_sr DSr DD B
  have GAs:bZ P w K mg base CX0 39 fAs fdAs pAs (fun vs H Q E=>∃ bs qs,Cp CM CD CS bs qs vs H Q E):=
    ⟨fun vs H Q E ⟨bs,qs,h⟩=>(GAs0 bs qs).1 vs H Q E h,fun A outer s H args us vs Q E a b c d ⟨bs,qs,h⟩=>(GAs0 bs qs).2 A outer s H args us vs Q E a b c d h⟩
  refine D.F.ok scL (fun vs H Q E h=>?_) (fun cdv A outer s H vs Q E hr h=>?_)
  · obtain ⟨a,ns,rfl,_⟩:=h
    rfl
  obtain ⟨a,ns,rfl,hS,hlen,hbits,k⟩:=h
  have r1:eN 1 _:=hr.mono (by decide)
  have r2:eN 2 _:=hr.mono (by decide)
  have r19:eN 19 _:=hr.mono (by decide)
  have r32:eN 32 _:=hr.mono (by decide)
  refine ⟨_,ah (bF (i:=1) scL.nd rfl (Or.inl rfl) (aN GP r2 (by rfl) DP.m DP.F.kp DP.b .nil bR (aT (pv 0) ak)))
    (ah (bF (i:=2) scL.nd rfl (Or.inl rfl) (aN GMo r19 (by rfl) DMo.m DMo.F.kp DMo.b .nil bR (aT (pv 1) (cX ag ak))))
    (ah (bF (i:=3) scL.nd rfl (Or.inl rfl) (pZ MM GMI r32 (by rfl) TM.mM bMI .nil bR (aT (pv 2) ak)))
    (ah (bF (i:=4) scL.nd rfl (Or.inl rfl) (aN GF r1 (by rfl) DF.m DF.F.kp DF.b .nil bR (aT (pv 2) ak)))
    (ah (fq cj rfl (iV (by rfl) B.range (iU (cu (dS K (by rfl)) (by rfl) B.len cw (aT (pv 2) ak)) ak)) (cP (i:=5) scL.nd rfl (Or.inl rfl)) (ah (bF (i:=6) scL.nd rfl (Or.inl rfl) (cJ vZ (m8 ["_law_sign","_law_deeds_here"] (iP.open (NN:=nL0) (N:=nL0) (sc:=aB sP) rfl rfl (by decide +kernel) rfl (by decide +kernel) (by decide +kernel) rfl (by decide +kernel)) rfl (fj (aP bC (aP bT (pv 2) (pv 5) (fun _ _=>rfl)) ag (fun _ _=>rfl))) (fun _ _ _ _=>xR (n:=2) K (by rfl) rfl (eX (cP (i:=0) ndL0 rfl (Or.inl rfl)) (eX (cP (i:=1) ndL0 rfl (Or.inl rfl)) kI))) (fun _ _ _ _=>m7) (fun _ _ _ _=>pv 0)) (el (cX bN ak))))
    (au (fq cj rfl (iV (by rfl) B.range (cX ag ak)) (cP (i:=7) scL.nd rfl (Or.inl rfl)) (ah (bF (i:=8) scL.nd rfl (Or.inl rfl) (aP bT (el (iU (aN GD r1 (by rfl) DD.m DD.F.kp DD.b .nil bR (aT (pv 1) (cX ag ak))) (kE (cJ iG ag ag) (kE (cJ gK (cJ iG ag ag) (aN GD r1 (by rfl) DD.m DD.F.kp DD.b .nil bR (aT (pv 1) (cX ag ak)))) ak)))) (aN GD r1 (by rfl) DD.m DD.F.kp DD.b .nil bR (aT (pv 1) (cX ag ak))) (fun _ _=>rfl)))
    (ah (bF (i:=9) scL.nd rfl (Or.inl rfl) (eO (aT (pv 8) (iU (aN GD r1 (by rfl) DD.m DD.F.kp DD.b .nil bR (aT (pv 1) (cX ag ak))) (kE (cJ gK (aN GD r1 (by rfl) DD.m DD.F.kp DD.b .nil bR (aT (pv 1) (kE (cJ fZ (cu (dS K (by rfl)) (by rfl) B.len cw (aT (pv 2) ak)) ag) ak))) ag) (iU (aN GD r1 (by rfl) DD.m DD.F.kp DD.b .nil bR (aT (pv 1) (cX ag ak))) ak))))))
    (ah (bF (i:=10) scL.nd rfl (Or.inl rfl) (cJ gK (aN GD r1 (by rfl) DD.m DD.F.kp DD.b .nil bR (aT (pv 1) (cX ag ak))) ag))
    (ah (bF (i:=11) scL.nd rfl (Or.inl rfl) (aP bT (el (cX ag (kE (cJ gK (aN GD r1 (by rfl) DD.m DD.F.kp DD.b .nil bR (aT (pv 1) (kE (cJ fZ (cJ jQ ag (cJ iG ag ag)) ag) ak))) (cJ iG ag ag)) ak))) (aN GD r1 (by rfl) DD.m DD.F.kp DD.b .nil bR (aT (pv 1) (cX ag ak))) (fun _ _=>rfl)))
    (ah (bF (i:=12) scL.nd rfl (Or.inl rfl) (eO (aT (pv 9) (aT (pv 5) (ig (aP bT (pv 6) (aN GD r1 (by rfl) DD.m DD.F.kp DD.b .nil bR (aT (pv 1) (iU (cu (dS K (by rfl)) (by rfl) B.len cw (aT (pv 6) ak)) ak))) (fun _ _=>rfl)) (aT (pv 10) (aT (pv 11) ak)))))))
    (ah (bF (i:=13) scL.nd rfl (Or.inl rfl) (aP bT (pv 4) (pv 5) (fun _ _=>rfl)))
    (ah (wW stirT (cK (bE di (aN GD r1 (by rfl) DD.m DD.F.kp DD.b .nil bR (aT (pv 1) (cX ag ak))) ag (bM _)) (au (bF (i:=13) scL.nd rfl (Or.inl rfl) (aN GSr r2 (by rfl) DSr.m DSr.F.kp DSr.b .nil bR (aT (pv 1) (ig (aP bT (pv 2) (pv 5) (fun _ _=>rfl)) ak))))) bH) (fun D σ H q=>by
      obtain ⟨p,lm,ms,i,v,M,h1,h2,h5,pu,hlm,nlm,hat,hF,ndp,lp,ndq,lq,wps,k1,k2⟩:=q
      refine ⟨_,h1,p,3,rfl,pu,by decide,by decide,fun r G r0 r1' puG bG=>⟨rfl,_,rfl,gH (fun c=>?_) (fun c=>?_)⟩⟩
      · refine ⟨_,h1,_,h2,_,h5,lm,ms,i,v,rfl,rfl,SqL.of (bG _ _ hlm nlm),hat,p,v,M,rfl,puG,hF.same (ly bG),ndp,lp,ndq,lq,wps,fun G' sl bx qu dn se a b c' d e pu' b'=>?_⟩
        exact k2 G' sl bx qu dn se (lu.same (nc (bG.dm' puG)) a) b c' d e pu' (bG.trans b')
      · exact k1 G puG bG))
    (au (cK (ik (fo (aN GAs hr (by rfl) DAs.m DAs.F.kp DAs.b .nil bR (aT (pv 3) (aT (pv 2) (aT (pv 13) (aT (pv 12) ak))))))) (au (bD j7)) bH)))))))))))))
    (au (bD j7)))))),?_⟩
  have big:=eM
  have c15:oX 10 15:=⟨by decide,by decide,by decide⟩
  have c12:oX 10 12:=⟨by decide,by decide,by decide⟩
  have c6:oX 10 6:=⟨by decide,by decide,by decide⟩
  have e15:(10:Int) ^ (15:Int).toNat=1000000000000000:=by decide
  have e12:(10:Int) ^ (12:Int).toNat=1000000000000:=by decide
  have e6:(10:Int) ^ (6:Int).toNat=1000000:=by decide
  refine aO (cN ?_)
  refine ⟨_,rfl,a,ns,rfl,hS,hlen,hbits,fun p H1 _ pu1 _=>?_⟩
  refine aZ ?_
  dsimp only
  refine aO (cN ?_)
  refine ⟨_,rfl,p,3,rfl,pu1,by decide,by decide,fun lm xs Ms G2 flm hlm hMs M0 M3 ndM pu2 b2=>?_⟩
  refine aZ ?_
  dsimp only
  have nlm:=kZ pu1 flm
  have lxs:=bL hMs
  -- the cm
  refine aO (cN ?_)
  refine ⟨_,rfl,fun m dxm hm hdx ndx=>?_⟩
  have sA:cF G2 (upd (upd G2 dxm (.own m)) m (.ins CM dxm [])):=fun b o e=>by
    rw [aY (aJ e hm),aY (aJ e hdx)]
    exact e
  have hMs5:bJ (MIn Ms.length H1 (upd (upd G2 dxm (.own m)) m (.ins CM dxm []))) xs Ms:=Paired.mono (fun v M z=>by
    obtain ⟨t,e,y⟩:=z
    exact ⟨t,e,y.same sA⟩) hMs
  have nm0:upd (upd G2 dxm (.own m)) m (.ins CM dxm []) m≠none:=by rw [ao]; intro z; cases z
  have np0:=(pu2.same sA).some
  refine ⟨m,dxm,.ref lm,rfl,ao,B7 (sA _ _ hlm) hMs5 (by omega),fun v' G3 s3 al=>⟨rfl,?_⟩⟩
  obtain ⟨ml',rfl,hMo⟩:=B8 (sA _ _ hlm) hMs5 al
  have nmp:=kZ pu2 hm
  have hMo4:AJ Ms.length (Wp p (upd G3 m (.ins CM dxm (ej "machines" (.ref ml') [])))) ml' Ms:=hMo.same ((rp nm0).trans (AS np0))
  have s24:cF G2 (upd G3 m (.ins CM dxm (ej "machines" (.ref ml') []))):=gz (sA.trans s3) hm _
  have hm4:upd G3 m (.ins CM dxm (ej "machines" (.ref ml') [])) m=some (.ins CM dxm (ej "machines" (.ref ml') [])):=ao
  refine aZ ?_
  dsimp only
  generalize upd G3 m (.ins CM dxm (ej "machines" (.ref ml') []))=G4 at hMo4 s24 hm4
  clear al s3 hMs5 sA hm hdx ndx nm0 np0 hMo
  have pu4:=pu2.same s24
  have bW:But p G4 (Wp p G4):=fun b o e n=>by rw [oN n]; exact e
  have hMs4:bJ (MIn Ms.length H1 G4) xs Ms:=Paired.mono (fun v M z=>by
    obtain ⟨t,e,y⟩:=z
    exact ⟨t,e,y.same s24⟩) hMs
  have hMw:bJ (MoI Ms.length (Wp p G4)) xs Ms:=Paired.mono (fun v M z=>by
    obtain ⟨t,e,y⟩:=z
    exact MIn.moI (H:=H1) ⟨t,e,y.but pu1 pu4 bW⟩) hMs4
  have lMs:Ms.length<=9:=by omega
  have factsM:∀ M∈Ms,(M.ps.map (·.1)).Nodup/\M.ps.length<=9/\M.qs.Nodup/\M.qs.length<=9:=fun M hM=>by
    obtain ⟨j,hj⟩:=dh hM
    obtain ⟨x,_,z⟩:=nv hMw hj
    have e:=congrArg gF z.kb
    rw [ai] at e
    exact ⟨by rw [z.kb]; exact z.nb,by have:=z.lb; omega,z.nq,z.lq⟩
  -- the first states
  refine aO (cN ?_)
  refine ⟨_,rfl,lm,xs,Ms,rfl,s24 _ _ hlm,Paired.mono (fun v M z=>rg.same iy z.fs) hMw,factsM,lMs,fun G5 ls sls s5 fls hls hSl=>?_⟩
  refine aZ ?_
  dsimp only
  have pu5:=pu4.same s5
  have nls:=kZ pu4 fls
  have a1:Wp p G5 m=some (.ins CM dxm (ej "machines" (.ref ml') [])):=by rw [oN nmp]; exact s5 _ _ hm4
  have a2:=hMo4.same (lQ s5)
  have a3:Wp p G5 lm=some (.lst xs):=by rw [oN nlm]; exact s5 _ _ (s24 _ _ hlm)
  have a4:bJ (MoI Ms.length (Wp p G5)) xs Ms:=Paired.mono (fun _ _ z=>z.same (lQ s5)) hMw
  have a5:Wp p G5 ls=some (.lst (sls.map V.ref)):=by rw [oN nls]; exact hls
  have a6:bJ (fun sl M=>lu (Wp p G5) sl M.ps (noQ M.qs) 0 0) sls Ms:=Paired.mono (fun _ _ z=>lu.same (AS pu4.some) z) hSl
  clear hMs hMs4 hMw hMo4 hm4 hls hSl s5 s24 bW pu2 b2
  have lsl:=bL a6
  -- the machines
  refine aO ?_
  refine ⟨_,rfl,lm,xs,rfl,.inl (SqL.of (iy _ _ a3)),(xs.length:Int),rfl,by omega,by omega,iW (n:=((xs.length:Nat):Int).toNat) (fun i σ G=>∃ (u5 u6 u7 u8 u9 u10 u11 u12 u13:Option V),σ=[some (.ref a),some (.ref p),some (.ref lm),some (.ref m),some (.ref ls),u5,u6,u7,u8,u9,u10,u11,u12,u13]/\dD G p/\cF (Wp p G5) (Wp p G))
    ⟨_,_,_,_,_,_,_,_,_,rfl,pu5,cF.refl _⟩ ?_ ?_⟩
  · rintro i σ G hi ⟨u5,u6,u7,u8,u9,u10,u11,u12,u13,rfl,puG,sG⟩
    have li:i < Ms.length:=by omega
    obtain ⟨M,hM⟩:∃ M,Ms[i]?=some M:=⟨_,cC li⟩
    obtain ⟨v,hv,oM⟩:=nv a4 hM
    obtain ⟨xs',hml',pa2⟩:=a2
    obtain ⟨v',hv',oM'⟩:=nv pa2 hM
    obtain ⟨sl0,hsl0,oS⟩:=rA a6 hM
    have ati:∀ {zs:List V} {z:V},zs[i]?=some z->atI zs (0 + (i:Int))=some z:=fun {zs z} h=>by rw [Int.zero_add]; exact jG h
    have fM:=factsM M (cy hM)
    have wps:∀ q∈M.ps,Wo q.2:=fun q hq=>by
      have:=oM.wb q hq
      unfold Wo
      omega
    refine aZ ?_
    dsimp only
    obtain ⟨t,bl,ql,dl,hl,nm,vb,hvs,rfl,ht,hbl,pb,hql,hdl,hhl,ph⟩:=(oM.ma.same sG).ex
    refine aO (cN ?_)
    refine wZ (K:=K) (a:=hl) (xs:=hvs) (fun R r=>⟨_,rfl,_,rfl,lm,xs,_,_,rfl,rfl,SqL.of (iy _ _ (sG _ _ a3)),ati hv,t,_,_,_,rfl,rfl,SqT.of (iy _ _ ht),rfl,r⟩) (SqL.of (iy _ _ hhl)) (fun j ys G'=>G'=G/\∃ zs:List Str,ys=zs.map V.str/\zs.length=j) ⟨rfl,[],rfl,rfl⟩ ?_ ?_ ?_
    · rintro j ys G' hj ⟨rfl,zs,rfl,lz⟩
      have:=bL ph
      have:=oM.lh
      exact ⟨SqL.of (iy _ _ hhl),by rw [ai]; omega⟩
    · rintro j y ys G' hj ⟨rfl,zs,rfl,lz⟩
      obtain ⟨q,hq,u,dd,rfl,hu,_⟩:=jF ph hj
      refine ⟨u,_,rfl,SqT.of (iy _ _ hu),rfl,_,_,rfl,_,_,rfl,rfl,?_⟩
      refine ⟨rfl,?_⟩
      unfold wy
      refine eC ?_
      exact ⟨_,rfl,rfl,zs++[q.1],by rw [aV]; rfl,by rw [ay,lz]; rfl⟩
    rintro ys G' ⟨rfl,zs,rfl,lz⟩ l1 hl1
    have t1:=aM hl1 (.lst (zs.map V.str))
    refine ⟨Ey,fun l2 hl2=>?_⟩
    have t2:=aM hl2 (.lst [.str "none"])
    have lzs:zs.length<=9:=by
      have:=bL ph
      have:=oM.lh
      omega
    refine ⟨l1,l2,_,_,rfl,rfl,t2 _ _ ao,ao,by rw [ai]; show zs.length + 1<=aE; omega,fun lh hlh=>?_⟩
    have t3:=aM hlh (.lst (zs.map V.str++[.str "none"]))
    have nlh:=kZ ((puG.same t1).same t2) hlh
    have hh1:upd (upd (upd G' l1 (.lst (zs.map V.str))) l2 (.lst [.str "none"])) lh (.lst (zs.map V.str++[.str "none"])) lh=some (.lst ((zs++(["none"]:List Str)).map V.str)):=by rw [aV]; exact ao
    have pu6:=((puG.same t1).same t2).same t3
    have s56:=sG.trans (lQ (p:=p) ((t1.trans t2).trans t3))
    refine aZ ?_
    dsimp only
    generalize upd (upd (upd G' l1 (.lst (zs.map V.str))) l2 (.lst [.str "none"])) lh (.lst (zs.map V.str++[.str "none"]))=G6 at hh1 pu6 s56
    clear t1 t2 t3 hl1 hl2 hlh ht hbl pb hql hdl hhl ph sG puG
    have hh6:Wp p G6 lh=some (.lst ((zs++(["none"]:List Str)).map V.str)):=by rw [oN nlh]; exact hh1
    generalize hss:zs++(["none"]:List Str)=ss at hh6 hh1
    have lss:0 < ss.length/\ss.length<=10:=by rw [<- hss,ay]; exact ⟨mX _,by show zs.length + 1<=10; omega⟩
    clear hss hh1
    refine ⟨3,rfl,by decide,by decide,iW (n:=3) (fun j σ G=>∃ (u7 u8 u9 u10 u11 u12 u13:Option V),σ=[some (.ref a),some (.ref p),some (.ref lm),some (.ref m),some (.ref ls),some (.int (0 + i)),some (.ref lh),u7,u8,u9,u10,u11,u12,u13]/\dD G p/\cF (Wp p G6) (Wp p G))
      ⟨_,_,_,_,_,_,_,rfl,pu6,cF.refl _⟩ ?_ ?_⟩
    · rintro j σ G hj ⟨u7,u8,u9,u10,u11,u12,u13,rfl,puG,sG⟩
      refine aZ ?_
      dsimp only
      -- the time
      refine aO (cN ?_)
      refine ⟨_,rfl,p,9,rfl,puG,by decide,by decide,fun ra Ga ra0 ra1 pua ba=>⟨_,_,rfl,rfl,c6,_,_,rfl,rfl,c12,_,rfl,p,4,rfl,pua,by decide,by decide,fun rb Gb rb0 rb1 pub bb=>⟨_,_,rfl,rfl,(by show 3<=aE; decide),fun l3 hl3=>?_⟩⟩⟩
      have t1:=aM hl3 (.lst ([ra,(10:Int) ^ (6:Int).toNat,(10:Int) ^ (12:Int).toNat - rb].map V.int))
      have n3:=kZ pub hl3
      refine ⟨_,rfl,p,3,rfl,pub.same t1,by decide,by decide,fun rc Gc rc0 rc1 puc bc=>?_⟩
      obtain ⟨tt,htt,wtt⟩:∃ x:Int,atI ([ra,(10:Int) ^ (6:Int).toNat,(10:Int) ^ (12:Int).toNat - rb].map V.int) rc=some (.int x)/\Wo x:=by
        have hr:rc=0\/rc=1\/rc=2:=by omega
        rcases hr with rfl | rfl | rfl
        · exact ⟨_,rfl,by unfold Wo; omega⟩
        · exact ⟨_,rfl,by unfold Wo; decide⟩
        · refine ⟨_,rfl,?_⟩
          unfold Wo
          rw [e12]
          omega
      refine ⟨l3,_,_,_,rfl,rfl,SqL.of (bc _ _ ao n3),htt,?_⟩
      refine aZ ?_
      dsimp only
      have s1:cF (Wp p G6) (Wp p Gc):=sG.trans (ly (((ba.trans bb).same t1).trans bc))
      clear ba bb bc t1 n3 hl3 htt pub pua puG sG
      -- the key
      refine aO (cN ?_)
      refine ⟨_,rfl,_,rfl,p,10,rfl,puc,by decide,by decide,fun kr Gd kr0 kr1 pud bd_=>?_⟩
      have sd:=s1.trans (ly bd_)
      refine ⟨_,rfl,_,rfl,lm,xs,rfl,.inl (SqL.of (iy _ _ (sd _ _ (s56 _ _ a3)))),_,_,rfl,rfl,p,(xs.length:Int) + 1,rfl,pud,by omega,by omega,fun kf Ge kf0 kf1 pue be=>⟨_,_,rfl,rfl,_,rfl,p,9,rfl,pue,by decide,by decide,fun kc Gf kc0 kc1 puf bf=>⟨(by show 4<=aE; decide),fun kh hkh=>?_⟩⟩⟩
      have t1:=aM hkh (.tup [.int tt,.int kr,.int (kf - 1),.int kc])
      have nkh:=kZ puf hkh
      refine aZ ?_
      dsimp only
      have sg:cF (Wp p G6) (Wp p (upd Gf kh (.tup [.int tt,.int kr,.int (kf - 1),.int kc]))):=sd.trans (ly ((be.trans bf).same t1))
      have hkh7:Wp p (upd Gf kh (.tup [.int tt,.int kr,.int (kf - 1),.int kc])) kh=some (.tup [.int tt,.int kr,.int (kf - 1),.int kc]):=by rw [oN nkh]; exact ao
      have pug:=puf.same t1
      generalize upd Gf kh (.tup [.int tt,.int kr,.int (kf - 1),.int kc])=Gg at sg hkh7 pug
      clear t1 hkh be bf sd bd_ s1 pue puf pud puc
      -- what comes with it
      refine aO (cN ?_)
      refine ⟨_,rfl,p,9,rfl,pug,by decide,by decide,fun ga Gh ga0 ga1 puh bh=>⟨_,_,rfl,rfl,?_⟩⟩
      refine aZ ?_
      dsimp only
      refine aO (cN ?_)
      refine ⟨_,rfl,_,_,rfl,rfl,c15,_,_,rfl,rfl,.inl ⟨by decide,by decide⟩,_,_,rfl,rfl,p,_,rfl,puh,by decide,by decide,fun gb Gi gb0 gb1 pui bi=>⟨_,_,rfl,rfl,c15,_,_,rfl,rfl,lt2,fun l4 hl4=>?_⟩⟩
      have t1:=aM hl4 (.lst ([0,gb - (10:Int) ^ (15:Int).toNat].map V.int))
      have n4:=kZ pui hl4
      refine ⟨_,rfl,p,2,rfl,pui.same t1,by decide,by decide,fun rd Gj rd0 rd1 puj bj=>?_⟩
      obtain ⟨gh,hgh,wgh⟩:∃ x:Int,atI ([0,gb - (10:Int) ^ (15:Int).toNat].map V.int) rd=some (.int x)/\Wo x:=by
        have hr:rd=0\/rd=1:=by omega
        rcases hr with rfl | rfl
        · exact ⟨_,rfl,by unfold Wo; decide⟩
        · refine ⟨_,rfl,?_⟩
          unfold Wo
          rw [e15] at *
          omega
      refine ⟨l4,_,_,_,rfl,rfl,SqL.of (bj _ _ ao n4),hgh,?_⟩
      refine aZ ?_
      dsimp only
      have sj:cF (Wp p Gg) (Wp p Gj):=ly ((bh.trans (bi.same t1)).trans bj)
      clear t1 n4 hl4 hgh bh bi bj pui puh
      -- the happening
      refine aO (cN ?_)
      have sGj:=sg.trans sj
      refine ⟨_,rfl,_,rfl,_,rfl,_,rfl,_,rfl,lh,_,rfl,.inl (SqL.of (iy _ _ (sGj _ _ hh6))),p,((ss.map V.str).length:Int),rfl,puj,by rw [ai]; omega,by rw [ai]; omega,fun re Gk re0 re1 puk bk=>?_⟩
      rw [ai] at re1
      obtain ⟨sg0,hsg0⟩:=B6 re0 re1
      have sk:=sGj.trans (ly bk)
      refine ⟨lh,_,_,_,rfl,rfl,SqL.of (iy _ _ (sk _ _ hh6)),hsg0,_,rfl,_,rfl,(by show 5<=aE; decide),fun th hth=>?_⟩
      have t1:=aM hth (.tup [.ref kh,.int (0 + i),.str sg0,.int (ga - 4),.int gh])
      have nth:=kZ puk hth
      have hth8:Wp p (upd Gk th (.tup [.ref kh,.int (0 + i),.str sg0,.int (ga - 4),.int gh])) th=some (.tup [.ref kh,.int (0 + i),.str sg0,.int (ga - 4),.int gh]):=by rw [oN nth]; exact ao
      have hkh8:Wp p (upd Gk th (.tup [.ref kh,.int (0 + i),.str sg0,.int (ga - 4),.int gh])) kh=some (.tup [.int tt,.int kr,.int (kf - 1),.int kc]):=lQ t1 _ _ (ly bk _ _ (sj _ _ hkh7))
      have s8:=sk.trans (lQ (p:=p) t1)
      have pul:=puk.same t1
      refine aZ ?_
      dsimp only
      generalize upd Gk th (.tup [.ref kh,.int (0 + i),.str sg0,.int (ga - 4),.int gh])=Gl at hth8 hkh8 s8 pul
      clear t1 hth sk bk sGj sj sg puj puk hkh7
      -- the state
      refine aO (cN ?_)
      have s58:=s56.trans s8
      have hsl1:(sls.map V.ref)[i]?=some (.ref sl0):=by rw [dk,hsl0]; rfl
      refine ⟨_,rfl,_,rfl,ls,_,_,_,rfl,rfl,SqL.of (iy _ _ (s58 _ _ a5)),ati hsl1,?_⟩
      refine aZ ?_
      dsimp only
      have hE:kD (Wp p Gl) (.ref th) ⟨tt,kr,kf - 1,kc,0 + i,sg0,ga - 4,gh⟩:=⟨th,kh,rfl,hth8,hkh8⟩
      have wga:Wo (ga - 4):=by unfold Wo; omega
      have nend:("the end":Str)∉M.bs++M.qs:=fun z=>absurd (oM.ne _ z) (by decide +kernel)
      have dso:=Cq (P:=fun d=>d.deep < 5/\d.size < 10000) (hs:=M.hs) (fun q hq=>by
        obtain ⟨_,d4,z4⟩:=oM.hk q hq
        have e4:3 * ddz 4=4665:=by decide
        exact ⟨by omega,by omega⟩) ⟨by show 0 < 5; decide,by show 0 < 10000; decide⟩ sg0
      have lds:=oM.ld
      have lkm:(ej "machines" (.ref ml') []:List (Str×V)).lookup ("machines":Str)=some (.ref ml'):=by rw [mJ,if_pos rfl]
      have askI:∀ {G:Hp} {sl:ae} {bx:List (Str×Int)} {qu:List (Str×List Int)} {dn:Nat} {se:Int},cF (Wp p Gl) (Wp p G)->lu (Wp p G) sl bx qu dn se->nJ M.bs M.qs (w0 bx qu dn se)->∀ {Q':VK} {E':XK},(∀ G',cF G G'->Q' (.bl true) G')->Cp CM CD CS M.bs M.qs [.ref m,.ref lm,.ref sl,.ref th] G Q' E':=fun {G sl bx qu dn se} sx hs wk {Q' E'} q=>by
        have sy:=s58.trans sx
        exact ⟨m,dxm,ml',lm,sl,_,xs,xs',.ref th,.ref t,v',⟨tt,kr,kf - 1,kc,0 + i,sg0,ga - 4,gh⟩,M.ds,M.hs,bx,qu,dn,se,rfl,iy _ _ (sy _ _ a1),lkm,iy _ _ (sy _ _ hml'),ati hv',(oM'.ma.same sy).same iy,iy _ _ (sy _ _ a3),ati hv,(oM.ma.same sy).same iy,(hE.same sx).same iy,hs.same iy,wk,wtt,wga,wgh,by omega,oM.nh,dso.1,dso.2,nend,q⟩
      refine aO ?_
      refine ⟨p,lm,xs,0 + (i:Int),.ref t,M,rfl,rfl,rfl,pul,iy _ _ (s58 _ _ a3),nlm,ati hv,oM.fs.same s58,fM.1,fM.2.1,fM.2.2.1,fM.2.2.2,wps,fun G puG bG=>?_,fun G sl bx qu dn se hsl e1 e2 w1 w2 puG bG=>?_⟩
      · have sx:=ly bG
        have hs:=lu.same (s58.trans sx) oS
        have wk:=oM.wk (dn:=0) (se:=0) (rfl:M.ps.map (·.1)=M.ps.map (·.1)) (wX M.qs) wps (fun q hq=>by
          unfold noQ at hq
          obtain ⟨x,_,rfl⟩:=cG.mp hq
          exact ⟨bV _,fun n hn=>by cases hn⟩)
        refine ⟨_,rfl,_,rfl,_,rfl,_,rfl,M.bs,M.qs,askI sx hs wk fun G' s9=>?_⟩
        refine ⟨_,rfl,?_⟩
        refine dY (cS ?_)
        exact ⟨_,_,_,_,_,_,_,rfl,puG.same s9,s8.trans (sx.trans (lQ s9))⟩
      · have sx:=ly bG
        have hs:=lu.same (AS pul.some) hsl
        have wk:=oM.wk (dn:=dn) (se:=se) e1 e2 w1 w2
        refine ⟨_,rfl,_,rfl,_,rfl,_,rfl,M.bs,M.qs,askI sx hs wk fun G' s9=>?_⟩
        refine ⟨_,rfl,?_⟩
        refine dY (cS ?_)
        exact ⟨_,_,_,_,_,_,_,rfl,puG.same s9,s8.trans (sx.trans (lQ s9))⟩
    · rintro σ G ⟨u7,u8,u9,u10,u11,u12,u13,rfl,puG,sG⟩
      exact ⟨_,_,_,_,_,_,_,_,_,rfl,puG,s56.trans sG⟩
  · rintro σ G ⟨u5,u6,u7,u8,u9,u10,u11,u12,u13,rfl,puG,sG⟩
    exact k G
end
end My
namespace My
open PySem L2
def ue (CN CG CU CY CP CL:ae):Flt->ae
  | .nought=>CN
  | .great=>CG
  | .full=>CU
  | .dry=>CY
  | .span=>CP
  | .late=>CL
end My
namespace My
def ya {α:Type} (a b c d e f:α):Flt->α
  | .nought=>a
  | .great=>b
  | .full=>c
  | .dry=>d
  | .span=>e
  | .late=>f
theorem yb {P:Flt->Prop} (a:P .nought) (b:P .great) (c:P .full) (d:P .dry) (e:P .span) (f:P .late):∀ x,P x
  | .nought=>a
  | .great=>b
  | .full=>c
  | .dry=>d
  | .span=>e
  | .late=>f
end My
namespace My
open PySem L2
theorem eR {K:aj} {h:cR} {mg:Str->Option af} {x:Str} {st:dU} {f:ae} {oc:af} {od an:Option ae} {sl:Array (Option af)} {kV dc pm cd ct:af} {ps:List Str} (X:K.In h) (G:h.Ns aH mg) (a:aI K aH x=some (some (.ref f)))
    (l:K.lookup f=some ⟨oc,od,.func (aK x x (cB st) (cq st) (aB st) .none kV dc pm an cd ct),sl⟩) (c:aG K cd x=true) (k:aC K (.ref f)=true)
    (hb:∀ (kV doc pm:af) (an:Option ae) (cdv ct:af) (us:List af),us.length=ps.length->bindArgs (aK x x (cB st) (cq st) (aB st) .none kV doc pm an cdv ct) ⟨us,[]⟩=pure (ps.zip us)) :
    Df K mg x st ps f (aK x x (cB st) (cq st) (aB st) .none kV dc pm an cd ct):=⟨iH l c k,(iH l c k).binds hb,df X G a⟩
theorem my_cons {α:Type} {n:Nat} {us:List α} (h:us.length=n + 1):∃ a l,us=a :: l/\l.length=n:=by
  cases us with
  | nil=>cases h
  | cons a l=>exact ⟨a,l,rfl,Nat.succ.inj h⟩
theorem gI {α:Type} {us:List α} (h:us.length=1):∃ a,us=[a]:=by
  obtain ⟨a,l,rfl,h⟩:=my_cons h
  cases l with
  | nil=>exact ⟨a,rfl⟩
  | cons b l=>cases h
theorem hJ {α:Type} {us:List α} (h:us.length=2):∃ a b,us=[a,b]:=by
  obtain ⟨x,l,rfl,h'⟩:=my_cons h
  obtain ⟨a1,rfl⟩:=gI h'
  exact ⟨x,a1,rfl⟩
theorem iN {α:Type} {us:List α} (h:us.length=3):∃ a b c,us=[a,b,c]:=by
  obtain ⟨x,l,rfl,h'⟩:=my_cons h
  obtain ⟨a1,b1,rfl⟩:=hJ h'
  exact ⟨x,a1,b1,rfl⟩
theorem jK {α:Type} {us:List α} (h:us.length=4):∃ a b c d,us=[a,b,c,d]:=by
  obtain ⟨x,l,rfl,h'⟩:=my_cons h
  obtain ⟨a1,b1,c1,rfl⟩:=iN h'
  exact ⟨x,a1,b1,c1,rfl⟩
theorem uf {α:Type} {us:List α} (h:us.length=5):∃ a b c d e,us=[a,b,c,d,e]:=by
  obtain ⟨x,l,rfl,h'⟩:=my_cons h
  obtain ⟨a1,b1,c1,d1,rfl⟩:=jK h'
  exact ⟨x,a1,b1,c1,d1,rfl⟩
theorem yc {α:Type} {us:List α} (h:us.length=6):∃ a b c d e f,us=[a,b,c,d,e,f]:=by
  obtain ⟨x,l,rfl,h'⟩:=my_cons h
  obtain ⟨a1,b1,c1,d1,e1,rfl⟩:=uf h'
  exact ⟨x,a1,b1,c1,d1,e1,rfl⟩
theorem ug {α:Type} {us:List α} (h:us.length=7):∃ a b c d e f g,us=[a,b,c,d,e,f,g]:=by
  obtain ⟨x,l,rfl,h'⟩:=my_cons h
  obtain ⟨a1,b1,c1,d1,e1,f1,rfl⟩:=yc h'
  exact ⟨x,a1,b1,c1,d1,e1,f1,rfl⟩
theorem my_len8 {α:Type} {us:List α} (h:us.length=8):∃ a b c d e f g h,us=[a,b,c,d,e,f,g,h]:=by
  obtain ⟨x,l,rfl,h'⟩:=my_cons h
  obtain ⟨a1,b1,c1,d1,e1,f1,g1,rfl⟩:=ug h'
  exact ⟨x,a1,b1,c1,d1,e1,f1,g1,rfl⟩
theorem Cr {α:Type} {us:List α} (h:us.length=9):∃ a b c d e f g h i,us=[a,b,c,d,e,f,g,h,i]:=by
  obtain ⟨x,l,rfl,h'⟩:=my_cons h
  obtain ⟨a1,b1,c1,d1,e1,f1,g1,h1,rfl⟩:=my_len8 h'
  exact ⟨x,a1,b1,c1,d1,e1,f1,g1,h1,rfl⟩
theorem all_mk {l:pU} {w:cz} {K:aj} {h:cR} {mg:Str->Option af} {fa f1 f2 f3 f4 f5 f6 f7 f8 f9 f10 f11 f12 f13 f14 f15 f16 f17 f18 f19 f20 f21 f22 f23 f24 f25 f26 f27 f28 f29 f30 f31 f32 f33 f34 f35 f36 f37 f38 f39 f40 f41 CM f42 CS f43 f44 CD f45 f46 f47 f48 f49 CN CG CU CY CP CL CF CE:ae} (X:K.In h) (G:h.Ns aH mg) (hfa:mg "law"=some (.ref fa))
    {od100 an100:Option ae} {sl100:Array (Option af)} {oc100 kV100 dc100 pm100 cd100 ct100:af} {f100:ae}
    {od101 an101:Option ae} {sl101:Array (Option af)} {oc101 kV101 dc101 pm101 cd101 ct101:af} {f101:ae}
    {od102 an102:Option ae} {sl102:Array (Option af)} {oc102 kV102 dc102 pm102 cd102 ct102:af} {f102:ae}
    {od103 an103:Option ae} {sl103:Array (Option af)} {oc103 kV103 dc103 pm103 cd103 ct103:af} {f103:ae}
    {od104 an104:Option ae} {sl104:Array (Option af)} {oc104 kV104 dc104 pm104 cd104 ct104:af} {f104:ae}
    {od105 an105:Option ae} {sl105:Array (Option af)} {oc105 kV105 dc105 pm105 cd105 ct105:af} {f105:ae}
    {od1 an1:Option ae} {sl1:Array (Option af)} {oc1 kV1 dc1 pm1 cd1 ct1:af}
    {od2 an2:Option ae} {sl2:Array (Option af)} {oc2 kV2 dc2 pm2 cd2 ct2:af}
    {od3 an3:Option ae} {sl3:Array (Option af)} {oc3 kV3 dc3 pm3 cd3 ct3:af}
    {od4 an4:Option ae} {sl4:Array (Option af)} {oc4 kV4 dc4 pm4 cd4 ct4:af}
    {od5 an5:Option ae} {sl5:Array (Option af)} {oc5 kV5 dc5 pm5 cd5 ct5:af}
    {od6 an6:Option ae} {sl6:Array (Option af)} {oc6 kV6 dc6 pm6 cd6 ct6:af}
    {od7 an7:Option ae} {sl7:Array (Option af)} {oc7 kV7 dc7 pm7 cd7 ct7:af}
    {od8 an8:Option ae} {sl8:Array (Option af)} {oc8 kV8 dc8 pm8 cd8 ct8:af}
    {od9 an9:Option ae} {sl9:Array (Option af)} {oc9 kV9 dc9 pm9 cd9 ct9:af}
    {od10 an10:Option ae} {sl10:Array (Option af)} {oc10 kV10 dc10 pm10 cd10 ct10:af}
    {od11 an11:Option ae} {sl11:Array (Option af)} {oc11 kV11 dc11 pm11 cd11 ct11:af}
    {od12 an12:Option ae} {sl12:Array (Option af)} {oc12 kV12 dc12 pm12 cd12 ct12:af}
    {od13 an13:Option ae} {sl13:Array (Option af)} {oc13 kV13 dc13 pm13 cd13 ct13:af}
    {od14 an14:Option ae} {sl14:Array (Option af)} {oc14 kV14 dc14 pm14 cd14 ct14:af}
    {od15 an15:Option ae} {sl15:Array (Option af)} {oc15 kV15 dc15 pm15 cd15 ct15:af}
    {od16 an16:Option ae} {sl16:Array (Option af)} {oc16 kV16 dc16 pm16 cd16 ct16:af}
    {od17 an17:Option ae} {sl17:Array (Option af)} {oc17 kV17 dc17 pm17 cd17 ct17:af}
    {od18 an18:Option ae} {sl18:Array (Option af)} {oc18 kV18 dc18 pm18 cd18 ct18:af}
    {od19 an19:Option ae} {sl19:Array (Option af)} {oc19 kV19 dc19 pm19 cd19 ct19:af}
    {od20 an20:Option ae} {sl20:Array (Option af)} {oc20 kV20 dc20 pm20 cd20 ct20:af}
    {od21 an21:Option ae} {sl21:Array (Option af)} {oc21 kV21 dc21 pm21 cd21 ct21:af}
    {od22 an22:Option ae} {sl22:Array (Option af)} {oc22 kV22 dc22 pm22 cd22 ct22:af}
    {od23 an23:Option ae} {sl23:Array (Option af)} {oc23 kV23 dc23 pm23 cd23 ct23:af}
    {od24 an24:Option ae} {sl24:Array (Option af)} {oc24 kV24 dc24 pm24 cd24 ct24:af}
    {od25 an25:Option ae} {sl25:Array (Option af)} {oc25 kV25 dc25 pm25 cd25 ct25:af}
    {od26 an26:Option ae} {sl26:Array (Option af)} {oc26 kV26 dc26 pm26 cd26 ct26:af}
    {od27 an27:Option ae} {sl27:Array (Option af)} {oc27 kV27 dc27 pm27 cd27 ct27:af}
    {od28 an28:Option ae} {sl28:Array (Option af)} {oc28 kV28 dc28 pm28 cd28 ct28:af}
    {od29 an29:Option ae} {sl29:Array (Option af)} {oc29 kV29 dc29 pm29 cd29 ct29:af}
    {od30 an30:Option ae} {sl30:Array (Option af)} {oc30 kV30 dc30 pm30 cd30 ct30:af}
    {od31 an31:Option ae} {sl31:Array (Option af)} {oc31 kV31 dc31 pm31 cd31 ct31:af}
    {od32 an32:Option ae} {sl32:Array (Option af)} {oc32 kV32 dc32 pm32 cd32 ct32:af}
    {od33 an33:Option ae} {sl33:Array (Option af)} {oc33 kV33 dc33 pm33 cd33 ct33:af}
    {od34 an34:Option ae} {sl34:Array (Option af)} {oc34 kV34 dc34 pm34 cd34 ct34:af}
    {od35 an35:Option ae} {sl35:Array (Option af)} {oc35 kV35 dc35 pm35 cd35 ct35:af}
    {od36 an36:Option ae} {sl36:Array (Option af)} {oc36 kV36 dc36 pm36 cd36 ct36:af}
    {od37 an37:Option ae} {sl37:Array (Option af)} {oc37 kV37 dc37 pm37 cd37 ct37:af}
    {od38 an38:Option ae} {sl38:Array (Option af)} {oc38 kV38 dc38 pm38 cd38 ct38:af}
    {od39 an39:Option ae} {sl39:Array (Option af)} {oc39 kV39 dc39 pm39 cd39 ct39:af}
    {od40 an40:Option ae} {sl40:Array (Option af)} {oc40 kV40 dc40 pm40 cd40 ct40:af}
    {od41 an41:Option ae} {sl41:Array (Option af)} {oc41 kV41 dc41 pm41 cd41 ct41:af}
    {od42 an42:Option ae} {sl42:Array (Option af)} {oc42 kV42 dc42 pm42 cd42 ct42:af}
    {od43 an43:Option ae} {sl43:Array (Option af)} {oc43 kV43 dc43 pm43 cd43 ct43:af}
    {od44 an44:Option ae} {sl44:Array (Option af)} {oc44 kV44 dc44 pm44 cd44 ct44:af}
    {od45 an45:Option ae} {sl45:Array (Option af)} {oc45 kV45 dc45 pm45 cd45 ct45:af}
    {od46 an46:Option ae} {sl46:Array (Option af)} {oc46 kV46 dc46 pm46 cd46 ct46:af}
    {od47 an47:Option ae} {sl47:Array (Option af)} {oc47 kV47 dc47 pm47 cd47 ct47:af}
    {od48 an48:Option ae} {sl48:Array (Option af)} {oc48 kV48 dc48 pm48 cd48 ct48:af}
    {od49 an49:Option ae} {sl49:Array (Option af)} {oc49 kV49 dc49 pm49 cd49 ct49:af}
    (a1:aI K aH "worth_of"=some (some (.ref f1))) (l1:K.lookup f1=some ⟨oc1,od1,.func (aK "worth_of" "worth_of" (cB iQ) (cq iQ) (aB iQ) .none kV1 dc1 pm1 an1 cd1 ct1),sl1⟩) (c1:aG K cd1 "worth_of"=true) (k1:aC K (.ref f1)=true)
    (a2:aI K aH "number_of_leaf"=some (some (.ref f2))) (l2:K.lookup f2=some ⟨oc2,od2,.func (aK "number_of_leaf" "number_of_leaf" (cB eQ) (cq eQ) (aB eQ) .none kV2 dc2 pm2 an2 cd2 ct2),sl2⟩) (c2:aG K cd2 "number_of_leaf"=true) (k2:aC K (.ref f2)=true)
    (a3:aI K aH "number_of_two"=some (some (.ref f3))) (l3:K.lookup f3=some ⟨oc3,od3,.func (aK "number_of_two" "number_of_two" (cB fc) (cq fc) (aB fc) .none kV3 dc3 pm3 an3 cd3 ct3),sl3⟩) (c3:aG K cd3 "number_of_two"=true) (k3:aC K (.ref f3)=true)
    (a4:aI K aH "number_of_division"=some (some (.ref f4))) (l4:K.lookup f4=some ⟨oc4,od4,.func (aK "number_of_division" "number_of_division" (cB dA) (cq dA) (aB dA) .none kV4 dc4 pm4 an4 cd4 ct4),sl4⟩) (c4:aG K cd4 "number_of_division"=true) (k4:aC K (.ref f4)=true)
    (a5:aI K aH "done"=some (some (.ref f5))) (l5:K.lookup f5=some ⟨oc5,od5,.func (aK "done" "done" (cB px) (cq px) (aB px) .none kV5 dc5 pm5 an5 cd5 ct5),sl5⟩) (c5:aG K cd5 "done"=true) (k5:aC K (.ref f5)=true)
    (a6:aI K aH "doing_of"=some (some (.ref f6))) (l6:K.lookup f6=some ⟨oc6,od6,.func (aK "doing_of" "doing_of" (cB jv) (cq jv) (aB jv) .none kV6 dc6 pm6 an6 cd6 ct6),sl6⟩) (c6:aG K cd6 "doing_of"=true) (k6:aC K (.ref f6)=true)
    (a7:aI K aH "deeds_by_sign"=some (some (.ref f7))) (l7:K.lookup f7=some ⟨oc7,od7,.func (aK "deeds_by_sign" "deeds_by_sign" (cB fH) (cq fH) (aB fH) .none kV7 dc7 pm7 an7 cd7 ct7),sl7⟩) (c7:aG K cd7 "deeds_by_sign"=true) (k7:aC K (.ref f7)=true)
    (a8:aI K aH "writes_of"=some (some (.ref f8))) (l8:K.lookup f8=some ⟨oc8,od8,.func (aK "writes_of" "writes_of" (cB i9) (cq i9) (aB i9) .none kV8 dc8 pm8 an8 cd8 ct8),sl8⟩) (c8:aG K cd8 "writes_of"=true) (k8:aC K (.ref f8)=true)
    (a9:aI K aH "do_deeds"=some (some (.ref f9))) (l9:K.lookup f9=some ⟨oc9,od9,.func (aK "do_deeds" "do_deeds" (cB gB) (cq gB) (aB gB) .none kV9 dc9 pm9 an9 cd9 ct9),sl9⟩) (c9:aG K cd9 "do_deeds"=true) (k9:aC K (.ref f9)=true)
    (a10:aI K aH "do_deed"=some (some (.ref f10))) (l10:K.lookup f10=some ⟨oc10,od10,.func (aK "do_deed" "do_deed" (cB jw) (cq jw) (aB jw) .none kV10 dc10 pm10 an10 cd10 ct10),sl10⟩) (c10:aG K cd10 "do_deed"=true) (k10:aC K (.ref f10)=true)
    (a11:aI K aH "do_push"=some (some (.ref f11))) (l11:K.lookup f11=some ⟨oc11,od11,.func (aK "do_push" "do_push" (cB jx) (cq jx) (aB jx) .none kV11 dc11 pm11 an11 cd11 ct11),sl11⟩) (c11:aG K cd11 "do_push"=true) (k11:aC K (.ref f11)=true)
    (a12:aI K aH "do_pull"=some (some (.ref f12))) (l12:K.lookup f12=some ⟨oc12,od12,.func (aK "do_pull" "do_pull" (cB jy) (cq jy) (aB jy) .none kV12 dc12 pm12 an12 cd12 ct12),sl12⟩) (c12:aG K cd12 "do_pull"=true) (k12:aC K (.ref f12)=true)
    (a13:aI K aH "do_draw"=some (some (.ref f13))) (l13:K.lookup f13=some ⟨oc13,od13,.func (aK "do_draw" "do_draw" (cB jz) (cq jz) (aB jz) .none kV13 dc13 pm13 an13 cd13 ct13),sl13⟩) (c13:aG K cd13 "do_draw"=true) (k13:aC K (.ref f13)=true)
    (a14:aI K aH "do_send"=some (some (.ref f14))) (l14:K.lookup f14=some ⟨oc14,od14,.func (aK "do_send" "do_send" (cB jA) (cq jA) (aB jA) .none kV14 dc14 pm14 an14 cd14 ct14),sl14⟩) (c14:aG K cd14 "do_send"=true) (k14:aC K (.ref f14)=true)
    (a15:aI K aH "copied"=some (some (.ref f15))) (l15:K.lookup f15=some ⟨oc15,od15,.func (aK "copied" "copied" (cB jM) (cq jM) (aB jM) .none kV15 dc15 pm15 an15 cd15 ct15),sl15⟩) (c15:aG K cd15 "copied"=true) (k15:aC K (.ref f15)=true)
    (a16:aI K aH "_law_whole"=some (some (.ref f16))) (l16:K.lookup f16=some ⟨oc16,od16,.func (aK "_law_whole" "_law_whole" (cB ja) (cq ja) (aB ja) .none kV16 dc16 pm16 an16 cd16 ct16),sl16⟩) (c16:aG K cd16 "_law_whole"=true) (k16:aC K (.ref f16)=true)
    (a17:aI K aH "_law_mixed"=some (some (.ref f17))) (l17:K.lookup f17=some ⟨oc17,od17,.func (aK "_law_mixed" "_law_mixed" (cB il) (cq il) (aB il) .none kV17 dc17 pm17 an17 cd17 ct17),sl17⟩) (c17:aG K cd17 "_law_mixed"=true) (k17:aC K (.ref f17)=true)
    (a18:aI K aH "_law_purse"=some (some (.ref f18))) (l18:K.lookup f18=some ⟨oc18,od18,.func (aK "_law_purse" "_law_purse" (cB jb) (cq jb) (aB jb) .none kV18 dc18 pm18 an18 cd18 ct18),sl18⟩) (c18:aG K cd18 "_law_purse"=true) (k18:aC K (.ref f18)=true)
    (a19:aI K aH "_law_draw"=some (some (.ref f19))) (l19:K.lookup f19=some ⟨oc19,od19,.func (aK "_law_draw" "_law_draw" (cB eE) (cq eE) (aB eE) .none kV19 dc19 pm19 an19 cd19 ct19),sl19⟩) (c19:aG K cd19 "_law_draw"=true) (k19:aC K (.ref f19)=true)
    (a20:aI K aH "_law_names"=some (some (.ref f20))) (l20:K.lookup f20=some ⟨oc20,od20,.func (aK "_law_names" "_law_names" (cB ip) (cq ip) (aB ip) .none kV20 dc20 pm20 an20 cd20 ct20),sl20⟩) (c20:aG K cd20 "_law_names"=true) (k20:aC K (.ref f20)=true)
    (a21:aI K aH "_law_leaf"=some (some (.ref f21))) (l21:K.lookup f21=some ⟨oc21,od21,.func (aK "_law_leaf" "_law_leaf" (cB gC) (cq gC) (aB gC) .none kV21 dc21 pm21 an21 cd21 ct21),sl21⟩) (c21:aG K cd21 "_law_leaf"=true) (k21:aC K (.ref f21)=true)
    (a22:aI K aH "_law_formula"=some (some (.ref f22))) (l22:K.lookup f22=some ⟨oc22,od22,.func (aK "_law_formula" "_law_formula" (cB fk) (cq fk) (aB fk) .none kV22 dc22 pm22 an22 cd22 ct22),sl22⟩) (c22:aG K cd22 "_law_formula"=true) (k22:aC K (.ref f22)=true)
    (a23:aI K aH "_law_send"=some (some (.ref f23))) (l23:K.lookup f23=some ⟨oc23,od23,.func (aK "_law_send" "_law_send" (cB iR) (cq iR) (aB iR) .none kV23 dc23 pm23 an23 cd23 ct23),sl23⟩) (c23:aG K cd23 "_law_send"=true) (k23:aC K (.ref f23)=true)
    (a24:aI K aH "_law_deed"=some (some (.ref f24))) (l24:K.lookup f24=some ⟨oc24,od24,.func (aK "_law_deed" "_law_deed" (cB iS) (cq iS) (aB iS) .none kV24 dc24 pm24 an24 cd24 ct24),sl24⟩) (c24:aG K cd24 "_law_deed"=true) (k24:aC K (.ref f24)=true)
    (a25:aI K aH "_law_deeds"=some (some (.ref f25))) (l25:K.lookup f25=some ⟨oc25,od25,.func (aK "_law_deeds" "_law_deeds" (cB gS) (cq gS) (aB gS) .none kV25 dc25 pm25 an25 cd25 ct25),sl25⟩) (c25:aG K cd25 "_law_deeds"=true) (k25:aC K (.ref f25)=true)
    (a26:aI K aH "_law_machine"=some (some (.ref f26))) (l26:K.lookup f26=some ⟨oc26,od26,.func (aK "_law_machine" "_law_machine" (cB gD) (cq gD) (aB gD) .none kV26 dc26 pm26 an26 cd26 ct26),sl26⟩) (c26:aG K cd26 "_law_machine"=true) (k26:aC K (.ref f26)=true)
    (a27:aI K aH "_law_model"=some (some (.ref f27))) (l27:K.lookup f27=some ⟨oc27,od27,.func (aK "_law_model" "_law_model" (cB iq) (cq iq) (aB iq) .none kV27 dc27 pm27 an27 cd27 ct27),sl27⟩) (c27:aG K cd27 "_law_model"=true) (k27:aC K (.ref f27)=true)
    (a28:aI K aH "_law_two"=some (some (.ref f28))) (l28:K.lookup f28=some ⟨oc28,od28,.func (aK "_law_two" "_law_two" (cB iE) (cq iE) (aB iE) .none kV28 dc28 pm28 an28 cd28 ct28),sl28⟩) (c28:aG K cd28 "_law_two"=true) (k28:aC K (.ref f28)=true)
    (a29:aI K aH "_law_comes_to"=some (some (.ref f29))) (l29:K.lookup f29=some ⟨oc29,od29,.func (aK "_law_comes_to" "_law_comes_to" (cB fu) (cq fu) (aB fu) .none kV29 dc29 pm29 an29 cd29 ct29),sl29⟩) (c29:aG K cd29 "_law_comes_to"=true) (k29:aC K (.ref f29)=true)
    (a30:aI K aH "_law_sent"=some (some (.ref f30))) (l30:K.lookup f30=some ⟨oc30,od30,.func (aK "_law_sent" "_law_sent" (cB jB) (cq jB) (aB jB) .none kV30 dc30 pm30 an30 cd30 ct30),sl30⟩) (c30:aG K cd30 "_law_sent"=true) (k30:aC K (.ref f30)=true)
    (a31:aI K aH "_law_drawn"=some (some (.ref f31))) (l31:K.lookup f31=some ⟨oc31,od31,.func (aK "_law_drawn" "_law_drawn" (cB jc) (cq jc) (aB jc) .none kV31 dc31 pm31 an31 cd31 ct31),sl31⟩) (c31:aG K cd31 "_law_drawn"=true) (k31:aC K (.ref f31)=true)
    (a32:aI K aH "_law_one_deed"=some (some (.ref f32))) (l32:K.lookup f32=some ⟨oc32,od32,.func (aK "_law_one_deed" "_law_one_deed" (cB gO) (cq gO) (aB gO) .none kV32 dc32 pm32 an32 cd32 ct32),sl32⟩) (c32:aG K cd32 "_law_one_deed"=true) (k32:aC K (.ref f32)=true)
    (a33:aI K aH "_law_copy"=some (some (.ref f33))) (l33:K.lookup f33=some ⟨oc33,od33,.func (aK "_law_copy" "_law_copy" (cB jC) (cq jC) (aB jC) .none kV33 dc33 pm33 an33 cd33 ct33),sl33⟩) (c33:aG K cd33 "_law_copy"=true) (k33:aC K (.ref f33)=true)
    (a34:aI K aH "_law_done"=some (some (.ref f34))) (l34:K.lookup f34=some ⟨oc34,od34,.func (aK "_law_done" "_law_done" (cB ir) (cq ir) (aB ir) .none kV34 dc34 pm34 an34 cd34 ct34),sl34⟩) (c34:aG K cd34 "_law_done"=true) (k34:aC K (.ref f34)=true)
    (a35:aI K aH "_law_first"=some (some (.ref f35))) (l35:K.lookup f35=some ⟨oc35,od35,.func (aK "_law_first" "_law_first" (cB jd) (cq jd) (aB jd) .none kV35 dc35 pm35 an35 cd35 ct35),sl35⟩) (c35:aG K cd35 "_law_first"=true) (k35:aC K (.ref f35)=true)
    (a36:aI K aH "_law_stirred"=some (some (.ref f36))) (l36:K.lookup f36=some ⟨oc36,od36,.func (aK "_law_stirred" "_law_stirred" (cB gE) (cq gE) (aB gE) .none kV36 dc36 pm36 an36 cd36 ct36),sl36⟩) (c36:aG K cd36 "_law_stirred"=true) (k36:aC K (.ref f36)=true)
    (a37:aI K aH "_law_state_same"=some (some (.ref f37))) (l37:K.lookup f37=some ⟨oc37,od37,.func (aK "_law_state_same" "_law_state_same" (cB fi) (cq fi) (aB fi) .none kV37 dc37 pm37 an37 cd37 ct37),sl37⟩) (c37:aG K cd37 "_law_state_same"=true) (k37:aC K (.ref f37)=true)
    (a38:aI K aH "_law_told"=some (some (.ref f38))) (l38:K.lookup f38=some ⟨oc38,od38,.func (aK "_law_told" "_law_told" (cB jD) (cq jD) (aB jD) .none kV38 dc38 pm38 an38 cd38 ct38),sl38⟩) (c38:aG K cd38 "_law_told"=true) (k38:aC K (.ref f38)=true)
    (a39:aI K aH "_law_right"=some (some (.ref f39))) (l39:K.lookup f39=some ⟨oc39,od39,.func (aK "_law_right" "_law_right" (cB je) (cq je) (aB je) .none kV39 dc39 pm39 an39 cd39 ct39),sl39⟩) (c39:aG K cd39 "_law_right"=true) (k39:aC K (.ref f39)=true)
    (a40:aI K aH "_law_asked"=some (some (.ref f40))) (l40:K.lookup f40=some ⟨oc40,od40,.func (aK "_law_asked" "_law_asked" (cB jf) (cq jf) (aB jf) .none kV40 dc40 pm40 an40 cd40 ct40),sl40⟩) (c40:aG K cd40 "_law_asked"=true) (k40:aC K (.ref f40)=true)
    (a41:aI K aH "law"=some (some (.ref f41))) (l41:K.lookup f41=some ⟨oc41,od41,.func (aK "law" "law" (cB sP) (cq sP) (aB sP) .none kV41 dc41 pm41 an41 cd41 ct41),sl41⟩) (c41:aG K cd41 "law"=true) (k41:aC K (.ref f41)=true)
    (aCM:aI K aH "Model"=some (some (.ref CM)))
    (a42:aD K (.ref CM) "__init__"=some (some (.ref f42))) (i42:dW K (.ref f42)=true) (l42:K.lookup f42=some ⟨oc42,od42,.func (aK "__init__" "Model.__init__" (cB iD) (cq iD) (aB iD) .none kV42 dc42 pm42 an42 cd42 ct42),sl42⟩) (c42:aG K cd42 "Model.__init__"=true) (k42:aC K (.ref f42)=true)
    (pgCM:gL K CM vz=true) (hdCM:hZ K CM=true) (poCM:jj K CM=true) (saCM:aD K (.ref CM) "__setattr__"=some (some (.builtin "object.__setattr__"))) (mkCM:jR K CM=true) (kcCM:aC K (.ref CM)=true)
    (nCMmachines:aD K (.ref CM) "machines"=some none)
    (aCS:aI K aH "State"=some (some (.ref CS)))
    (a43:aD K (.ref CS) "__init__"=some (some (.ref f43))) (i43:dW K (.ref f43)=true) (l43:K.lookup f43=some ⟨oc43,od43,.func (aK "__init__" "State.__init__" (cB gW) (cq gW) (aB gW) .none kV43 dc43 pm43 an43 cd43 ct43),sl43⟩) (c43:aG K cd43 "State.__init__"=true) (k43:aC K (.ref f43)=true)
    (a44:aD K (.ref CS) "copy"=some (some (.ref f44))) (i44:dW K (.ref f44)=true) (l44:K.lookup f44=some ⟨oc44,od44,.func (aK "copy" "State.copy" (cB gx) (cq gx) (aB gx) .none kV44 dc44 pm44 an44 cd44 ct44),sl44⟩) (c44:aG K cd44 "State.copy"=true) (k44:aC K (.ref f44)=true)
    (pgCS:gL K CS vz=true) (hdCS:hZ K CS=true) (poCS:jj K CS=true) (saCS:aD K (.ref CS) "__setattr__"=some (some (.builtin "object.__setattr__"))) (mkCS:jR K CS=true) (kcCS:aC K (.ref CS)=true)
    (nCSboxes:aD K (.ref CS) "boxes"=some none)
    (nCSqueues:aD K (.ref CS) "queues"=some none)
    (nCSdrawn:aD K (.ref CS) "drawn"=some none)
    (nCSsent:aD K (.ref CS) "sent"=some none)
    (aCD:aI K aH "Doing"=some (some (.ref CD)))
    (a45:aD K (.ref CD) "__init__"=some (some (.ref f45))) (i45:dW K (.ref f45)=true) (l45:K.lookup f45=some ⟨oc45,od45,.func (aK "__init__" "Doing.__init__" (cB iC) (cq iC) (aB iC) .none kV45 dc45 pm45 an45 cd45 ct45),sl45⟩) (c45:aG K cd45 "Doing.__init__"=true) (k45:aC K (.ref f45)=true)
    (a46:aD K (.ref CD) "now"=some (some (.ref f46))) (i46:dW K (.ref f46)=true) (l46:K.lookup f46=some ⟨oc46,od46,.func (aK "now" "Doing.now" (cB gv) (cq gv) (aB gv) .none kV46 dc46 pm46 an46 cd46 ct46),sl46⟩) (c46:aG K cd46 "Doing.now"=true) (k46:aC K (.ref f46)=true)
    (a47:aD K (.ref CD) "reckon"=some (some (.ref f47))) (i47:dW K (.ref f47)=true) (l47:K.lookup f47=some ⟨oc47,od47,.func (aK "reckon" "Doing.reckon" (cB d9) (cq d9) (aB d9) .none kV47 dc47 pm47 an47 cd47 ct47),sl47⟩) (c47:aG K cd47 "Doing.reckon"=true) (k47:aC K (.ref f47)=true)
    (a48:aD K (.ref CD) "queue_of"=some (some (.ref f48))) (i48:dW K (.ref f48)=true) (l48:K.lookup f48=some ⟨oc48,od48,.func (aK "queue_of" "Doing.queue_of" (cB dP) (cq dP) (aB dP) .none kV48 dc48 pm48 an48 cd48 ct48),sl48⟩) (c48:aG K cd48 "Doing.queue_of"=true) (k48:aC K (.ref f48)=true)
    (a49:aD K (.ref CD) "fill"=some (some (.ref f49))) (i49:dW K (.ref f49)=true) (l49:K.lookup f49=some ⟨oc49,od49,.func (aK "fill" "Doing.fill" (cB eZ) (cq eZ) (aB eZ) .none kV49 dc49 pm49 an49 cd49 ct49),sl49⟩) (c49:aG K cd49 "Doing.fill"=true) (k49:aC K (.ref f49)=true)
    (pgCD:gL K CD vz=true) (hdCD:hZ K CD=true) (poCD:jj K CD=true) (saCD:aD K (.ref CD) "__setattr__"=some (some (.builtin "object.__setattr__"))) (mkCD:jR K CD=true) (kcCD:aC K (.ref CD)=true)
    (nCDmachine:aD K (.ref CD) "machine"=some none)
    (nCDhappening:aD K (.ref CD) "happening"=some none)
    (nCDstate:aD K (.ref CD) "state"=some none)
    (nCDwritten:aD K (.ref CD) "written"=some none)
    (nCDoutgoing:aD K (.ref CD) "outgoing"=some none)
    (nCDends:aD K (.ref CD) "ends"=some none)
    (nCDreckoned:aD K (.ref CD) "reckoned"=some none)
    (nCDqueued:aD K (.ref CD) "queued"=some none)
    (aCN:aI K aH "Nought"=some (some (.ref CN))) (xCN:dI K CN nF "ValueError.__new__"=true)
    (aCG:aI K aH "Great"=some (some (.ref CG))) (xCG:dI K CG nF "ValueError.__new__"=true)
    (aCU:aI K aH "Full"=some (some (.ref CU))) (xCU:dI K CU nF "ValueError.__new__"=true)
    (aCY:aI K aH "Dry"=some (some (.ref CY))) (xCY:dI K CY nF "ValueError.__new__"=true)
    (aCP:aI K aH "Span"=some (some (.ref CP))) (xCP:dI K CP nF "ValueError.__new__"=true)
    (aCL:aI K aH "Late"=some (some (.ref CL))) (xCL:dI K CL nF "ValueError.__new__"=true)
    (aCF:aI K aH "Fault"=some (some (.ref CF))) (xCF:dI K CF nF "ValueError.__new__"=true)
    (aCE:aI K aH "MomentError"=some (some (.ref CE))) (xCE:dI K CE nF "ValueError.__new__"=true)
    (enn:dy K (.ref CN) (.ref CN)=some true)
    (egn:dy K (.ref CG) (.ref CN)=some false)
    (egg:dy K (.ref CG) (.ref CG)=some true)
    (hcn:kM K (.builtin "object.__class__") "__get__"=some (some (.builtin "getset_descriptor.__get__")))
    (hck:lT K (.builtin "object.__class__")=some true)
    (wha:aD K (.ref CS) "__class__"=some (some (.builtin "object.__class__")))
    (whm:dE K CS (.type "object")=some true)
    (wkt:aq K (.ref CS) (.ref CS)=some true)
    (kbb:aq K (.type "bool") (.type "bool")=some true)
    (kss:aq K (.type "str") (.type "str")=some true)
    (kts:aq K (.type "tuple") (.type "str")=some false)
    (ktt:aq K (.type "tuple") (.type "tuple")=some true)
    (xfCN:dy K (.ref CN) (.ref CF)=some true)
    (keCN:aq K (.ref CN) (.ref CE)=some true)
    (kvCN:aq K (.ref CN) (.type "ValueError")=some true)
    (kkCNCN:aq K (.ref CN) (.ref CN)=some true)
    (kkCNCG:aq K (.ref CN) (.ref CG)=some false)
    (kkCNCU:aq K (.ref CN) (.ref CU)=some false)
    (kkCNCY:aq K (.ref CN) (.ref CY)=some false)
    (kkCNCP:aq K (.ref CN) (.ref CP)=some false)
    (kkCNCL:aq K (.ref CN) (.ref CL)=some false)
    (gaCN:aD K (.ref CN) "__getattribute__"=some (some (.builtin "BaseException.__getattribute__")))
    (ghCN:aD K (.ref CN) "__getattr__"=some none)
    (gcCN:aD K (.ref CN) "__class__"=some (some (.builtin "object.__class__")))
    (obCN:dE K CN (.type "object")=some true)
    (beCN:dE K CN (.type "BaseException")=some true)
    (a100:aD K (.ref CN) "word"=some (some (.ref f100)))
    (i100:dW K (.ref f100)=true)
    (l100:K.lookup f100=some ⟨oc100,od100,.func (aK "word" "Nought.word" (cB hW) (cq hW) (aB hW) .none kV100 dc100 pm100 an100 cd100 ct100),sl100⟩)
    (c100:aG K cd100 "Nought.word"=true)
    (k100:aC K (.ref f100)=true)
    (xfCG:dy K (.ref CG) (.ref CF)=some true)
    (keCG:aq K (.ref CG) (.ref CE)=some true)
    (kvCG:aq K (.ref CG) (.type "ValueError")=some true)
    (kkCGCN:aq K (.ref CG) (.ref CN)=some false)
    (kkCGCG:aq K (.ref CG) (.ref CG)=some true)
    (kkCGCU:aq K (.ref CG) (.ref CU)=some false)
    (kkCGCY:aq K (.ref CG) (.ref CY)=some false)
    (kkCGCP:aq K (.ref CG) (.ref CP)=some false)
    (kkCGCL:aq K (.ref CG) (.ref CL)=some false)
    (gaCG:aD K (.ref CG) "__getattribute__"=some (some (.builtin "BaseException.__getattribute__")))
    (ghCG:aD K (.ref CG) "__getattr__"=some none)
    (gcCG:aD K (.ref CG) "__class__"=some (some (.builtin "object.__class__")))
    (obCG:dE K CG (.type "object")=some true)
    (beCG:dE K CG (.type "BaseException")=some true)
    (a101:aD K (.ref CG) "word"=some (some (.ref f101)))
    (i101:dW K (.ref f101)=true)
    (l101:K.lookup f101=some ⟨oc101,od101,.func (aK "word" "Great.word" (cB iB) (cq iB) (aB iB) .none kV101 dc101 pm101 an101 cd101 ct101),sl101⟩)
    (c101:aG K cd101 "Great.word"=true)
    (k101:aC K (.ref f101)=true)
    (xfCU:dy K (.ref CU) (.ref CF)=some true)
    (keCU:aq K (.ref CU) (.ref CE)=some true)
    (kvCU:aq K (.ref CU) (.type "ValueError")=some true)
    (kkCUCN:aq K (.ref CU) (.ref CN)=some false)
    (kkCUCG:aq K (.ref CU) (.ref CG)=some false)
    (kkCUCU:aq K (.ref CU) (.ref CU)=some true)
    (kkCUCY:aq K (.ref CU) (.ref CY)=some false)
    (kkCUCP:aq K (.ref CU) (.ref CP)=some false)
    (kkCUCL:aq K (.ref CU) (.ref CL)=some false)
    (gaCU:aD K (.ref CU) "__getattribute__"=some (some (.builtin "BaseException.__getattribute__")))
    (ghCU:aD K (.ref CU) "__getattr__"=some none)
    (gcCU:aD K (.ref CU) "__class__"=some (some (.builtin "object.__class__")))
    (obCU:dE K CU (.type "object")=some true)
    (beCU:dE K CU (.type "BaseException")=some true)
    (a102:aD K (.ref CU) "word"=some (some (.ref f102)))
    (i102:dW K (.ref f102)=true)
    (l102:K.lookup f102=some ⟨oc102,od102,.func (aK "word" "Full.word" (cB iY) (cq iY) (aB iY) .none kV102 dc102 pm102 an102 cd102 ct102),sl102⟩)
    (c102:aG K cd102 "Full.word"=true)
    (k102:aC K (.ref f102)=true)
    (xfCY:dy K (.ref CY) (.ref CF)=some true)
    (keCY:aq K (.ref CY) (.ref CE)=some true)
    (kvCY:aq K (.ref CY) (.type "ValueError")=some true)
    (kkCYCN:aq K (.ref CY) (.ref CN)=some false)
    (kkCYCG:aq K (.ref CY) (.ref CG)=some false)
    (kkCYCU:aq K (.ref CY) (.ref CU)=some false)
    (kkCYCY:aq K (.ref CY) (.ref CY)=some true)
    (kkCYCP:aq K (.ref CY) (.ref CP)=some false)
    (kkCYCL:aq K (.ref CY) (.ref CL)=some false)
    (gaCY:aD K (.ref CY) "__getattribute__"=some (some (.builtin "BaseException.__getattribute__")))
    (ghCY:aD K (.ref CY) "__getattr__"=some none)
    (gcCY:aD K (.ref CY) "__class__"=some (some (.builtin "object.__class__")))
    (obCY:dE K CY (.type "object")=some true)
    (beCY:dE K CY (.type "BaseException")=some true)
    (a103:aD K (.ref CY) "word"=some (some (.ref f103)))
    (i103:dW K (.ref f103)=true)
    (l103:K.lookup f103=some ⟨oc103,od103,.func (aK "word" "Dry.word" (cB ju) (cq ju) (aB ju) .none kV103 dc103 pm103 an103 cd103 ct103),sl103⟩)
    (c103:aG K cd103 "Dry.word"=true)
    (k103:aC K (.ref f103)=true)
    (xfCP:dy K (.ref CP) (.ref CF)=some true)
    (keCP:aq K (.ref CP) (.ref CE)=some true)
    (kvCP:aq K (.ref CP) (.type "ValueError")=some true)
    (kkCPCN:aq K (.ref CP) (.ref CN)=some false)
    (kkCPCG:aq K (.ref CP) (.ref CG)=some false)
    (kkCPCU:aq K (.ref CP) (.ref CU)=some false)
    (kkCPCY:aq K (.ref CP) (.ref CY)=some false)
    (kkCPCP:aq K (.ref CP) (.ref CP)=some true)
    (kkCPCL:aq K (.ref CP) (.ref CL)=some false)
    (gaCP:aD K (.ref CP) "__getattribute__"=some (some (.builtin "BaseException.__getattribute__")))
    (ghCP:aD K (.ref CP) "__getattr__"=some none)
    (gcCP:aD K (.ref CP) "__class__"=some (some (.builtin "object.__class__")))
    (obCP:dE K CP (.type "object")=some true)
    (beCP:dE K CP (.type "BaseException")=some true)
    (a104:aD K (.ref CP) "word"=some (some (.ref f104)))
    (i104:dW K (.ref f104)=true)
    (l104:K.lookup f104=some ⟨oc104,od104,.func (aK "word" "Span.word" (cB iZ) (cq iZ) (aB iZ) .none kV104 dc104 pm104 an104 cd104 ct104),sl104⟩)
    (c104:aG K cd104 "Span.word"=true)
    (k104:aC K (.ref f104)=true)
    (xfCL:dy K (.ref CL) (.ref CF)=some true)
    (keCL:aq K (.ref CL) (.ref CE)=some true)
    (kvCL:aq K (.ref CL) (.type "ValueError")=some true)
    (kkCLCN:aq K (.ref CL) (.ref CN)=some false)
    (kkCLCG:aq K (.ref CL) (.ref CG)=some false)
    (kkCLCU:aq K (.ref CL) (.ref CU)=some false)
    (kkCLCY:aq K (.ref CL) (.ref CY)=some false)
    (kkCLCP:aq K (.ref CL) (.ref CP)=some false)
    (kkCLCL:aq K (.ref CL) (.ref CL)=some true)
    (gaCL:aD K (.ref CL) "__getattribute__"=some (some (.builtin "BaseException.__getattribute__")))
    (ghCL:aD K (.ref CL) "__getattr__"=some none)
    (gcCL:aD K (.ref CL) "__class__"=some (some (.builtin "object.__class__")))
    (obCL:dE K CL (.type "object")=some true)
    (beCL:dE K CL (.type "BaseException")=some true)
    (a105:aD K (.ref CL) "word"=some (some (.ref f105)))
    (i105:dW K (.ref f105)=true)
    (l105:K.lookup f105=some ⟨oc105,od105,.func (aK "word" "Late.word" (cB i5) (cq i5) (aB i5) .none kV105 dc105 pm105 an105 cd105 ct105),sl105⟩)
    (c105:aG K cd105 "Late.word"=true)
    (k105:aC K (.ref f105)=true)
    (zlen:aI K aH "len"=some none)
    (zabs:aI K aH "abs"=some none)
    (zisinstance:aI K aH "isinstance"=some none)
    (zlist:aI K aH "list"=some none)
    (ztuple:aI K aH "tuple"=some none)
    (zstr:aI K aH "str"=some none)
    (zint:aI K aH "int"=some none)
    (zbool:aI K aH "bool"=some none)
    (zrange:aI K aH "range"=some none)
    (zmax:aI K aH "max"=some none)
    (zdict:aI K aH "dict"=some none)
    (zValueError:aI K aH "ValueError"=some none) :
    ∃ fd:cH,(∀ (s:ax) (v:af),vB s fd ⟨[v],[]⟩ [("_law_script",v)])/\∀ base:cR,K.In base->base.Ns aH mg->bZ l.prog w K mg base CX0 40 fa fd ["_law_script"] (x9 K):=by
  have e:=hfa.symm.trans (df X G a41)
  cases e
  have D1:=eR (ps:=["formula","state","now","got"]) X G a1 l1 c1 k1 fun _ _ _ _ _ _ us hl=>by obtain ⟨a,b,c,d,rfl⟩:=jK hl; rfl
  have D2:=eR (ps:=["formula","state","now","got"]) X G a2 l2 c2 k2 fun _ _ _ _ _ _ us hl=>by obtain ⟨a,b,c,d,rfl⟩:=jK hl; rfl
  have D3:=eR (ps:=["kind","first","second"]) X G a3 l3 c3 k3 fun _ _ _ _ _ _ us hl=>by obtain ⟨a,b,c,rfl⟩:=iN hl; rfl
  have D4:=eR (ps:=["kind","first","second"]) X G a4 l4 c4 k4 fun _ _ _ _ _ _ us hl=>by obtain ⟨a,b,c,rfl⟩:=iN hl; rfl
  have D5:=eR (ps:=["model","state","happening"]) X G a5 l5 c5 k5 fun _ _ _ _ _ _ us hl=>by obtain ⟨a,b,c,rfl⟩:=iN hl; rfl
  have D6:=eR (ps:=["model","state","happening"]) X G a6 l6 c6 k6 fun _ _ _ _ _ _ us hl=>by obtain ⟨a,b,c,rfl⟩:=iN hl; rfl
  have D7:=eR (ps:=["machine","sign"]) X G a7 l7 c7 k7 fun _ _ _ _ _ _ us hl=>by obtain ⟨a,b,rfl⟩:=hJ hl; rfl
  have D8:=eR (ps:=["doing"]) X G a8 l8 c8 k8 fun _ _ _ _ _ _ us hl=>by obtain ⟨a,rfl⟩:=gI hl; rfl
  have D9:=eR (ps:=["doing","deeds"]) X G a9 l9 c9 k9 fun _ _ _ _ _ _ us hl=>by obtain ⟨a,b,rfl⟩:=hJ hl; rfl
  have D10:=eR (ps:=["doing","deed"]) X G a10 l10 c10 k10 fun _ _ _ _ _ _ us hl=>by obtain ⟨a,b,rfl⟩:=hJ hl; rfl
  have D11:=eR (ps:=["doing","name","formula"]) X G a11 l11 c11 k11 fun _ _ _ _ _ _ us hl=>by obtain ⟨a,b,c,rfl⟩:=iN hl; rfl
  have D12:=eR (ps:=["doing","name","box","otherwise"]) X G a12 l12 c12 k12 fun _ _ _ _ _ _ us hl=>by obtain ⟨a,b,c,d,rfl⟩:=jK hl; rfl
  have D13:=eR (ps:=["doing","box","formula"]) X G a13 l13 c13 k13 fun _ _ _ _ _ _ us hl=>by obtain ⟨a,b,c,rfl⟩:=iN hl; rfl
  have D14:=eR (ps:=["doing","deed"]) X G a14 l14 c14 k14 fun _ _ _ _ _ _ us hl=>by obtain ⟨a,b,rfl⟩:=hJ hl; rfl
  have D15:=eR (ps:=["thing"]) X G a15 l15 c15 k15 fun _ _ _ _ _ _ us hl=>by obtain ⟨a,rfl⟩:=gI hl; rfl
  have D16:=eR (ps:=["_law_found"]) X G a16 l16 c16 k16 fun _ _ _ _ _ _ us hl=>by obtain ⟨a,rfl⟩:=gI hl; rfl
  have D17:=eR (ps:=["_law_cell","_law_k"]) X G a17 l17 c17 k17 fun _ _ _ _ _ _ us hl=>by obtain ⟨a,b,rfl⟩:=hJ hl; rfl
  have D18:=eR (ps:=["_law_script"]) X G a18 l18 c18 k18 fun _ _ _ _ _ _ us hl=>by obtain ⟨a,rfl⟩:=gI hl; rfl
  have D19:=eR (ps:=["_law_purse_here","_law_out_of"]) X G a19 l19 c19 k19 fun _ _ _ _ _ _ us hl=>by obtain ⟨a,b,rfl⟩:=hJ hl; rfl
  have D20:=eR (ps:=["_law_purse_here","_law_many"]) X G a20 l20 c20 k20 fun _ _ _ _ _ _ us hl=>by obtain ⟨a,b,rfl⟩:=hJ hl; rfl
  have D21:=eR (ps:=["_law_purse_here","_law_boxes","_law_queues"]) X G a21 l21 c21 k21 fun _ _ _ _ _ _ us hl=>by obtain ⟨a,b,c,rfl⟩:=iN hl; rfl
  have D22:=eR (ps:=["_law_purse_here","_law_boxes","_law_queues","_law_deep"]) X G a22 l22 c22 k22 fun _ _ _ _ _ _ us hl=>by obtain ⟨a,b,c,d,rfl⟩:=jK hl; rfl
  have D23:=eR (ps:=["_law_purse_here","_law_boxes","_law_queues","_law_signs_here","_law_many"]) X G a23 l23 c23 k23 fun _ _ _ _ _ _ us hl=>by obtain ⟨a,b,c,d,e,rfl⟩:=uf hl; rfl
  have D24:=eR (ps:=["_law_purse_here","_law_boxes","_law_queues","_law_signs_here","_law_many","_law_left","_law_deep"]) X G a24 l24 c24 k24 fun _ _ _ _ _ _ us hl=>by obtain ⟨a,b,c,d,e,f,g,rfl⟩:=ug hl; rfl
  have D25:=eR (ps:=["_law_purse_here","_law_boxes","_law_queues","_law_signs_here","_law_many","_law_left","_law_deep"]) X G a25 l25 c25 k25 fun _ _ _ _ _ _ us hl=>by obtain ⟨a,b,c,d,e,f,g,rfl⟩:=ug hl; rfl
  have D26:=eR (ps:=["_law_purse_here","_law_name","_law_signs_here","_law_many"]) X G a26 l26 c26 k26 fun _ _ _ _ _ _ us hl=>by obtain ⟨a,b,c,d,rfl⟩:=jK hl; rfl
  have D27:=eR (ps:=["_law_purse_here","_law_most"]) X G a27 l27 c27 k27 fun _ _ _ _ _ _ us hl=>by obtain ⟨a,b,rfl⟩:=hJ hl; rfl
  have D28:=eR (ps:=["_law_word","_law_one","_law_other"]) X G a28 l28 c28 k28 fun _ _ _ _ _ _ us hl=>by obtain ⟨a,b,c,rfl⟩:=iN hl; rfl
  have D29:=eR (ps:=["_law_formula_here","_law_state","_law_now","_law_got"]) X G a29 l29 c29 k29 fun _ _ _ _ _ _ us hl=>by obtain ⟨a,b,c,d,rfl⟩:=jK hl; rfl
  have D30:=eR (ps:=["_law_deed_here","_law_state","_law_key","_law_at","_law_got","_law_news"]) X G a30 l30 c30 k30 fun _ _ _ _ _ _ us hl=>by obtain ⟨a,b,c,d,e,f,rfl⟩:=yc hl; rfl
  have D31:=eR (ps:=["_law_deed_here","_law_state","_law_number","_law_draws"]) X G a31 l31 c31 k31 fun _ _ _ _ _ _ us hl=>by obtain ⟨a,b,c,d,rfl⟩:=jK hl; rfl
  have D32:=eR (ps:=["_law_deed_here","_law_state","_law_key","_law_at","_law_got","_law_draws","_law_touched","_law_news","_law_work"]) X G a32 l32 c32 k32 fun _ _ _ _ _ _ us hl=>by obtain ⟨a,b,c,d,e,f,g,h,i,rfl⟩:=Cr hl; rfl
  have D33:=eR (ps:=["_law_state"]) X G a33 l33 c33 k33 fun _ _ _ _ _ _ us hl=>by obtain ⟨a,rfl⟩:=gI hl; rfl
  have D34:=eR (ps:=["_law_machines","_law_state","_law_happening"]) X G a34 l34 c34 k34 fun _ _ _ _ _ _ us hl=>by obtain ⟨a,b,c,rfl⟩:=iN hl; rfl
  have D35:=eR (ps:=["_law_machines"]) X G a35 l35 c35 k35 fun _ _ _ _ _ _ us hl=>by obtain ⟨a,rfl⟩:=gI hl; rfl
  have D36:=eR (ps:=["_law_purse_here","_law_machine_here"]) X G a36 l36 c36 k36 fun _ _ _ _ _ _ us hl=>by obtain ⟨a,b,rfl⟩:=hJ hl; rfl
  have D37:=eR (ps:=["_law_found","_law_due"]) X G a37 l37 c37 k37 fun _ _ _ _ _ _ us hl=>by obtain ⟨a,b,rfl⟩:=hJ hl; rfl
  have D38:=eR (ps:=["_law_model_here","_law_state","_law_happening"]) X G a38 l38 c38 k38 fun _ _ _ _ _ _ us hl=>by obtain ⟨a,b,c,rfl⟩:=iN hl; rfl
  have D39:=eR (ps:=["_law_found","_law_due"]) X G a39 l39 c39 k39 fun _ _ _ _ _ _ us hl=>by obtain ⟨a,b,rfl⟩:=hJ hl; rfl
  have D40:=eR (ps:=["_law_model_here","_law_machines","_law_state","_law_happening"]) X G a40 l40 c40 k40 fun _ _ _ _ _ _ us hl=>by obtain ⟨a,b,c,d,rfl⟩:=jK hl; rfl
  have D41:=eR (ps:=["_law_script"]) X G a41 l41 c41 k41 fun _ _ _ _ _ _ us hl=>by obtain ⟨a,rfl⟩:=gI hl; rfl
  have FMI:=iH (x:="__init__") (qual:="Model.__init__") (st:=iD) l42 c42 k42
  have bMI:=FMI.binds (ps:=["self","machines"]) fun _ _ _ _ _ _ us hl=>by obtain ⟨a,b,rfl⟩:=hJ hl; rfl
  have mMI:kW K CM "__init__" f42:=⟨a42,i42,k42⟩
  have MCM:Mk K CM f42:=⟨mkCM,a42,i42,kcCM⟩
  have FSI:=iH (x:="__init__") (qual:="State.__init__") (st:=gW) l43 c43 k43
  have bSI:=FSI.binds (ps:=["self","boxes","queues","drawn","sent"]) fun _ _ _ _ _ _ us hl=>by obtain ⟨a,b,c,d,e,rfl⟩:=uf hl; rfl
  have mSI:kW K CS "__init__" f43:=⟨a43,i43,k43⟩
  have FSC:=iH (x:="copy") (qual:="State.copy") (st:=gx) l44 c44 k44
  have bSC:=FSC.binds (ps:=["self"]) fun _ _ _ _ _ _ us hl=>by obtain ⟨a,rfl⟩:=gI hl; rfl
  have mSC:kW K CS "copy" f44:=⟨a44,i44,k44⟩
  have MCS:Mk K CS f43:=⟨mkCS,a43,i43,kcCS⟩
  have FDI:=iH (x:="__init__") (qual:="Doing.__init__") (st:=iC) l45 c45 k45
  have bDI:=FDI.binds (ps:=["self","machine","state","happening"]) fun _ _ _ _ _ _ us hl=>by obtain ⟨a,b,c,d,rfl⟩:=jK hl; rfl
  have mDI:kW K CD "__init__" f45:=⟨a45,i45,k45⟩
  have FDN:=iH (x:="now") (qual:="Doing.now") (st:=gv) l46 c46 k46
  have bDN:=FDN.binds (ps:=["self"]) fun _ _ _ _ _ _ us hl=>by obtain ⟨a,rfl⟩:=gI hl; rfl
  have mDN:kW K CD "now" f46:=⟨a46,i46,k46⟩
  have FDR:=iH (x:="reckon") (qual:="Doing.reckon") (st:=d9) l47 c47 k47
  have bDR:=FDR.binds (ps:=["self","formula"]) fun _ _ _ _ _ _ us hl=>by obtain ⟨a,b,rfl⟩:=hJ hl; rfl
  have mDR:kW K CD "reckon" f47:=⟨a47,i47,k47⟩
  have FDQ:=iH (x:="queue_of") (qual:="Doing.queue_of") (st:=dP) l48 c48 k48
  have bDQ:=FDQ.binds (ps:=["self","name"]) fun _ _ _ _ _ _ us hl=>by obtain ⟨a,b,rfl⟩:=hJ hl; rfl
  have mDQ:kW K CD "queue_of" f48:=⟨a48,i48,k48⟩
  have FDF:=iH (x:="fill") (qual:="Doing.fill") (st:=eZ) l49 c49 k49
  have bDF:=FDF.binds (ps:=["self","box","worth"]) fun _ _ _ _ _ _ us hl=>by obtain ⟨a,b,c,rfl⟩:=iN hl; rfl
  have mDF:kW K CD "fill" f49:=⟨a49,i49,k49⟩
  have MCD:Mk K CD f45:=⟨mkCD,a45,i45,kcCD⟩
  have B:Bl mg:=⟨dM X G zlen,dM X G zabs,dM X G zisinstance,dM X G zlist,dM X G ztuple,dM X G zstr,dM X G zint,dM X G zbool,dM X G zrange,dM X G zmax,dM X G zdict⟩
  have TM:MdT K mg CM CS:=⟨⟨pgCM,hdCM,poCM,saCM⟩,⟨pgCS,hdCS,poCS,saCS⟩,nCMmachines,nCSboxes,nCSqueues,nCSdrawn,nCSsent,df X G aCM,df X G aCS⟩
  have TD:DT K mg CD:=⟨⟨pgCD,hdCD,poCD,saCD⟩,nCDmachine,nCDhappening,nCDstate,nCDwritten,nCDoutgoing,nCDends,nCDreckoned,nCDqueued,df X G aCD⟩
  have T6:Am K mg (ue CN CG CU CY CP CL):=⟨⟨df X G aCN,df X G aCG,xCN,xCG,enn,egn,egg⟩,df X G aCU,df X G aCY,df X G aCP,df X G aCL,xCU,xCY,xCP,xCL⟩
  have MtN:Mt K CD "now" "Doing.now" gv ["self"] _ _:=⟨FDN,bDN,mDN⟩
  have MtR:Mt K CD "reckon" "Doing.reckon" d9 ["self","formula"] _ _:=⟨FDR,bDR,mDR⟩
  have MtQ:Mt K CD "queue_of" "Doing.queue_of" dP ["self","name"] _ _:=⟨FDQ,bDQ,mDQ⟩
  have MtF:Mt K CD "fill" "Doing.fill" eZ ["self","box","worth"] _ _:=⟨FDF,bDF,mDF⟩
  have MtC:Mt K CS "copy" "State.copy" gx ["self"] _ _:=⟨FSC,bSC,mSC⟩
  have XN100:nG K CN:=⟨gaCN,ghCN,gcCN,hcn,hck,obCN,beCN⟩
  have FW100:=iH (x:="word") (qual:="Nought.word") (st:=hW) l100 c100 k100
  have bW100:=FW100.binds (ps:=["self"]) fun _ _ _ _ _ _ us hl=>by obtain ⟨a,rfl⟩:=gI hl; rfl
  have mW100:kW K CN "word" f100:=⟨a100,i100,k100⟩
  have XN101:nG K CG:=⟨gaCG,ghCG,gcCG,hcn,hck,obCG,beCG⟩
  have FW101:=iH (x:="word") (qual:="Great.word") (st:=iB) l101 c101 k101
  have bW101:=FW101.binds (ps:=["self"]) fun _ _ _ _ _ _ us hl=>by obtain ⟨a,rfl⟩:=gI hl; rfl
  have mW101:kW K CG "word" f101:=⟨a101,i101,k101⟩
  have XN102:nG K CU:=⟨gaCU,ghCU,gcCU,hcn,hck,obCU,beCU⟩
  have FW102:=iH (x:="word") (qual:="Full.word") (st:=iY) l102 c102 k102
  have bW102:=FW102.binds (ps:=["self"]) fun _ _ _ _ _ _ us hl=>by obtain ⟨a,rfl⟩:=gI hl; rfl
  have mW102:kW K CU "word" f102:=⟨a102,i102,k102⟩
  have XN103:nG K CY:=⟨gaCY,ghCY,gcCY,hcn,hck,obCY,beCY⟩
  have FW103:=iH (x:="word") (qual:="Dry.word") (st:=ju) l103 c103 k103
  have bW103:=FW103.binds (ps:=["self"]) fun _ _ _ _ _ _ us hl=>by obtain ⟨a,rfl⟩:=gI hl; rfl
  have mW103:kW K CY "word" f103:=⟨a103,i103,k103⟩
  have XN104:nG K CP:=⟨gaCP,ghCP,gcCP,hcn,hck,obCP,beCP⟩
  have FW104:=iH (x:="word") (qual:="Span.word") (st:=iZ) l104 c104 k104
  have bW104:=FW104.binds (ps:=["self"]) fun _ _ _ _ _ _ us hl=>by obtain ⟨a,rfl⟩:=gI hl; rfl
  have mW104:kW K CP "word" f104:=⟨a104,i104,k104⟩
  have XN105:nG K CL:=⟨gaCL,ghCL,gcCL,hcn,hck,obCL,beCL⟩
  have FW105:=iH (x:="word") (qual:="Late.word") (st:=i5) l105 c105 k105
  have bW105:=FW105.binds (ps:=["self"]) fun _ _ _ _ _ _ us hl=>by obtain ⟨a,rfl⟩:=gI hl; rfl
  have mW105:kW K CL "word" f105:=⟨a105,i105,k105⟩
  have mFa:mg "Fault"=some (.ref CF):=df X G aCF
  have MW:∀ e,kW K ((ue CN CG CU CY CP CL) e) "word" ((ya f100 f101 f102 f103 f104 f105) e):=fun e=>by cases e <;> assumption
  have XNs:∀ e,nG K ((ue CN CG CU CY CP CL) e):=fun e=>by cases e <;> assumption
  have XFs:∀ e,dy K (.ref ((ue CN CG CU CY CP CL) e)) (.ref CF)=some true:=fun e=>by cases e <;> assumption
  have BW:∀ e,Binds K (ya _ _ _ _ _ _ e) ["self"] []:=yb bW100 bW101 bW102 bW103 bW104 bW105
  have X6:Cls6 K mg (ue CN CG CU CY CP CL) CE:=⟨⟨df X G aCN,df X G aCG,df X G aCU,df X G aCY,df X G aCP,df X G aCL⟩,df X G aCE,dM X G zValueError,XNs,fun e e2=>by cases e <;> cases e2 <;> assumption,fun e=>by cases e <;> assumption,fun e=>by cases e <;> assumption⟩
  have WI:StIs K CS:=⟨wha,hcn,hck,whm,wkt⟩
  exact ⟨_,fun s v=>.of_eq rfl,fun base _ _=>EV D41 D18 D17 D19 D27 (ok_mo D27 D20 D26 (fun sgs=>ok_ma D26 D20 D25 (fun bs qs=>(C3 D25 D24 D23 D22 D21 D19 B 5)) D19 B) D19 B) D35 D36 D40 (fun bs qs=>ok_as (bs:=bs) (qs:=qs) (CD:=CD) D40 MCS bSI (CO FSI TM) D34 (ok_ld D34 D32 (ok_od D32 D30 D31 D29 D28 B) D33 B) D38 (ok_to (n:=5) (fW:=(ya f100 f101 f102 f103 f104 f105)) (fdW:=(ya _ _ _ _ _ _)) D38 D5 (BR (n:=5) D5 D6 MCD bDI (ok_DI FDI MtC (BP FSC MCS FSI bSI B TM) TD TM) D9 (ve D9 D10 MtF MtR (qh (cf:=(ue CN CG CU CY CP CL)) MtR MtN D1 D3 D4 D2 TD T6 TM B) D12 D11 (BH D11 MtR (qh (cf:=(ue CN CG CU CY CP CL)) MtR MtN D1 D3 D4 D2 TD T6 TM B) MtQ TD T6 TM B) D13 (Ar D13 MtR (qh (cf:=(ue CN CG CU CY CP CL)) MtR MtN D1 D3 D4 D2 TD T6 TM B) MtF TD T6 TM B) D14 (BK D14 MtR (qh (cf:=(ue CN CG CU CY CP CL)) MtR MtN D1 D3 D4 D2 TD T6 TM B) MtN TD T6 TM B) MtQ TD TM 5) D7 D8 TD TM B) mFa XFs B X6 MW BW (yb (wY FW100) (y8 FW101) (AV FW102) (Cm FW103) (AW FW104) (AX FW105))) D39 (ok_rg D39 D37 (C7 D37 D16 WI B TM) kss kts ktt kbb B) D37 (C7 D37 D16 WI B TM) kss kts wI z6 B TM) MCM bMI (ok_MI (n:=29) FMI D15 B TM) B TM⟩
theorem walk {l:pU} {q:aX} {loose:List Str} {XP:(Str->Option af)->cR->Prop} {YP:cz->cR->Prop} {d:DefRec} {K:Params->aj} (hn:l.most=some 63) (hdf:d.params.defaults=[])
    (hY:∀ (w:cz) (h:cR),YP w h->(K w.params).In h)
    (F:∀ (w:cz) (mg:Str->Option af) (fa:ae) (h:cR),(K w.params).In h->h.Ns aH mg->mg d.name=some (.ref fa) ->
      ∃ fd:cH,(∀ (s:ax) (u:af),vB s fd ⟨[u],[]⟩ [("_law_script",u)])/\∀ base:cR,(K w.params).In base->base.Ns aH mg->bZ l.prog w (K w.params) mg base CX0 40 fa fd ["_law_script"] (x9 (K w.params))) :
    A2 q loose XP YP l.row.toRowW d [] (fun f vs=>yy f vs):=
  L2.walk_ofB (n:=63) (k:=40) (x:="_law_script") (CX:=fun _=>CX0) (sp:=fun w=>x9 (K w.params)) hn (by decide) hdf ⟨rfl,by decide,by decide⟩ hY F (fun _ _ a ns hl hb hS=>⟨a,ns,rfl,hS,hl,hb,fun _=>rfl⟩) fun _ _ _ _ _ z=>z
end My
namespace PySem.W.Fast
def tw6231891010474363494:=0
def tw13042713671351614943:=0
def tw18207871801442725533:=0
def tw4374128635882950014:=0
def tw15882216575833933306:=0
def tw17195076237556982685:=0
def tw18167368865136609366:=0
def tw17178789646186587462:=0
def tw15623741498181373871:=0
def tw55174024020316096:=0
def tw653880715332422613:=0
def tw8303342146083130844:=0
def tw14437822134829750651:=0
def tw462295968049831821:=0
def tw885362337751923896:=0
def tw14723126536027695582:=0
def tw12946037551422281758:=0
def tw11398273817231165560:=0
def tw15159507367882712286:=0
def tw12552027864737117049:=0
def tw18005813275105233878:=0
def tw4237110103503372088:=0
def tw15329716821229941525:=0
def tw17233917915201404562:=0
def tw3844369610319103743:=0
def tw15211486135303147737:=0
def tw3471771682110232451:=0
def tw9563336930240056946:=0
def tw8297351523788719408:=0
def tw16989221050993467982:=0
def tw16745498490485532436:=0
def tw8276660597189698442:=0
def tw11778649104370074560:=0
def tw7451170035875219908:=0
def tw6403027970918577791:=0
def tw1646501025696205663:=0
def tw8648093568268244747:=0
def tw18376962160656665753:=0
def tw3842613776089650611:=0
def tw1986497804724579021:=0
def tw17506150768988128054:=0
def tw860047175951264311:=0
def tw9451299466707712067:=0
def tw4661171513073944730:=0
def tw15216217368869081828:=0
def tw18398721777470242040:=0
def tw15224412034013055519:=0
def tw2272959525837149737:=0
def tw5252299978403401125:=0
def tw8862475456557026334:=0
def tw16483739734968402804:=0
def tw8676258940686589445:=0
def tw12095758368844154849:=0
def tw14684708422229341487:=0
def tw4676439878418780362:=0
def tw14200943464687615456:=0
def tw8056436108764515341:=0
def tw2925933024282906195:=0
def tw12292594952448765294:=0
def tw6924081452074109579:=0
def tw5323682619378496602:=0
def tw10396606395300988946:=0
def tw8798002978667891521:=0
def tw11115657839782474930:=0
def tw7206803067848339041:=0
def tw3612333088775582203:=0
def tw6136891686140221208:=0
def tw16132280929898967843:=0
def tw6647817840249356076:=0
def tw16778327316306281172:=0
def tw2954154514652899458:=0
def tw16681636004499885800:=0
def tw2465200180639088341:=0
def tw16169740633392824388:=0
def tw13700968075180062889:=0
def tw11828678121612011555:=0
def tw15458754043772328901:=0
def tw702096621058871729:=0
def tw9919667142301011843:=0
def tw8113266523278156894:=0
def tw10813365619985149386:=0
def tw3149955933422543582:=0
def tw2204993057454512751:=0
def tw684066139424017083:=0
def tw4984316268342858710:=0
def tw2170469866840502239:=0
def tw11511806779586416603:=0
def tw3483523748987226296:=0
def tw690664849425728265:=0
def tw6172199507044625133:=0
def tw4543609724085378858:=0
def tw7766800500652906654:=0
def tw9145054793148487368:=0
def tw10192624068667711024:=0
def tw8477474419048548034:=0
def tw6490468850540097920:=0
def tw4211475474291084460:=0
def tw16905816053983078807:=0
def tw8961890191269064829:=0
def tw5542102925446922777:=0
def tw4886067073156649105:=0
def tw6681925099567561874:=0
def tw10753207883958055156:=0
def tw14945309687285002346:=0
def tw15097989803600843963:=0
def tw3812333172520333898:=0
def tw4800612856142282718:=0
def tw13452326772006676811:=0
def tw11118535439166546218:=0
def tw3114761010254821627:=0
def tw446534809318014195:=0
def tw9234443561675074530:=0
def tw8151365848610309739:=0
def tw11664038032158165124:=0
def tw2425652156950563280:=0
def tw7475168302648784968:=0
def tw10442368950876870529:=0
def tw9706354015381432831:=0
def tw14401405942778422275:=0
def tw15661222790937040726:=0
def tw8561336560353830185:=0
def tw3471700811901105382:=0
def tw517369605276103301:=0
def tw2835190120513988702:=0
def tw12863433912425537889:=0
def tw16770628261450235289:=0
def tw13726189204732819704:=0
def tw14511626600887311262:=0
def tw11607605655038840221:=0
def tw15167483810108735157:=0
def tw3613407248451544441:=0
def tw10462424918863466843:=0
def tw4554835602135150731:=0
def tw17321792528473263050:=0
def tw4941393243983768454:=0
def tw65347552833484627:=0
def tw2304486136207593353:=0
def tw1627065648250018784:=0
def tw14929702471580396183:=0
def tw1581082835652133815:=0
def tw11242706155626454447:=0
def tw8112313726838511206:=0
def tw9908429706449466868:=0
def tw18020413362261336173:=0
def tw5684785737131735368:=0
def tw8282304146110371999:=0
def tw7704135401394347419:=0
def tw10465466174427652997:=0
def tw9081929395248888542:=0
def tw4212641712025075966:=0
def tw2484822989525003585:=0
def tw17688565593294725683:=0
def tw7425171011951227974:=0
def tw1692198454892736827:=0
def tw2288904130948546114:=0
def tw14152320319519410575:=0
def tw1044695938788540901:=0
def tw13949103052626342518:=0
def tw1496796800641785913:=0
def tw17455884292038458635:=0
def tw3059802005351411378:=0
def tw5459091812378049715:=0
def tw5828371015818128340:=0
def tw6457119454527756745:=0
def tw4817284838079219981:=0
def tw7847362882401757700:=0
def tw8977120253296271380:=0
def tw9971465865759390733:=0
def tw11015289683368186923:=0
def tw18027964536886260667:=0
def tw13057472565804000717:=0
def tw18370450880891243163:=0
def tw8152917838505294112:=0
def tw8527852807932017986:=0
def tw11229801212624759318:=0
def tw2809431141065493479:=0
def tw5762957073179444374:=0
def tw15151430237202057295:=0
def tw325969846509912801:=0
def tw16381474546618958499:=0
def tw6037471570950065496:=0
def tw15557369829920366823:=0
def tw16958389916393051762:=0
def tw4117998993148615199:=0
def tw1277303303177400231:=0
def tw15752407604327645169:=0
def tw3666939104092992231:=0
def tw12033259666195025783:=0
def tw6059820622714499436:=0
def tw12487213784506826798:=0
def tw13214081725584693149:=0
def tw3356121061148457284:=0
def tw18407497312423505455:=0
def tw1069190591282814362:=0
def tw18048528629680799538:=0
def tw7389833262549592683:=0
def tw13754645647820945332:=0
def tw6269792063402159405:=0
def tw10189777155024785244:=0
def tw6216563039638710410:=0
def tw6677012009257943959:=0
def tw9395563291109585140:=0
def tw6312175765406486299:=0
def tw14483462606467809657:=0
def tw5140725366373432766:=0
def tw16505006893494717791:=0
def tw900141829360393275:=0
def tw13453318644708023138:=0
def tw9600465825656293266:=0
def tw14655851927904272372:=0
def tw8715956240844594104:=0
def tw7665544094847405498:=0
def tw13779269265944844547:=0
def tw14275194789996263065:=0
def tw9047664971489788176:=0
def tw10388007984674061618:=0
def tw17093119266250924958:=0
def tw14314728433157303344:=0
def tw4957382167571306671:=0
def tw15621797763281961346:=0
def tw5016117323305358452:=0
def tw8523640613959623896:=0
def tw8007464500002938097:=0
def tw6501499405823979593:=0
def tw2640871899203664521:=0
def tw14188733966153817364:=0
def tw6001448189843787348:=0
def tw10681553501701023551:=0
def tw16940008717877786628:=0
def tw11114797301043214776:=0
def tw17873716821419283983:=0
def tw5862247353085537809:=0
def tw7232453949741103508:=0
def tw1087569425228300339:=0
def tw1589144259121109084:=0
def tw12169636795098964577:=0
def tw8029466354015989523:=0
def tw6193568707201505407:=0
def tw5095979635986092559:=0
def tw16244071313067486569:=0
def tw8251001300758100462:=0
def tw5736564090869423314:=0
def tw6226333375005226752:=0
def tw7694948247407918132:=0
def tw15441624316912507717:=0
def tw17552362818231540972:=0
def tw8941929228884044320:=0
def tw5222319433429427855:=0
def tw7374816240202580426:=0
def tw3985943567633754629:=0
def tw16759389442694311843:=0
def tw3620213384773764957:=0
def tw17995672761759153602:=0
def tw1182499970152735869:=0
def tw17310912042418159104:=0
def tw6336450026221178395:=0
def tw16665034318429536087:=0
def tw14009726259525908626:=0
def tw2394577787486233178:=0
def tw13354702492520630984:=0
def tw17562694609613735709:=0
def tw12559106649556404453:=0
def tw8663745684688431944:=0
def tw8200426810922582704:=0
def tw6192330557584145531:=0
def tw1971059615499032318:=0
def tw15538977680077643615:=0
def tw12607472283778432962:=0
def tw12826577945998481539:=0
def tw45843761550545327:=0
def tw10948025811883873987:=0
def tw9473739648473736602:=0
def tw3813582591749743952:=0
def tw2500423294394142101:=0
def tw3930106674339376652:=0
def tw14255671774506172037:=0
def tw7044390254985316356:=0
def tw5054400239585227751:=0
def tw4991093173611678230:=0
def tw7342862911908572999:=0
def tw17838384401601057937:=0
def tw2402355944332798456:=0
def tw429935299162656779:=0
def tw13204200095415008760:=0
def tw4943653290930120538:=0
def tw52708779691906489:=0
def tw6250653563208843122:=0
def tw127941288197181897:=0
def tw9453239053906672224:=0
def tw4038866999269048888:=0
def tw13554806322112724930:=0
def tw14902972740813114349:=0
def tw17496256386795980232:=0
def tw12983940140951575528:=0
def tw13413172664110107277:=0
def tw10449394844977877863:=0
def tw7046280629382785062:=0
def tw7735249062138061569:=0
def tw10085589688875373292:=0
def tw4831854308073761354:=0
def tw6855734429026790466:=0
def tw16505758714736530582:=0
def tw8274789031857378571:=0
def tw7881657466442177361:=0
def tw17656832504773365092:=0
def tw12480367581635594625:=0
def tw5729897154420250600:=0
def tw2894457271877027607:=0
end PySem.W.Fast
open PySem PySem.W PyProof.Rows
set_option maxRecDepth 100000 in
set_option maxHeartbeats 0 in
theorem PySem.Challenge.cw_momentloom_k10_happenings_done_holds : PySem.Challenge.rw_momentloom_k10_happenings_done.Holds := by
  w_on; o_law; k_head; (case hw=>w_witness2)
  k_fill
  refine My.walk (l:=EW) rfl rfl (fun w h Y=>PySem.W.kIn_of Y) ?F
  case F =>
    intro w mg fa h KX G hmg
    refine' My.all_mk KX G hmg ?a1 ?l1 ?c1 ?k1 ?a2 ?l2 ?c2 ?k2 ?a3 ?l3 ?c3 ?k3 ?a4 ?l4 ?c4 ?k4 ?a5 ?l5 ?c5 ?k5 ?a6 ?l6 ?c6 ?k6 ?a7 ?l7 ?c7 ?k7 ?a8 ?l8 ?c8 ?k8 ?a9 ?l9 ?c9 ?k9 ?a10 ?l10 ?c10 ?k10 ?a11 ?l11 ?c11 ?k11 ?a12 ?l12 ?c12 ?k12 ?a13 ?l13 ?c13 ?k13 ?a14 ?l14 ?c14 ?k14 ?a15 ?l15 ?c15 ?k15 ?a16 ?l16 ?c16 ?k16 ?a17 ?l17 ?c17 ?k17 ?a18 ?l18 ?c18 ?k18 ?a19 ?l19 ?c19 ?k19 ?a20 ?l20 ?c20 ?k20 ?a21 ?l21 ?c21 ?k21 ?a22 ?l22 ?c22 ?k22 ?a23 ?l23 ?c23 ?k23 ?a24 ?l24 ?c24 ?k24 ?a25 ?l25 ?c25 ?k25 ?a26 ?l26 ?c26 ?k26 ?a27 ?l27 ?c27 ?k27 ?a28 ?l28 ?c28 ?k28 ?a29 ?l29 ?c29 ?k29 ?a30 ?l30 ?c30 ?k30 ?a31 ?l31 ?c31 ?k31 ?a32 ?l32 ?c32 ?k32 ?a33 ?l33 ?c33 ?k33 ?a34 ?l34 ?c34 ?k34 ?a35 ?l35 ?c35 ?k35 ?a36 ?l36 ?c36 ?k36 ?a37 ?l37 ?c37 ?k37 ?a38 ?l38 ?c38 ?k38 ?a39 ?l39 ?c39 ?k39 ?a40 ?l40 ?c40 ?k40 ?a41 ?l41 ?c41 ?k41 ?aCM ?a42 ?i42 ?l42 ?c42 ?k42 ?pgCM ?hdCM ?poCM ?saCM ?mkCM ?kcCM ?nCMmachines ?aCS ?a43 ?i43 ?l43 ?c43 ?k43 ?a44 ?i44 ?l44 ?c44 ?k44 ?pgCS ?hdCS ?poCS ?saCS ?mkCS ?kcCS ?nCSboxes ?nCSqueues ?nCSdrawn ?nCSsent ?aCD ?a45 ?i45 ?l45 ?c45 ?k45 ?a46 ?i46 ?l46 ?c46 ?k46 ?a47 ?i47 ?l47 ?c47 ?k47 ?a48 ?i48 ?l48 ?c48 ?k48 ?a49 ?i49 ?l49 ?c49 ?k49 ?pgCD ?hdCD ?poCD ?saCD ?mkCD ?kcCD ?nCDmachine ?nCDhappening ?nCDstate ?nCDwritten ?nCDoutgoing ?nCDends ?nCDreckoned ?nCDqueued ?aCN ?xCN ?aCG ?xCG ?aCU ?xCU ?aCY ?xCY ?aCP ?xCP ?aCL ?xCL ?aCF ?xCF ?aCE ?xCE ?enn ?egn ?egg ?hcn ?hck ?wha ?whm ?wkt ?kbb ?kss ?kts ?ktt ?xfCN ?keCN ?kvCN ?kkCNCN ?kkCNCG ?kkCNCU ?kkCNCY ?kkCNCP ?kkCNCL ?gaCN ?ghCN ?gcCN ?obCN ?beCN ?a100 ?i100 ?l100 ?c100 ?k100 ?xfCG ?keCG ?kvCG ?kkCGCN ?kkCGCG ?kkCGCU ?kkCGCY ?kkCGCP ?kkCGCL ?gaCG ?ghCG ?gcCG ?obCG ?beCG ?a101 ?i101 ?l101 ?c101 ?k101 ?xfCU ?keCU ?kvCU ?kkCUCN ?kkCUCG ?kkCUCU ?kkCUCY ?kkCUCP ?kkCUCL ?gaCU ?ghCU ?gcCU ?obCU ?beCU ?a102 ?i102 ?l102 ?c102 ?k102 ?xfCY ?keCY ?kvCY ?kkCYCN ?kkCYCG ?kkCYCU ?kkCYCY ?kkCYCP ?kkCYCL ?gaCY ?ghCY ?gcCY ?obCY ?beCY ?a103 ?i103 ?l103 ?c103 ?k103 ?xfCP ?keCP ?kvCP ?kkCPCN ?kkCPCG ?kkCPCU ?kkCPCY ?kkCPCP ?kkCPCL ?gaCP ?ghCP ?gcCP ?obCP ?beCP ?a104 ?i104 ?l104 ?c104 ?k104 ?xfCL ?keCL ?kvCL ?kkCLCN ?kkCLCG ?kkCLCU ?kkCLCY ?kkCLCP ?kkCLCL ?gaCL ?ghCL ?gcCL ?obCL ?beCL ?a105 ?i105 ?l105 ?c105 ?k105 ?zlen ?zabs ?zisinstance ?zlist ?ztuple ?zstr ?zint ?zbool ?zrange ?zmax ?zdict ?zValueError
    (case a1=>k_is)
    (case l1=>k_is)
    (case c1=>k_is)
    (case k1=>k_is)
    (case a2=>k_is)
    (case l2=>k_is)
    (case c2=>k_is)
    (case k2=>k_is)
    (case a3=>k_is)
    (case l3=>k_is)
    (case c3=>k_is)
    (case k3=>k_is)
    (case a4=>k_is)
    (case l4=>k_is)
    (case c4=>k_is)
    (case k4=>k_is)
    (case a5=>k_is)
    (case l5=>k_is)
    (case c5=>k_is)
    (case k5=>k_is)
    (case a6=>k_is)
    (case l6=>k_is)
    (case c6=>k_is)
    (case k6=>k_is)
    (case a7=>k_is)
    (case l7=>k_is)
    (case c7=>k_is)
    (case k7=>k_is)
    (case a8=>k_is)
    (case l8=>k_is)
    (case c8=>k_is)
    (case k8=>k_is)
    (case a9=>k_is)
    (case l9=>k_is)
    (case c9=>k_is)
    (case k9=>k_is)
    (case a10=>k_is)
    (case l10=>k_is)
    (case c10=>k_is)
    (case k10=>k_is)
    (case a11=>k_is)
    (case l11=>k_is)
    (case c11=>k_is)
    (case k11=>k_is)
    (case a12=>k_is)
    (case l12=>k_is)
    (case c12=>k_is)
    (case k12=>k_is)
    (case a13=>k_is)
    (case l13=>k_is)
    (case c13=>k_is)
    (case k13=>k_is)
    (case a14=>k_is)
    (case l14=>k_is)
    (case c14=>k_is)
    (case k14=>k_is)
    (case a15=>k_is)
    (case l15=>k_is)
    (case c15=>k_is)
    (case k15=>k_is)
    (case a16=>k_is)
    (case l16=>k_is)
    (case c16=>k_is)
    (case k16=>k_is)
    (case a17=>k_is)
    (case l17=>k_is)
    (case c17=>k_is)
    (case k17=>k_is)
    (case a18=>k_is)
    (case l18=>k_is)
    (case c18=>k_is)
    (case k18=>k_is)
    (case a19=>k_is)
    (case l19=>k_is)
    (case c19=>k_is)
    (case k19=>k_is)
    (case a20=>k_is)
    (case l20=>k_is)
    (case c20=>k_is)
    (case k20=>k_is)
    (case a21=>k_is)
    (case l21=>k_is)
    (case c21=>k_is)
    (case k21=>k_is)
    (case a22=>k_is)
    (case l22=>k_is)
    (case c22=>k_is)
    (case k22=>k_is)
    (case a23=>k_is)
    (case l23=>k_is)
    (case c23=>k_is)
    (case k23=>k_is)
    (case a24=>k_is)
    (case l24=>k_is)
    (case c24=>k_is)
    (case k24=>k_is)
    (case a25=>k_is)
    (case l25=>k_is)
    (case c25=>k_is)
    (case k25=>k_is)
    (case a26=>k_is)
    (case l26=>k_is)
    (case c26=>k_is)
    (case k26=>k_is)
    (case a27=>k_is)
    (case l27=>k_is)
    (case c27=>k_is)
    (case k27=>k_is)
    (case a28=>k_is)
    (case l28=>k_is)
    (case c28=>k_is)
    (case k28=>k_is)
    (case a29=>k_is)
    (case l29=>k_is)
    (case c29=>k_is)
    (case k29=>k_is)
    (case a30=>k_is)
    (case l30=>k_is)
    (case c30=>k_is)
    (case k30=>k_is)
    (case a31=>k_is)
    (case l31=>k_is)
    (case c31=>k_is)
    (case k31=>k_is)
    (case a32=>k_is)
    (case l32=>k_is)
    (case c32=>k_is)
    (case k32=>k_is)
    (case a33=>k_is)
    (case l33=>k_is)
    (case c33=>k_is)
    (case k33=>k_is)
    (case a34=>k_is)
    (case l34=>k_is)
    (case c34=>k_is)
    (case k34=>k_is)
    (case a35=>k_is)
    (case l35=>k_is)
    (case c35=>k_is)
    (case k35=>k_is)
    (case a36=>k_is)
    (case l36=>k_is)
    (case c36=>k_is)
    (case k36=>k_is)
    (case a37=>k_is)
    (case l37=>k_is)
    (case c37=>k_is)
    (case k37=>k_is)
    (case a38=>k_is)
    (case l38=>k_is)
    (case c38=>k_is)
    (case k38=>k_is)
    (case a39=>k_is)
    (case l39=>k_is)
    (case c39=>k_is)
    (case k39=>k_is)
    (case a40=>k_is)
    (case l40=>k_is)
    (case c40=>k_is)
    (case k40=>k_is)
    (case a41=>k_is)
    (case l41=>k_is)
    (case c41=>k_is)
    (case k41=>k_is)
    (case aCM=>k_is)
    (case a42=>k_is)
    (case i42=>k_is)
    (case l42=>k_is)
    (case c42=>k_is)
    (case k42=>k_is)
    (case pgCM=>k_is)
    (case hdCM=>k_is)
    (case poCM=>k_is)
    (case saCM=>k_is)
    (case mkCM=>k_is)
    (case kcCM=>k_is)
    (case nCMmachines=>k_is)
    (case aCS=>k_is)
    (case a43=>k_is)
    (case i43=>k_is)
    (case l43=>k_is)
    (case c43=>k_is)
    (case k43=>k_is)
    (case a44=>k_is)
    (case i44=>k_is)
    (case l44=>k_is)
    (case c44=>k_is)
    (case k44=>k_is)
    (case pgCS=>k_is)
    (case hdCS=>k_is)
    (case poCS=>k_is)
    (case saCS=>k_is)
    (case mkCS=>k_is)
    (case kcCS=>k_is)
    (case nCSboxes=>k_is)
    (case nCSqueues=>k_is)
    (case nCSdrawn=>k_is)
    (case nCSsent=>k_is)
    (case aCD=>k_is)
    (case a45=>k_is)
    (case i45=>k_is)
    (case l45=>k_is)
    (case c45=>k_is)
    (case k45=>k_is)
    (case a46=>k_is)
    (case i46=>k_is)
    (case l46=>k_is)
    (case c46=>k_is)
    (case k46=>k_is)
    (case a47=>k_is)
    (case i47=>k_is)
    (case l47=>k_is)
    (case c47=>k_is)
    (case k47=>k_is)
    (case a48=>k_is)
    (case i48=>k_is)
    (case l48=>k_is)
    (case c48=>k_is)
    (case k48=>k_is)
    (case a49=>k_is)
    (case i49=>k_is)
    (case l49=>k_is)
    (case c49=>k_is)
    (case k49=>k_is)
    (case pgCD=>k_is)
    (case hdCD=>k_is)
    (case poCD=>k_is)
    (case saCD=>k_is)
    (case mkCD=>k_is)
    (case kcCD=>k_is)
    (case nCDmachine=>k_is)
    (case nCDhappening=>k_is)
    (case nCDstate=>k_is)
    (case nCDwritten=>k_is)
    (case nCDoutgoing=>k_is)
    (case nCDends=>k_is)
    (case nCDreckoned=>k_is)
    (case nCDqueued=>k_is)
    (case aCN=>k_is)
    (case xCN=>k_exc)
    (case aCG=>k_is)
    (case xCG=>k_exc)
    (case aCU=>k_is)
    (case xCU=>k_exc)
    (case aCY=>k_is)
    (case xCY=>k_exc)
    (case aCP=>k_is)
    (case xCP=>k_exc)
    (case aCL=>k_is)
    (case xCL=>k_exc)
    (case aCF=>k_is)
    (case xCF=>k_exc)
    (case aCE=>k_is)
    (case xCE=>k_exc)
    (case enn=>kts_exm)
    (case egn=>kts_exm)
    (case egg=>kts_exm)
    (case hcn=>k_is)
    (case hck=>k_is)
    (case wha=>k_is)
    (case whm=>k_is)
    (case wkt=>kit_is)
    (case kbb=>kit_is)
    (case kss=>kit_is)
    (case kts=>kit_is)
    (case ktt=>kit_is)
    (case xfCN=>kts_exm)
    (case keCN=>kit_is)
    (case kvCN=>kit_is)
    (case kkCNCN=>kit_is)
    (case kkCNCG=>kit_is)
    (case kkCNCU=>kit_is)
    (case kkCNCY=>kit_is)
    (case kkCNCP=>kit_is)
    (case kkCNCL=>kit_is)
    (case gaCN=>k_is)
    (case ghCN=>k_is)
    (case gcCN=>k_is)
    (case obCN=>k_is)
    (case beCN=>k_is)
    (case a100=>k_is)
    (case i100=>k_is)
    (case l100=>k_is)
    (case c100=>k_is)
    (case k100=>k_is)
    (case xfCG=>kts_exm)
    (case keCG=>kit_is)
    (case kvCG=>kit_is)
    (case kkCGCN=>kit_is)
    (case kkCGCG=>kit_is)
    (case kkCGCU=>kit_is)
    (case kkCGCY=>kit_is)
    (case kkCGCP=>kit_is)
    (case kkCGCL=>kit_is)
    (case gaCG=>k_is)
    (case ghCG=>k_is)
    (case gcCG=>k_is)
    (case obCG=>k_is)
    (case beCG=>k_is)
    (case a101=>k_is)
    (case i101=>k_is)
    (case l101=>k_is)
    (case c101=>k_is)
    (case k101=>k_is)
    (case xfCU=>kts_exm)
    (case keCU=>kit_is)
    (case kvCU=>kit_is)
    (case kkCUCN=>kit_is)
    (case kkCUCG=>kit_is)
    (case kkCUCU=>kit_is)
    (case kkCUCY=>kit_is)
    (case kkCUCP=>kit_is)
    (case kkCUCL=>kit_is)
    (case gaCU=>k_is)
    (case ghCU=>k_is)
    (case gcCU=>k_is)
    (case obCU=>k_is)
    (case beCU=>k_is)
    (case a102=>k_is)
    (case i102=>k_is)
    (case l102=>k_is)
    (case c102=>k_is)
    (case k102=>k_is)
    (case xfCY=>kts_exm)
    (case keCY=>kit_is)
    (case kvCY=>kit_is)
    (case kkCYCN=>kit_is)
    (case kkCYCG=>kit_is)
    (case kkCYCU=>kit_is)
    (case kkCYCY=>kit_is)
    (case kkCYCP=>kit_is)
    (case kkCYCL=>kit_is)
    (case gaCY=>k_is)
    (case ghCY=>k_is)
    (case gcCY=>k_is)
    (case obCY=>k_is)
    (case beCY=>k_is)
    (case a103=>k_is)
    (case i103=>k_is)
    (case l103=>k_is)
    (case c103=>k_is)
    (case k103=>k_is)
    (case xfCP=>kts_exm)
    (case keCP=>kit_is)
    (case kvCP=>kit_is)
    (case kkCPCN=>kit_is)
    (case kkCPCG=>kit_is)
    (case kkCPCU=>kit_is)
    (case kkCPCY=>kit_is)
    (case kkCPCP=>kit_is)
    (case kkCPCL=>kit_is)
    (case gaCP=>k_is)
    (case ghCP=>k_is)
    (case gcCP=>k_is)
    (case obCP=>k_is)
    (case beCP=>k_is)
    (case a104=>k_is)
    (case i104=>k_is)
    (case l104=>k_is)
    (case c104=>k_is)
    (case k104=>k_is)
    (case xfCL=>kts_exm)
    (case keCL=>kit_is)
    (case kvCL=>kit_is)
    (case kkCLCN=>kit_is)
    (case kkCLCG=>kit_is)
    (case kkCLCU=>kit_is)
    (case kkCLCY=>kit_is)
    (case kkCLCP=>kit_is)
    (case kkCLCL=>kit_is)
    (case gaCL=>k_is)
    (case ghCL=>k_is)
    (case gcCL=>k_is)
    (case obCL=>k_is)
    (case beCL=>k_is)
    (case a105=>k_is)
    (case i105=>k_is)
    (case l105=>k_is)
    (case c105=>k_is)
    (case k105=>k_is)
    (case zlen=>k_is)
    (case zabs=>k_is)
    (case zisinstance=>k_is)
    (case zlist=>k_is)
    (case ztuple=>k_is)
    (case zstr=>k_is)
    (case zint=>k_is)
    (case zbool=>k_is)
    (case zrange=>k_is)
    (case zmax=>k_is)
    (case zdict=>k_is)
    (case zValueError=>k_is)

