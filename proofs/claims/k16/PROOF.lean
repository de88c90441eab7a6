import PyProof.Rows.All
import Wide.All
import OpenK.AllK
import Wide.FinOn
import Lean
import PyProof.EqAt
import PyProof.EqKinds
import PyProof.TupleCall
import KE.KDictOf
import PyProof.AttrMissSeq
import PyProof.DictCopy
import PyProof.NeKinds
import PyProof.DictWalks
import PyProof.MinMaxWalk
import PyProof.MeetsDictList
import PyProof.DictFindH
import PyProof.DictTruth
import KE.KRevSl
import PyProof.DictItems
import KE.KDictSum
import PyProof.Rows.SortStr
import PyProof.Rows.SortWalk
import PyProof.ExcArgsOwn
import PyProof.NsDelKeeps
import PyProof.EnumMake
import PyProof.EnumFor
import PyProof.EnumStmt
import PyProof.Rows.EnumRows
import PyProof.Rows.SortRev
import PyProof.StrBlockI
import PyProof.SliceStr2
import KE.KSortTup
import PyProof.DictIter
import PySem.Challenge.RW_momentloom_k16_plain_runs
open Option renaming some->Z8,none->Z7
theorem Z9.{u}{α:Sort u}{a:α}:a=a:=rfl
local macro_rules
| `({$x:term,*})=>`(⟨$x,*⟩)
open List renaming mem_cons_of_mem->aa,length_map->ai,mem_cons_self->ax,length_append->aB,getElem?_eq_some_iff->aC,mem_singleton->aD,mem_cons->aE,getElem?_eq_getElem->aI,size_toArray->aJ,map_append->aU,mem_append_right->aV,mem_of_getElem?->bJ,getElem?_map->bM,mem_append->bY,nodup_cons->cu,length_cons->cw,getElem?_of_mem->cz,append_nil->cB,mem_map->cD,take_length->cF,length_take->cL,lookup_cons->cM,map_cons->cP,replicate->cT,length_nil->cY,take_add_one->dh,pairwise_iff_getElem->dA,mem_append_left->dD,take_zero->dE,lookup_cons_self->dJ,getElem?_append_right->dM,length_filter_le->dX,getElem?_set_self->eG,map_map->eI,length_reverse->eO,nodup_append->eR,not_mem_nil->e7,getD_eq_getElem?_getD->fj,getElem?_append_left->fu,range->gQ,pairwise_cons->gS,getElem?_set_ne->hW,take_sublist->hZ,pairwise_append->ic,zip_cons_cons->iH,getElem?_eq_none->iR,append_assoc->iX,nodup_nil->ji,dropLast_subset->jj,getElem_map->jt,reverse_nil->ju,map_congr_left->jB,length->jK,reverse_cons->jW,length_replicate->kr,getElem_mem->kJ,any_cons->kO,length_dropLast->kR,eq_nil_of_length_eq_zero->kY,mem_map_of_mem->mf,pairwise_map->nU,map_take->oh,getElem?_replicate->oS,pairwise_singleton->oX,of_mem_zip->pC,contains_iff_mem->qj,mem_range->qG,lookup->qH,dropLast_concat->qL,getElem?_mapIdx->qM,filterMap_cons->q9,length_pos_iff->rj,mem_filterMap->rZ,ext_getElem?->tu,toArray->tE,reverse_perm->tF,length_drop->tY,cons_append->um,map_reverse->uv,foldl_cons->vy,length_zip->vz,getElem?_zip_eq_some->xK,drop_eq_getElem_cons->x9,getLast?_eq_none_iff->yk,getElem?_take_of_lt->yG,all_cons->yJ,length_singleton->Ay,take_append_drop->A0,perm_append_comm->A9,mem_of_mem_take->BI,getLast?_concat->B9,map_eq_nil_iff->Dv,zip_nil_right->Ee,getElem?_drop->Ei,set_cons_succ->En,zip_nil_left->ER,all_eq_false->E9,foldl_append->Ft,getElem?_inj->Gy,eraseIdx_nil->HR,drop_length->Ic,perm_middle->Ie,isEmpty_iff->Ig,mem_filter->Ih,length_set->IE,nil_append->JX,drop_zero->KF,perm_cons->Lk,map_drop->Np,map_nil->Of
open PySem renaming Addr->ae,Value->aj,wpAny_bind->au,Shared->aw,sizeLine->aG,Paired->aO,Program->aQ,wpAny_pure->bK,boot_len->bO,wpAny->bQ,model->bR,World->bU,Around->b8,FuncData->cm,mainGlobals->cv,Heap->cG,starEach->cO,wpAny_loadPart'->cQ,Expr->c8,Stmt->c9,cLine->dY,sysModules->dZ,bootBuiltins->eB,compareOp->eE,wpAny_mono->eJ,wpAny_holding->eK,eval->gc,mem_of_lookup->gx,wpAny_truthy_bool->gG,codeAny_builtin->gI,binaryOp->iK,wpAny_Call_Name_kw->iS,Builtin->iT,wpAny_passesOwn->i5,plainId_quiet->jh,backTo->jk,keywordEach->jC,Scope->jS,behindInMarks->jT,richCompare->kg,NameKind->kM,richCompare_meets_room->kN,assignEach->lF,wpAny_forIn_list->lL,codeAny->mi,attributeBase->mj,sliceBounds->mm,codeAny_mono->ng,valueAt->nj,call_meetsIn->nv,wpAny_richCompare_same_room->ny,backToKw->oq,call_meets->oz,wpAny_tryCatch->oB,holding->o7,foldedSetIterable->o8,wpAny_dictEntries->o9,argBest->pe,swapsWith->qB,getMethod->qD,wpAny_execs_nil->rg,argBest->rh,wpAny_updateSeq->rm,wpAny_seqItems->sJ,BindsTo->sZ,ExceptHandler->ua,wpAny_newList->ug,rawInt->uB,tupleKind_room_in1->uK,standAt->vB,wpAny_pyIter_list->vC,call->vD,getItem->vG,slot_list_getitem->vH,wpAny_newObj_type->vK,wpAny_pyIter_slot->vM,tupleKind->xn,stored->xB,wpAny_call_entry->xV,sizeLine_eq->yF,subscripted->yI,wpAny_field->yK,wpAny_letGo->yO,Within->yR,letOwnedTupleGo->yS,callerA->z9,callWith->Aj,bindArgs->An,wpAny_call->Ap,wpAny_newFunctionEnv_cells->Ar,typeLookup->As,wpAny_setField->Az,wpAny_rule->AC,evalArgs_none->Bp,wpAny_standAt->Cv,wpAny_getItem_list_slice->CJ,call->CV,bindL->Eb,bindC->Ec,cellsFrom->Ed,wpAny_Call_method0_late->Eg,atKey->Eh,isTrue->Ep,wpAny_pyNext_list_item->Ez,Result->EJ,leaving->EN,seqIndex_neg->ES,wpAny_isTrue_Compare1->HZ,wpAny_pyNext_list_end->H9,codeAny_call_function->Ia,Model->Ij,CmpOp->Ik,Operator->Im,rule->Io,seqIndex_of->IC,isSubtype_dict_dict->KI,builtinsNs->LQ,wpAny_Name->LS,assign->LZ,typeIs_str->Md,wpAny_assign_Name->Oc,Keyword->Od,Meets->Oe,MeetsIn->Oh
open PySem.W renaming Frag->af,findIn->bH,kitOne->cE,nsIn->cJ,mg_none_of->cX,exmOne->dC,excIn->dN,mg_of->eT,kia_one->eU,fnOf->fg,emptyDict->gf,keepIn->gH,instObj->gU,codeIn->jL,methodCall_KW->jV,mroIn->kf,looks_findIn->kn,callWith_K->lJ,specialIn->mH,plainGet->nc,isFn->oo,cellsFrom_some->oy,takesIn->oR,lookIn->pA,plainGet_of->qC,katRev->qY,hasDictIn->rq,hideAll->tK,takerIn->tL,makesIn->tM,OpenLaw->tO,InstAt->uG,hideAll_get->zY,callWith_K0->zZ,of_hideAll->Ab,codeRec_of->Aq,plainOver->Bk,kitx_list->Bm,kitx_dict->Bn,handedIn->CH,exm_one->Ek,typeIn->EK,notCls->Fh,WalkO->Ib,kas_rev->Oj
open Nat renaming le_refl->aF,ne_of_lt->aR,zero_le->bE,lt_of_lt_of_le->bT,le_trans->cR,le_succ->e9,lt_of_le_of_lt->fY,lt_succ_of_lt->gv,add_le_add_left->gC,lt_irrefl->gK,not_lt_zero->iP,lt_succ_self->jv,le_of_lt->jZ,lt_of_succ_lt_succ->j2,ne_of_gt->pj,lt_trans->pK,lt_or_ge->tP,succ_pos->tT,sub_self->AR,mul_le_mul_right->Dp,lt_or_gt_of_ne->GX,add_sub_cancel->Ho,le_add_right->Jn
open PySem.Heap renaming get?_push_of_some->aK,lt_size->aS,get?_push_size->cA,get?_update_other->cN,get?_push_ne->gs,size_update->gO,get?_update_self->iQ,size_push->mE,SameBut->sW,get?_update_ne->Dr,MadeExcOf->KD
open PySem.F renaming plainAttrs_list->aL,slot_list_append->bA,type_list_append->bC,slot_list_pop->jX,type_list_pop->jY,plainAttrs_dict->nC,args_tuple_add_2->vF,args_tuple_lt_2->wB,entry_tuple_add->wC,slot_dict_clear->wI,args_tuple_gt_2->wL,slot_dict_items->wN,slot_list_clear->xl,type_list_clear->xm,entry_tuple_lt->xt,slot_tuple_add->xu,slot_dict_copy->xR,entry_tuple_gt->xT,slot_tuple_lt->yH,slot_tuple_gt->yL
open PySem.Paired renaming length->aM,snoc->cS
open PySem.PassesOwn renaming never->bV
open Bool renaming false_ne_true->bZ,and_eq_true->gL,eq_iff_iff->pz,noConfusion->t9,and_eq_false_iff->AE,or_eq_false_iff->B5,false_eq_true->Em,true_and->Ml
open False renaming elim->df
open Option.some renaming inj->dy
open Ne renaming symm->dB
open PySem.Obj renaming mapSeq->dQ,data_mapFields->sI,mapFields->y7,isFreed_of_fields->Bt
open PySem.Builtin.Int renaming intBits->eZ
open PyProof.Rows renaming seqObj->fk,IntsAre->gp,callWith_type1->kd,IsTup->m7,AllBare->o6,envOfC->sE,listUpdate_at->uf,size_push'->uT,seqEpoch_at->yN,Subscript_->Au,Constant_none->Cu,sortedAll->El,floordiv_int->ED,subscriptTail_builtinR->ET,call_function_entry_kw->Fi,tuples'->Hc,wpAny_call_entry_kw->KN,args_list_sort_rev->Mw
open List.Perm renaming refl->ig
open Int renaming emod_lt_of_pos->iL,emod_nonneg->jI,fdiv_eq_ediv_of_nonneg->xq,zero_add->A6,natCast_emod->Jk
open Classical renaming byContradiction->iZ
open Array renaming perm_iff_toList_perm->jf,getElem?_eq_some_iff->mr,length_toList->qS,getD->vT,toList->LW
open PySem.AutoSeq1 renaming sub_tuple_tuple->jr,list_insert_list_int_val_1->Oi
open PySem.SeqAt.EqAt renaming int_int->kQ,int_str->yD,str_int->yE,of_refs->yM,same->Aw
open PySem.Builtin.Dict renaming dictSlotArgs->kT,notOrdered->tQ,samePairs->uc
open PySem.Calls renaming callWith_builtin->oY,Name_function_global->vA,evalArgs_plain->Ax
open PySem.Txt renaming slice->o4
open PySem.Str renaming ofString->pQ
open PySem.Builtin.Tuple renaming tupleCompareSizes->qc
open PySem.Around renaming under_plainId->qy
open PySem.SeqAt renaming EqAt->rC
open Option renaming isSome_map->r9,getD_none->Ef
open PySem.W.WData renaming weightAll->uO,weight->zh
open List.cons renaming inj->vm
open PySem.Heap.IsSliceOf renaming new->vx
open PyProof renaming noPylong_of_log2->vL
open List.Pairwise renaming imp->wU
open And renaming imp->xf
open PySem.SeqAt.RcAt renaming tuples->zk
open Sum.inr renaming inj->zu
open PySem.Heap.DictOf renaming new->Aa
open List.range renaming loop->A8
open PySem.Code renaming quiet_builtin->Ej
open PySem.Value renaming isStrOf->Kr,isInt->Ob
open Std.Legacy.Range renaming forIn_eq_forIn_range'->KH
open PySem.Builtin.Builtins renaming bindParams->LI
open PySem.Challenge renaming rw_momentloom_k16_plain_runs->Oa
open PySem.Heap.UpToSlots renaming of_keeps->Og
theorem Z0{p:Prop}(h:∀G:Prop,(p->G)->G):p:=h p id
set_option Elab.async false
set_option linter.all false
set_option maxRecDepth 100000
namespace L2
open PySem PySem.Spec PyProof.Rows
abbrev Key:=Sum Int Str
def vV:Key->aj->Bool
 |.inl k,v=>Ob k v
 |.inr x,v=>Kr x v
def keyH(w:bU):Key->Int
 |.inl k=>hashInt k
 |.inr x=>hashStr w x
theorem gA:∀{k:Key} {v:aj},vV k v=true->(∃i t,k=Sum.inl i/\v=Value.int i t)\/(∃x t,k=Sum.inr x/\v=Value.str x t)
 |.inl i,v,h=>by
  obtain⟨t,e⟩:=Value.isInt_shape h;exact .inl ⟨i,t,Z9,e⟩
 |.inr x,v,h=>by
  obtain⟨t,e⟩:=Value.isStrOf_shape h;exact .inr ⟨x,t,Z9,e⟩
theorem Cq(i:Int)(t:Tok):vV (.inl i) (.int i t)=true:=by simp[vV,Ob]
theorem Cr(x:Str)(t:Tok):vV (.inr x) (.str x t)=true:=by simp[vV,Kr]
theorem LM(a b:Int):decide ((Sum.inl a:Key)=Sum.inl b)=(a==b):=by
 grind
theorem LN(a b:Str):decide ((Sum.inr a:Key)=Sum.inr b)=decide (a=b):=by
 simp_all
theorem LO(a:Int)(b:Str):decide ((Sum.inl a:Key)=Sum.inr b)=false:=decide_eq_false (fun q=>nomatch q)
theorem LP(a:Str)(b:Int):decide ((Sum.inr a:Key)=Sum.inl b)=false:=decide_eq_false (fun q=>nomatch q)
def fV(prog:aQ)(w:bU):PySem.KeyKind prog w Key where
 is:=vV
 hash:=keyH w
 inj:=fun v a b ha hb=>by
  rcases gA ha with⟨i,t,rfl,rfl⟩|⟨x,t,rfl,rfl⟩
  ·rcases gA hb with⟨j,u,rfl,e⟩|⟨y,u,rfl,e⟩
   ·injection e with Z _;rw[Z]
   ·exact nomatch e
  ·rcases gA hb with⟨j,u,rfl,e⟩|⟨y,u,rfl,e⟩
   ·exact nomatch e
   ·injection e with Z _;rw[Z]
 byValue:=fun k v h=>by
  rcases gA h with⟨i,t,rfl,rfl⟩|⟨x,t,rfl,rfl⟩<;>rfl
 pyHash:=fun Y h=>by
  rcases gA Y with⟨i,t,rfl,rfl⟩|⟨x,t,rfl,rfl⟩
  ·exact wpAny_pyHash_int h
  ·exact wpAny_pyHash_str h
 eqBool:=fun hu Y h=>by
  rcases gA hu with⟨i,t,rfl,rfl⟩|⟨x,t,rfl,rfl⟩
  ·rcases gA Y with⟨j,u,rfl,rfl⟩|⟨y,u,rfl,rfl⟩
   ·rw[LM]at h;exact wpAny_eqBool_int h
   ·rw[LO]at h;exact yD i t y u _ _ _ _ h
  ·rcases gA Y with⟨j,u,rfl,rfl⟩|⟨y,u,rfl,rfl⟩
   ·rw[LP]at h;exact yE x t j u _ _ _ _ h
   ·rw[LN]at h;exact wpAny_eqBool_str h
 «strs»:=fun k x t v h=>by
  rcases gA h with⟨i,u,rfl,e⟩|⟨y,u,rfl,e⟩
  ·exact nomatch e
  ·injection e with Z _;subst Z
   cases v<;>rfl
theorem yP(prog:aQ)(w:bU)(i:Int)(t:Tok):(fV prog w).is (.inl i) (.int i t)=true:=Cq i t
theorem yQ(prog:aQ)(w:bU)(x:Str)(t:Tok):(fV prog w).is (.inr x) (.str x t)=true:=Cr x t
inductive V where
 |non|bl (b:Bool)|int (i:Int)|str (x:Str)|byt (b:Array UInt8)|flt (b:UInt64)|ref (a:ae)|ty (n:String)
 deriving DecidableEq
def RelV:V->aj->Prop
 |.non,u=>u=Value.none
 |.bl b,u=>u=Value.bool b
 |.int i,u=>∃t,u=Value.int i t
 |.str x,u=>∃t,u=Value.str x t
 |.byt b,u=>∃t,u=Value.bytes b t
 |.flt b,u=>∃t,u=Value.float b t
 |.ref a,u=>u=Value.ref a
 |.ty n,u=>u=Value.type n
abbrev dv:List V->List aj->Prop:=aO RelV
theorem dv.length{xs:List V}{Z:List aj}(r:dv xs Z):xs.length=Z.length:=aM r
theorem dv.get:∀{xs:List V} {Z:List aj} {i:Nat} {x:V},dv xs Z->xs[i]?=Z8 x->∃u,Z[i]?=Z8 u/\RelV x u
 |_,_,_,_,.nil,e=>by simp at e
 |_,_,0,_,.cons r _,e=>by simp at e;subst e;exact{_,Z9,r}
 |_,_,i+1,x,.cons _ t,e=>by
  obtain⟨u,h1,h2⟩:=dv.get t (by simpa using e);exact{u,by simpa using h1,h2}
theorem dv.set{x:V}{u:aj}(r:RelV x u):∀{xs:List V} {Z:List aj} (i:Nat),dv xs Z->dv (xs.set i x) (Z.set i u)
 |_,_,_,.nil=>.nil
 |_,_,0,.cons _ t=>.cons r t
 |_,_,i+1,.cons q t=>.cons q (dv.set r i t)
theorem dv.append:∀{xs ys:List V} {Z ws:List aj},dv xs Z->dv ys ws->dv (xs++ys) (Z++ws)
 |_,_,_,_,.nil,s=>s
 |_,_,_,_,.cons r t,s=>.cons r (dv.append t s)
theorem dv.take:∀{xs:List V} {Z:List aj} (n:Nat),dv xs Z->dv (xs.take n) (Z.take n)
 |_,_,0,_=>.nil
 |_,_,_+1,.nil=>.nil
 |_,_,n+1,.cons r t=>.cons r (dv.take n t)
theorem dv.drop:∀{xs:List V} {Z:List aj} (n:Nat),dv xs Z->dv (xs.drop n) (Z.drop n)
 |_,_,0,r=>r
 |_,_,_+1,.nil=>.nil
 |_,_,n+1,.cons _ t=>dv.drop n t
def qA:Option V->Option aj->Prop
 |some v,Z8 u=>RelV v u
 |none,Z7=>True
 |_,_=>False
def KV{κ:Type}:List (κ×V)->List (κ×aj)->Prop:=aO fun (p:κ×V) (q:κ×aj)=>p.1=q.1/\RelV p.2 q.2
def kV:Key->V
 |.inl i=>.int i
 |.inr x=>.str x
inductive HO where
 |lst(xs:List V)
 |tup(xs:List V)
 |dK(kvs:List (Key×V))|dT (kvs:List (List Key×V))
 |set(S:Int->Bool)(n:Nat)
 |ins(C dx:ae)(fs:List (Str×V))
 |own(x:ae)
 |xd(fs:List (Str×V))
 |met(f x:ae)
 |rng(lo hi:Int)
 |frz(o:Obj)(u:HO)
 |tbl(ps:Array aj)
 |ext(φ:cG->Prop)
abbrev Hp:=ae->Option HO
def upd(H:Hp)(a:ae)(o:HO):Hp:=fun b=>if b=a then Z8 o else H b
theorem ak{H:Hp}{a:ae}{o:HO}:upd H a o a=Z8 o:=by unfold upd;rw[if_pos rfl]
theorem aW{H:Hp}{a b:ae}{o:HO}(h:b≠a):upd H a o b=H b:=by unfold upd;rw[if_neg h]
theorem Bc{H:Hp}{a:ae}{o u:HO}:upd (upd H a o) a u=upd H a u:=by
 funext b;unfold upd;split<;>rfl
theorem jD{H:Hp}{a b:ae}{o u:HO}(h:H a=Z8 o)(h':H b=Z8 u)(d:o≠u):a≠b:=by
 intro e;subst e;rw[h]at h';exact d (dy h')
theorem ay{H:Hp}{a b:ae}{o:HO}(h:H a=Z8 o)(h':H b=Z7):a≠b:=by
 grind
section
variable(P:aQ)(w:bU)
def hV(H:Hp)(h:cG)(a:ae):HO->Prop
 |.lst xs=>xs.length<=aG/\∃(Z:List aj) (n:Nat),dv xs Z/\h.get? a=Z8 {cls:=.type "list",data:=.seq Z.toArray n}
 |.tup xs=>xs.length<=aG/\∃Z:List aj,dv xs Z/\m7 h a Z.toArray
 |.dK kvs=>kvs.length<=aG/\(a==dZ)=false/\∃vs,KV kvs vs/\h.DictOf (fV P w) a vs
 |.dT kvs=>kvs.length<=aG/\(a==dZ)=false/\∃xs:List (List Key×ae×aj),
   aO (fun (p:List Key×V) (q:List Key×ae×aj)=>p.1=q.1/\H q.2.1=Z8 (.tup (p.1.map kV))/\RelV p.2 q.2.2) kvs xs /\
   ∃o es Y,h.get? a=Z8 o/\o.ExactDict/\o.data=.dict es Y/\es.toList=xs.map (entryOfKey (xn (fV P w)))/\(xs.map (·.1)).Nodup
 |.set S n=>h.SetOf (intKind P w) a S n
 |.ins C dx fs=>H dx=Z8 (.own a)/\fs.length<=1000/\dx≠a/\h.get? a=Z8 (gU C dx) /\
   ∃mA,h.Ns1 dx mA/\(∀f,qA (fs.lookup f) (mA f))/\yR mA (fs.map (·.1))
 |.own _=>∃o,h.get? a=Z8 o
 |.xd fs=>∃mA,h.Ns1 a mA/\∀f,qA (fs.lookup f) (mA f)
 |.rng lo hi=>∃t u v,h.get? a=Z8 {cls:=.type "range",data:=.fields #[.int lo t,.int hi u,.int 1 v]}
 |.frz o u=>h.get? a=Z8 o/\hV H h a u
 |.tbl ps=>h.get? a=Z8 {cls:=.none,data:=.fields ps}
 |.met f x=>h.get? a=Z8 (PySem.W.methodObj (.ref f) (.ref x))
 |.ext φ=>φ h/\(∃o,h.get? a=Z8 o)/\∀h1 h2:cG,φ h1->(∀o,h1.get? a=Z8 o->h2.get? a=Z8 o)->φ h2
def HOk(H:Hp)(h:cG):Prop:=∀a o,H a=Z8 o->hV P w H h a o
end
section
variable{P:aQ}{w:bU}{H H':Hp}{h h':cG}{a:ae}{o:HO}
theorem hV.lt(x:hV P w H h a o):a<h.objs.size:=by
 cases o with
 |lst xs=>obtain⟨_,_,_,_,e⟩:=x;exact aS e
 |tup xs=>obtain⟨_,_,_,p⟩:=x;exact p.lt
 |dK kvs=>obtain⟨_,_,_,_,o,_,_,e,_⟩:=x;exact aS e
 |dT kvs=>obtain⟨_,_,_,_,o,_,_,e,_⟩:=x;exact aS e
 |set S n=>obtain⟨o,_,_,_,e,_⟩:=x;exact aS e
 |ins C dx fs=>obtain⟨_,_,_,e,_⟩:=x;exact aS e
 |own y=>obtain⟨_,e⟩:=x;exact aS e
 |xd fs=>obtain⟨_,⟨_,_,_,e,_⟩,_⟩:=x;exact aS e
 |rng lo hi=>obtain⟨_,_,_,e⟩:=x;exact aS e
 |frz Z u=>obtain⟨e,_⟩:=x;exact aS e
 |tbl ps=>exact aS (x)
 |met f y=>exact aS (x)
 |ext φ=>obtain⟨_,⟨_,e⟩,_⟩:=x;exact aS e
theorem Paired.mapP{Y W:Type}{F G:Y->W->Prop}:∀{l₁:List Y} {Z:List W},aO F l₁ Z->(∀a b,F a b->G a b)->aO G l₁ Z
 |_,_,.nil,_=>.nil
 |_,_,.cons r t,f=>.cons (f _ _ r) (Paired.mapP t f)
theorem Paired.imp'{Y W:Type}{F G:Y->W->Prop}(f:∀a b,F a b->G a b){l₁:List Y}{Z:List W}(r:aO F l₁ Z):aO G l₁ Z:=Paired.mapP r f
theorem hV.stay(x:hV P w H h a o)(k:∀b u,(b=a\/H b=Z8 (.own a))->h.get? b=Z8 u->h'.get? b=Z8 u)
  (R:∀b,H b=Z8 (.own a)->H' b=Z8 (.own a)) (O:∀b xs,H b=Z8 (.tup xs)->H' b=Z8 (.tup xs)):hV P w H' h' a o:=by
 induction o with
 |lst xs=>obtain⟨z,W,n,r,e⟩:=x;exact{z,W,n,r,k _ _ (.inl rfl) e}
 |tup xs=>obtain⟨z,W,r,Z,e,c⟩:=x;exact{z,W,r,Z,k _ _ (.inl rfl) e,c}
 |dK kvs=>obtain⟨z,y,vs,r,Z,es,Y,e,c⟩:=x;exact{z,y,vs,r,Z,es,Y,k _ _ (.inl rfl) e,c}
 |dT kvs=>
  obtain⟨z,y,xs,r,Z,es,Y,e,c⟩:=x;exact{z,y,xs,Paired.mapP r fun p q z=>{z.1,O _ _ z.2.1,z.2.2},Z,es,Y,k _ _ (.inl rfl) e,c}
 |set S n=>obtain⟨Z,es,Y,t,e,c⟩:=x;exact{Z,es,Y,t,k _ _ (.inl rfl) e,c}
 |ins C dx fs=>
  obtain⟨d,z,ne,e,mA,⟨od,es,Y,V,c⟩,r⟩:=x;exact{R _ d,z,ne,k _ _ (.inl rfl) e,mA,{od,es,Y,k _ _ (.inr d) V,c},r}
 |own y=>obtain⟨Z,e⟩:=x;exact{Z,k _ _ (.inl rfl) e}
 |xd fs=>obtain⟨mA,⟨od,es,Y,e,c⟩,r⟩:=x;exact{mA,{od,es,Y,k _ _ (.inl rfl) e,c},r}
 |rng lo hi=>obtain⟨t,u,v,e⟩:=x;exact{t,u,v,k _ _ (.inl rfl) e}
 |frz Z u U=>obtain⟨e,q⟩:=x;exact{k _ _ (.inl rfl) e,U q}
 |tbl ps=>
  exact k a _ (.inl rfl) (x)
 |met f y=>
  exact k a _ (.inl rfl) (x)
 |ext φ=>obtain⟨p,⟨o,e⟩,st⟩:=x;exact{st _ _ p fun o q=>k _ _ (.inl rfl) q,{o,k _ _ (.inl rfl) e},st}
theorem HOk.lt(x:HOk P w H h)(e:H a=Z8 o):a<h.objs.size:=(x a o e).lt
theorem HOk.fresh(x:HOk P w H h)(e:h.objs.size<=a):H a=Z7:=by
 cases q:H a with
 |none=>rfl
 |some u=>exact absurd (bT (x.lt q) e) (gK _)
theorem HOk.kept(x:HOk P w H h)(k:∀b u,h.get? b=Z8 u->h'.get? b=Z8 u):HOk P w H h':=fun a o e=>
 (x a o e).stay (fun b u _ q=>k b u q) (fun _ q=>q) fun _ _ q=>q
theorem HOk.laid(x:HOk P w H h)(k:∀b u,h.get? b=Z8 u->h'.get? b=Z8 u)(hp:h.objs.size<=a)(new:hV P w (upd H a o) h' a o):HOk P w (upd H a o) h':=fun b u e=>by
 have Z:=x.fresh hp
 by_cases hb:b=a
 ·subst hb;rw[ak]at e;cases e;exact new
 ·rw[aW hb]at e;exact (x b u e).stay (fun c v _ q=>k c v q) (fun c q=>by rw[aW (ay q Z)];exact q) fun c xs q=>by rw[aW (ay q Z)];exact q
end
def Rd(H:Hp)(a:ae)(u:HO):Prop:=H a=Z8 u\/∃o,H a=Z8 (.frz o u)
theorem Rd.ok{P:aQ}{w:bU}{H:Hp}{h:cG}{a:ae}{u:HO}(r:Rd H a u)(x:HOk P w H h):hV P w H h a u:=by
 rcases r with r|⟨o,r⟩
 ·exact x a u r
 ·obtain⟨_,q⟩:=x a _ r;exact q
def Mut:Option HO->Prop
 |some (.lst _)=>True
 |some (.dK _)=>True
 |some (.dT _)=>True
 |some (.set _ _)=>True
 |some (.ins _ _ _)=>True
 |some (.ext _)=>True
 |_=>False
section
variable{P:aQ}{w:bU}{H:Hp}{h h':cG}{x e:ae}{o':HO}
theorem HOk.write(ok:HOk P w H h)(W:Mut (H x))(R:e=x\/H e=Z8 (.own x))(k:∀b u,b≠e->h.get? b=Z8 u->h'.get? b=Z8 u)(V:∃u,h'.get? e=Z8 u)
  (new:hV P w (upd H x o') h' x o'):HOk P w (upd H x o') h':=fun b u q=>by
 have Y:∀c y,H c=Z8 (.own y)->c≠x:=fun c y r z=>by subst z;rw[r]at W;exact W
 by_cases hb:b=x
 ·subst hb;rw[ak]at q;cases q;exact new
 ·rw[aW hb]at q
  by_cases Z:b=e
  ·have U:H b=Z8 (.own x):=by
    rcases R with z|z
    ·exact absurd (Z.trans z) hb
    ·rw[Z];exact z
   rw[q]at U;cases U;obtain⟨v,O⟩:=V;exact{v,by rw[Z];exact O}
  ·refine (ok b u q).stay (fun c v hc r=>k c v ?_ r) (fun c r=>by rw[aW (Y c b r)];exact r) fun c xs r=>by rw[aW ((fun c xs r z=>by subst z;rw[r]at W;exact W) c xs r)];exact r
   rcases hc with rfl|hc
   ·exact Z
   ·grind
end
structure Un(fs ex:List ae)(H H':Hp)(h h':cG):Prop where
 keep:∀b o,h.get? b=Z8 o->H b=Z7->b∉fs->b∉ex->h'.get? b=Z8 o
 slot:∀b o,h.get? b=Z8 o->H b=Z7->b∈fs->b∉ex->∃sl,h'.get? b=Z8 {o with slots:=sl}
 free:∀b o,h.get? b=Z8 o->H b=Z7->b∉ex->H' b=Z7
 there:∀b o,h.get? b=Z8 o->b∉ex->∃o',h'.get? b=Z8 o'
 tups:∀b xs,H b=Z8 (.tup xs)->H' b=Z8 (.tup xs)
 frzs:∀b o u,H b=Z8 (.frz o u)->H' b=Z8 (.frz o u)
 tbls:∀b ps,H b=Z8 (.tbl ps)->∃more,H' b=Z8 (.tbl (ps++more))
section
variable{fs fs' ex ex':List ae}{H H1 H2:Hp}{h h1 h2 h':cG}{a x e:ae}{o:HO}
theorem Un.any(u:Un fs ex H H1 h h1){b:ae}{Z:Obj}(q:h.get? b=Z8 Z)(n:H b=Z7)(hx:b∉ex):∃sl,h1.get? b=Z8 {Z with slots:=sl}:=by
 by_cases hb:b∈fs
 ·exact u.slot b Z q n hb hx
 ·exact{Z.slots,u.keep b Z q n hb hx}
theorem Un.kept(k:∀b u,h.get? b=Z8 u->h'.get? b=Z8 u):Un fs ex H H h h':=
 {fun b Z q _ _ _=>k b Z q,fun b Z q _ _ _=>{Z.slots,k b Z q},fun _ _ _ n _=>n,fun b Z q _=>{Z,k b Z q},fun _ _ q=>q,fun _ _ _ q=>q,fun _ ps q=>{#[],by rw[q];simp}}
theorem Un.refl:Un fs ex H H h h:=Un.kept fun _ _ q=>q
theorem Un.laid(k:∀b u,h.get? b=Z8 u->h'.get? b=Z8 u)(hp:h.objs.size<=a)(Z:H a=Z7):Un fs ex H (upd H a o) h h' where
 keep:=fun b u q _ _ _=>k b u q
 slot:=fun b u q _ _ _=>{u.slots,k b u q}
 free:=fun b u q n _=>by rw[aW (aR (bT (aS q) hp))];exact n
 there:=fun b u q _=>{u,k b u q}
 tups:=fun b xs q=>by rw[aW (ay q Z)];exact q
 frzs:=fun b u xs q=>by rw[aW (ay q Z)];exact q
 tbls:=fun b ps q=>{#[],by rw[aW (ay q Z),q];simp}
theorem Un.write(Y:Mut (H x))(U:e=x\/H e=Z8 (.own x))(k:∀b u,b≠e->h.get? b=Z8 u->h'.get? b=Z8 u)(V:∃u,h'.get? e=Z8 u):Un fs ex H (upd H x o) h h':=by
 have hx:∀b,H b=Z7->b≠x:=fun b n z=>by subst z;rw[n]at Y;exact Y
 have hb:∀b,H b=Z7->b≠e:=fun b n z=>by
  subst z
  rcases U with r|r
  ·exact hx b n r
  ·rw[n]at r;cases r
 have W:∀b u,H b=Z8 u->¬Mut (Z8 u)->b≠x:=fun b u q nm z=>by subst z;rw[q]at Y;exact nm Y
 refine⟨fun b u q n _ _=>k b u (hb b n) q,fun b u q n _ _=>{u.slots,k b u (hb b n) q},fun b u q n _=>by rw[aW (hx b n)];exact n,fun b u q _=>?_,
  fun b xs q=>by rw[aW (W b _ q fun z=>z)];exact q,fun b u xs q=>by rw[aW (W b _ q fun z=>z)];exact q,fun b ps q=>{#[],by rw[aW (W b _ q fun z=>z),q];simp}⟩
 by_cases Z:b=e
 ·subst Z;exact V
 ·exact{u,k b u Z q}
end
def trk(h:cG)(H:Hp):List ae:=(gQ h.objs.size).filter fun a=>(H a).isSome
def Cs(h:cG)(H:Hp):cG:=tK h (trk h H)
theorem Ct(h:cG)(H:Hp):(Cs h H).objs.size=h.objs.size:=PySem.W.hideAll_size _ _
theorem Eo{h:cG}{H:Hp}{b:ae}{o:Obj}(e:h.get? b=Z8 o)(n:H b=Z7):(Cs h H).get? b=Z8 o:=
 zY _ e fun Z=>by
  have q:=(Ih.mp Z).2;rw[n]at q;simp at q
theorem Ii{h:cG}{H:Hp}{b:ae}{o:Obj}(e:(Cs h H).get? b=Z8 o):h.get? b=Z8 o/\H b=Z7:=by
 have Z:=Ab (trk h H) e;refine{Z,?_}
 cases q:H b with
 |none=>rfl
 |some x=>
  have z:(Cs h H).get? b=Z7:=PySem.W.hideAll_none (trk h H) (Ih.mpr {qG.mpr (aS Z),by simp[q]});rw[z]at e;cases e
structure Mod(K:af)(mg:Str->Option aj)(base:cG):Prop where
 kin:K.In base
 glob:base.Ns cv mg
 blt:∃mb,base.Ns LQ mb/\∀x:Str,x≠"__name__"->mb x=eB x
 nolimit:base.NoLimit
structure Cx where
 prog:aQ
 w:bU
 K:af
 mg:Str->Option aj
 base:cG
 A:b8
 N:List Str
 s₀:aw
 H₀:Hp
 env:Env
 outer:List Env
 stack:List Env
 ex:List ae
 fn:Str->Bool
 calm:Bool
 pn:List (ae×Obj)
 xe:aj->aw->Prop
def frs(l:List Env):List ae:=l.filterMap (·.frame)
abbrev Cx.fs(X:Cx):List ae:=frs X.outer
def Vis(sc:jS)(x:Str):Prop:=sc.names.lookup x=Z8 .local\/sc.names.lookup x=Z8 .cell\/sc.names.lookup x=Z8 .free
def Loc(sc:jS)(x:Str):Prop:=sc.names.lookup x=Z8 .local\/sc.names.lookup x=Z8 .cell
def Look(env:Env)(h:cG)(m:Str->Option aj)(x:Str)(u:aj):Prop:=
 (env.kindOf x=Z8 .local/\m x=Z8 u)\/((env.kindOf x=Z8 .cell\/env.kindOf x=Z8 .free)/\∃c,env.cells.lookup x=Z8 c/\h.IsCell c (Z8 u))
structure Cx.Ok(X:Cx):Prop where
 mod:Mod X.K X.mg X.base
 kind:X.env.scope.kind=.function
 glob:X.env.globals=cv
 blt:X.env.builtins=LQ
 above:X.s₀.heap.objs.size<=X.env.locals
 inj:∀x y c,X.env.cells.lookup x=Z8 c->X.env.cells.lookup y=Z8 c->x=y
 has:∀x,(X.env.kindOf x=Z8 .cell\/X.env.kindOf x=Z8 .free)->∃c,X.env.cells.lookup x=Z8 c
 cab:∀x c,X.fn x=true->X.env.cells.lookup x=Z8 c->X.s₀.heap.objs.size<=c
 hd:X.calm=true->X.A.handled=Z7
 frames:X.A.frames=Z8 X.stack
 stk:X.stack=X.outer\/(X.stack=X.env::X.outer/\X.env.frame=Z8 X.env.locals)
 exf:∀b∈X.ex,b≠X.env.locals/\∀x c,X.env.cells.lookup x=Z8 c->c≠b
 bs:∀b o,X.base.get? b=Z8 o->X.s₀.heap.get? b=Z8 o/\X.H₀ b=Z7
 bsz:X.base.objs.size<=X.s₀.heap.objs.size
 noex:∀b o,X.base.get? b=Z8 o->b∉X.ex
 exfs:∀b∈X.ex,b∉X.fs
 funs:X.s₀.heap.FunFrames X.base X.outer
 frf:∀b∈X.fs,X.H₀ b=Z7
structure Inv(X:Cx)(pins:List (ae×Obj))(σ:List (Option V))(H:Hp)(s:aw):Prop where
 ok:X.Ok
 os:s.os=X.s₀.os
 bare:o6 s.gens
 base:Un X.fs X.ex X.H₀ H X.s₀.heap s.heap
 loc:∃m,s.heap.Ns X.env.locals m/\∀(i:Nat) (x:Str) (v:V),X.N[i]?=Z8 x->σ[i]?=Z8 (Z8 v)->Vis X.env.scope x->∃u,RelV v u/\Look X.env s.heap m x u
 cell:∀x c,X.env.cells.lookup x=Z8 c->∃v,s.heap.IsCell c v
 free:H X.env.locals=Z7
 freeC:∀x c,X.env.cells.lookup x=Z8 c->H c=Z7
 pin:∀p∈X.pn++pins,s.heap.get? p.1=Z8 p.2/\H p.1=Z7/\p.1≠X.env.locals/\p.1∉X.fs/\∀v,p.2.data≠.cell v
 hok:HOk X.prog X.w H s.heap
 len:σ.length=X.N.length
section
variable{X:Cx}{pins:List (ae×Obj)}{σ:List (Option V)}{H H':Hp}{s:aw}{h':cG}
theorem Cx.Ok.nofr(ok:X.Ok){b:ae}{o:Obj}(e:X.base.get? b=Z8 o):b∉X.fs:=fun hb=>by
 have:=(ok.funs.mem hb).1;rw[e]at this;cases this
theorem Inv.bs(I:Inv X pins σ H s):∀b o,X.base.get? b=Z8 o->s.heap.get? b=Z8 o/\H b=Z7:=fun b o e=>
 {I.base.keep b o (I.ok.bs b o e).1 (I.ok.bs b o e).2 (I.ok.nofr e) (I.ok.noex b o e),I.base.free b o (I.ok.bs b o e).1 (I.ok.bs b o e).2 (I.ok.noex b o e)}
theorem Inv.bk(I:Inv X pins σ H s):∀b o,X.base.get? b=Z8 o->s.heap.get? b=Z8 o:=fun b o e=>(I.bs b o e).1
theorem Inv.mod(I:Inv X pins σ H s):Mod X.K X.mg X.base:=I.ok.mod
theorem Inv.kIn(I:Inv X pins σ H s):X.K.In s.heap:=I.ok.mod.kin.keeps I.bk
theorem Inv.fr(I:Inv X pins σ H s):∃m,Fr X.base X.env.locals s.heap m:=
 let ⟨m,Z,_⟩:=I.loc
 {m,Z,I.bk,cR I.ok.bsz I.ok.above}
theorem Inv.lt(I:Inv X pins σ H s):X.env.locals<s.heap.objs.size:=let ⟨_,Z,_⟩:=I.loc;Z.lt
theorem Inv.sz(I:Inv X pins σ H s):X.s₀.heap.objs.size<=s.heap.objs.size:=cR I.ok.above (jZ I.lt)
theorem Inv.nofs(I:Inv X pins σ H s){a:ae}(h:s.heap.objs.size<=a):a∉X.fs:=fun hb=>by
 obtain⟨_,o,Z,_⟩:=I.ok.funs.mem hb;exact absurd (bT (aS Z) (cR I.sz h)) (gK _)
theorem Inv.cne(I:Inv X pins σ H s):∀x c,X.env.cells.lookup x=Z8 c->c≠X.env.locals:=fun x c e z=>by
 obtain⟨v,o,W,V⟩:=I.cell x c e;obtain⟨m,⟨o',es,U,Z,Y,_⟩,_⟩:=I.loc;rw[z,Z]at W;cases W;rw[Y]at V;cases V
theorem Inv.funs(I:Inv X pins σ H s):s.heap.FunFrames X.base X.outer:=by
 have all:∀l,(∀b∈frs l,b∈X.fs)->X.s₀.heap.FunFrames X.base l->s.heap.FunFrames X.base l:=by
  intro l
  induction l with
  |nil=>intro _ _;trivial
  |cons env r R=>
   intro hs W;obtain⟨hk,⟨L,o,Y,V,O,M⟩,U⟩:=W;have Z:=hs L (by unfold frs;rw[q9,Y];exact ax);obtain⟨sl,e⟩:=I.base.slot L o O (I.ok.frf L Z) Z fun z=>I.ok.exfs L z Z;exact{hk,{L,_,Y,V,e,M},R (fun b hb=>hs b (by unfold frs;rw[q9,Y];exact aa _ hb)) U}
 exact all X.outer (fun _ hb=>hb) I.ok.funs
theorem Inv.stack(I:Inv X pins σ H s):s.heap.FunFrames X.base X.stack:=by
 rcases I.ok.stk with e|⟨e,Y⟩
 ·rw[e];exact I.funs
 ·rw[e];obtain⟨m,Z,_⟩:=I.loc;exact .cons (by rw[I.ok.kind];decide) Y Z (Heap.get?_none_of_le (cR I.ok.bsz I.ok.above)) I.funs
theorem Inv.stkSub(I:Inv X pins σ H s):∀b∈frs X.stack,b∈X.env.locals::X.fs:=fun b hb=>by
 rcases I.ok.stk with e|⟨e,Z⟩
 ·rw[e]at hb;exact aa _ hb
 ·rw[e]at hb;unfold frs at hb;rw[q9,Z]at hb;exact hb
theorem Inv.stkFree(I:Inv X pins σ H s):∀b∈frs X.stack,H b=Z7:=fun b hb=>by
 rcases aE.mp (I.stkSub b hb) with e|hb
 ·rw[e];exact I.free
 ·obtain⟨_,o,Z,_⟩:=I.ok.funs.mem hb;exact I.base.free b o Z (I.ok.frf b hb) fun z=>I.ok.exfs b z hb
theorem Inv.step{g':Array GenState}{t':Nat}{d':Drawn}{ch:List ae}(I:Inv X pins σ H s)
  (Z:∀b∈ch,(b∈X.ex\/X.s₀.heap.objs.size<=b)/\b≠X.env.locals/\(∀x c,X.env.cells.lookup x=Z8 c->c≠b)/\∀p∈X.pn++pins,p.1≠b)
  (keep:∀b o,b≠X.env.locals->b∉X.fs->b∉ch->s.heap.get? b=Z8 o->H b=Z7->h'.get? b=Z8 o)
  (slot:∀b o,b≠X.env.locals->b∈X.fs->b∉ch->s.heap.get? b=Z8 o->H b=Z7->∃sl,h'.get? b=Z8 {o with slots:=sl}) (free:∀b o,b∉ch->s.heap.get? b=Z8 o->H b=Z7->H' b=Z7)
  (there:∀b o,b∉ch->s.heap.get? b=Z8 o->∃o',h'.get? b=Z8 o')
  (tups:∀b xs,H b=Z8 (.tup xs)->H' b=Z8 (.tup xs)) (frzs:∀b o u,H b=Z8 (.frz o u)->H' b=Z8 (.frz o u)) (tbls:∀b ps,H b=Z8 (.tbl ps)->∃more,H' b=Z8 (.tbl (ps++more)))
  (ns:∀m,s.heap.Ns X.env.locals m->h'.Ns X.env.locals m) (G:HOk X.prog X.w H' h') (B:o6 g') :
  Inv X pins σ H' {s with heap:=h',gens:=g',drawn:=d',toks:=t'}:=by
 have M:∀b o,X.s₀.heap.get? b=Z8 o->b≠X.env.locals:=fun b o e=>aR (bT (aS e) I.ok.above);have V:∀b o,X.s₀.heap.get? b=Z8 o->b∉X.ex->b∉ch:=fun b o e hx hb=>by
  rcases (Z b hb).1 with z|z
  ·exact hx z
  ·exact absurd (bT (aS e) z) (gK _)
 have W:∀x c,X.env.cells.lookup x=Z8 c->∀v,s.heap.IsCell c v->h'.IsCell c v:=fun x c e v ⟨o,R,E⟩=>by
  have Y:=fun z=>(Z c z).2.2.1 x c e rfl
  by_cases hc:c∈X.fs
  ·obtain⟨sl,q⟩:=slot c o (I.cne x c e) hc Y R (I.freeC x c e);exact{_,q,E}
  ·exact{o,keep c o (I.cne x c e) hc Y R (I.freeC x c e),E}
 refine{I.ok,I.os,B,{fun b o e n hb hx=>?_,fun b o e n hb hx=>?_,fun b o e n hx=>?_,fun b o e hx=>?_,fun b xs e=>tups b xs (I.base.tups b xs e),fun b o xs e=>frzs b o xs (I.base.frzs b o xs e),fun b ps e=>?_},?_,fun x c e=>?_,?_,fun x c e=>?_,fun p hp=>?_,G,I.len}
 ·exact keep b o (M b o e) hb (V b o e hx) (I.base.keep b o e n hb hx) (I.base.free b o e n hx)
 ·obtain⟨sl,U⟩:=I.base.slot b o e n hb hx;obtain⟨J,O⟩:=slot b _ (M b o e) hb (V b o e hx) U (I.base.free b o e n hx);exact⟨J,O⟩
 ·obtain⟨o',U⟩:=I.base.there b o e hx;exact free b o' (V b o e hx) U (I.base.free b o e n hx)
 ·obtain⟨o',U⟩:=I.base.there b o e hx;exact there b o' (V b o e hx) U
 ·obtain⟨t,U⟩:=I.base.tbls b ps e;obtain⟨m2,O⟩:=tbls b _ U;exact{t++m2,by rw[O,Array.append_assoc]}
 ·obtain⟨m,f,g⟩:=I.loc;refine{m,ns m f,fun i x v U O e3=>?_};obtain⟨u,r,l⟩:=g i x v U O e3;refine{u,r,?_}
  rcases l with l|⟨k,c,e,z⟩
  ·exact .inl l
  ·exact .inr {k,c,e,W x c e _ z}
 ·obtain⟨v,z⟩:=I.cell x c e;exact{v,W x c e v z}
 ·obtain⟨m,⟨o,_,_,R,_⟩,_⟩:=I.loc;exact free _ o (fun z=>(Z _ z).2.1 rfl) R I.free
 ·obtain⟨v,o,R,E⟩:=I.cell x c e;exact free c o (fun z=>(Z c z).2.2.1 x c e rfl) R (I.freeC x c e)
 ·obtain⟨e,n,ne,D,d⟩:=I.pin p hp;have Y:=fun z=>(Z p.1 z).2.2.2 p hp rfl;exact{keep p.1 p.2 ne D Y e n,free p.1 p.2 Y e n,ne,D,d}
theorem Inv.un{t':Nat}(I:Inv X pins σ H s)(u:Un X.fs [] H H' s.heap h')(W:HOk X.prog X.w H' h'):Inv X pins σ H' {s with heap:=h',toks:=t'}:=by
 obtain⟨m,⟨o,es,J,U,r⟩,_⟩:=id I.loc;obtain⟨sl,M⟩:=u.any U I.free (by simp);exact I.step (g':=s.gens) (d':=s.drawn) (ch:=[]) (fun _ z=>nomatch z) (fun b o _ hb _ e n=>u.keep b o e n hb (by simp)) (fun b o _ hb _ e n=>u.slot b o e n hb (by simp)) (fun b o _ e n=>u.free b o e n (by simp)) (fun b o _ e=>u.there b o e (by simp)) u.tups u.frzs u.tbls (fun G O=>by
  obtain⟨o',Y,V,Z,R⟩:=O;rw[U]at Z;cases Z;exact{_,Y,V,M,R}) W I.bare
theorem Inv.call{g':Array GenState}{t':Nat}{d':Drawn}{ch:List ae}(I:Inv X pins σ H s)(u:Un (frs X.stack) ch H H' s.heap h')(U:HOk X.prog X.w H' h')(J:o6 g')
  (Y:∀b∈ch,(b∈X.ex\/X.s₀.heap.objs.size<=b)/\b≠X.env.locals/\(∀x c,X.env.cells.lookup x=Z8 c->c≠b)/\∀p∈X.pn++pins,p.1≠b) :
  Inv X pins σ H' {s with heap:=h',gens:=g',drawn:=d',toks:=t'}:=by
 obtain⟨m,⟨o,es,E,O,r⟩,_⟩:=id I.loc;obtain⟨sl,V⟩:=u.any O I.free fun z=>(Y _ z).2.1 rfl;exact I.step Y (fun b o V hb hc e n=>u.keep b o e n (fun z=>(aE.mp (I.stkSub b z)).elim V hb) hc) (fun b o _ _ hc e n=>u.any e n hc) (fun b o hc e n=>u.free b o e n hc) (fun b o hc e=>u.there b o e hc) u.tups u.frzs u.tbls (fun D G=>by
  obtain⟨o',W,R,Z,M⟩:=G;rw[O]at Z;cases Z;exact{_,W,R,V,M}) U J
theorem Inv.turned{t':Nat}{it:ae}(I:Inv X pins σ H s)(k:∀b o,b≠it->s.heap.get? b=Z8 o->h'.get? b=Z8 o)(U:H it=Z7)(Y:it≠X.env.locals)
  (h1:it∈X.ex\/X.s₀.heap.objs.size<=it) (h2:∀x c,X.env.cells.lookup x=Z8 c->c≠it) (W:∀p∈X.pn++pins,p.1≠it):Inv X pins σ H {s with heap:=h',toks:=t'}:=by
 have Z:∀b u,H b=Z8 u->b≠it:=fun b u e z=>by rw[z,U]at e;cases e
 refine I.step (g':=s.gens) (d':=s.drawn) (ch:=[it]) (fun b hb=>?_) (fun b o _ _ hc e _=>k b o (fun z=>hc (by simp[z])) e) (fun b o _ _ hc e _=>{o.slots,k b o (fun z=>hc (by simp[z])) e}) (fun _ _ _ _ n=>n)
  (fun b o hc e=>{o,k b o (fun z=>hc (by simp[z])) e}) (fun _ _ e=>e) (fun _ _ _ e=>e) (fun b ps e=>{#[],by rw[e];simp}) (fun m V=>?_) (fun b u e=>?_) I.bare
 ·have e:b=it:=by simpa using hb
  subst e;exact⟨h1,Y,h2,W⟩
 ·obtain⟨o,es,R,O,r⟩:=V;exact{o,es,R,k _ o (dB Y) O,r}
 ·refine (I.hok b u e).stay (fun c v hc q=>k c v ?_ q) (fun _ q=>q) fun _ _ q=>q
  rcases hc with z|z
  ·rw[z];exact Z b u e
  ·exact Z c _ z
theorem Inv.tok(I:Inv X pins σ H s)(t:Nat):Inv X pins σ H {s with toks:=t}:=I.un (h':=s.heap) (t':=t) Un.refl I.hok
theorem Inv.kept{t':Nat}(I:Inv X pins σ H s)(k:∀b u,s.heap.get? b=Z8 u->h'.get? b=Z8 u):Inv X pins σ H {s with heap:=h',toks:=t'}:=I.un (Un.kept k) (I.hok.kept k)
theorem Inv.laid{a:ae}{o:HO}{t':Nat}(I:Inv X pins σ H s)(k:∀b u,s.heap.get? b=Z8 u->h'.get? b=Z8 u)(hp:s.heap.objs.size<=a)(new:hV X.prog X.w (upd H a o) h' a o) :
  Inv X pins σ (upd H a o) {s with heap:=h',toks:=t'}:=I.un (Un.laid k hp (I.hok.fresh hp)) (I.hok.laid k hp new)
theorem Inv.write{x e:ae}{o:HO}{t':Nat}(I:Inv X pins σ H s)(Y:Mut (H x))(W:e=x\/H e=Z8 (.own x))(k:∀b u,b≠e->s.heap.get? b=Z8 u->h'.get? b=Z8 u)(Z:∃u,h'.get? e=Z8 u)
  (new:hV X.prog X.w (upd H x o) h' x o):Inv X pins σ (upd H x o) {s with heap:=h',toks:=t'}:=I.un (Un.write Y W k Z) (I.hok.write Y W k Z new)
theorem Inv.weak{Z:List (Option V)}(I:Inv X pins σ H s)(W:Z.length=σ.length)(w:∀(i:Nat) v,Z[i]?=Z8 (Z8 v)->σ[i]?=Z8 (Z8 v)):Inv X pins Z H s:=
 {I.ok,I.os,I.bare,I.base,let ⟨m,U,Y⟩:=I.loc;{m,U,fun i x v O R e3=>Y i x v O (w i v R) e3},I.cell,I.free,I.freeC,I.pin,I.hok,W.trans I.len}
theorem Inv.pins_of{Z:List (ae×Obj)}(I:Inv X pins σ H s)(h:∀p∈Z,s.heap.get? p.1=Z8 p.2/\H p.1=Z7/\p.1≠X.env.locals/\p.1∉X.fs/\∀v,p.2.data≠.cell v):Inv X Z σ H s:=
 {I.ok,I.os,I.bare,I.base,I.loc,I.cell,I.free,I.freeC,fun p hp=>(bY.mp hp).elim (fun z=>I.pin p (dD _ z)) (h p),I.hok,I.len}
theorem uy{N:List Str}(Y:N.Nodup){i j:Nat}{x:Str}(a:N[i]?=Z8 x)(b:N[j]?=Z8 x):i=j:=by
 obtain⟨h1,W⟩:=aC.mp a;obtain⟨h2,Z⟩:=aC.mp b;exact (List.getElem_inj Y).mp (W.trans Z.symm)
theorem vW{M:Ij}{A:b8}{E:aj->aw->Prop}{i:Nat}{x:Str}{v:V}{u:aj}{Q:Unit->aw->Prop}(I:Inv X pins σ H s)(hN:X.N.Nodup)(hi:X.N[i]?=Z8 x)(hx:Loc X.env.scope x)(r:RelV v u)
  (h:∀s',Inv X pins (σ.set i (Z8 v)) H s'->(∃a,sW a s.heap s'.heap/\(a=X.env.locals\/X.env.cells.lookup x=Z8 a))->Q () s') (hf:X.fn x=true\/X.env.scope.names.lookup x=Z8 .local:=by first|exact .inl rfl|exact .inr rfl|assumption):bQ M A (storeName X.env x u) Q E s:=by
 obtain⟨m,hn,hl⟩:=id I.loc;have U:i<σ.length:=by rw[I.len];exact (aC.mp hi).1
 have cne:=I.cne;have Z:∀{a:ae} {h':cG},(∃o,s.heap.get? a=Z8 o/\H a=Z7)->sW a s.heap h'->HOk X.prog X.w H h':=fun {a h'} ha hs b ob e=>by
  obtain⟨_,_,bB⟩:=ha;refine (I.hok b ob e).stay (fun c g hc q=>(hs.2 c ?_).trans q) (fun _ q=>q) fun _ _ q=>q;rintro rfl
  rcases hc with rfl|hc
  ·simp_all
  ·simp_all
 rcases hx with hk|hk
 ·refine wpAny_storeName_local hk hn (fun h' f hs=>?_) (by rw[I.ok.kind];rfl);obtain⟨oL,_,_,bz,_⟩:=id hn;refine h _ {I.ok,I.os,I.bare,{fun b o e n hb hx=>?_,fun b o e n hb hx=>?_,I.base.free,fun b o e hx=>?_,I.base.tups,I.base.frzs,I.base.tbls},{_,f,fun j y v' Y W e3=>?_},fun y c e=>?_,I.free,I.freeC,fun p hp=>?_,Z ⟨oL,bz,I.free⟩ hs,by simpa using I.len} {_,hs,.inl rfl}
  ·exact (hs.2 b (aR (bT (aS e) I.ok.above))).trans (I.base.keep b o e n hb hx)
  ·obtain⟨sl,Y⟩:=I.base.slot b o e n hb hx;exact{sl,(hs.2 b (aR (bT (aS e) I.ok.above))).trans Y}
  ·obtain⟨o',Y⟩:=I.base.there b o e hx;exact{o',(hs.2 b (aR (bT (aS e) I.ok.above))).trans Y}
  ·by_cases O:j=i
   ·subst O;rw[hi]at Y;cases Y;rw[eG U]at W
    cases W;exact{u,r,.inl {hk,by simp}}
   ·rw[hW (dB O)]at W;obtain⟨u',r',q⟩:=hl j y v' Y W e3;refine{u',r',?_}
    rcases q with⟨k,e⟩|⟨k,c,e,z⟩
    ·refine .inl {k,?_};have:y≠x:=fun e=>O (uy hN Y (e ▸ hi));simp[this,e]
    ·exact .inr {k,c,e,z.sameBut hs (cne y c e)}
  ·obtain⟨g,z⟩:=I.cell y c e;exact{g,z.sameBut hs (cne y c e)}
  ·obtain⟨e,n,ne,nf,d⟩:=I.pin p hp;exact{(hs.2 p.1 ne).trans e,n,ne,nf,d}
 ·have R:X.fn x=true:=by
   rcases hf with z|z
   ·exact z
   ·rw[z]at hk;cases hk
  obtain⟨c,hc⟩:=I.ok.has x (.inl hk);obtain⟨g,z⟩:=I.cell x c hc;refine wpAny_storeName_cell I.ok.kind hk hc z (fun h' G hs=>?_);obtain⟨oc,J,D⟩:=id z;refine h {s with heap:=h'} {I.ok,I.os,I.bare,{fun b o e n hb hx=>?_,fun b o e n hb hx=>?_,I.base.free,fun b o e hx=>?_,I.base.tups,I.base.frzs,I.base.tbls},{m,hn.sameBut hs (dB (cne x c hc)),fun j y v' Y W e3=>?_},fun y t e=>?_,I.free,I.freeC,fun p hp=>?_,Z {oc,J,I.freeC x c hc} hs,by simpa using I.len} {c,hs,.inr hc}
  ·exact (hs.2 b (aR (bT (aS e) (I.ok.cab x c R hc)))).trans (I.base.keep b o e n hb hx)
  ·obtain⟨sl,Y⟩:=I.base.slot b o e n hb hx;exact{sl,(hs.2 b (aR (bT (aS e) (I.ok.cab x c R hc)))).trans Y}
  ·obtain⟨o',Y⟩:=I.base.there b o e hx;exact{o',(hs.2 b (aR (bT (aS e) (I.ok.cab x c R hc)))).trans Y}
  ·by_cases O:j=i
   ·subst O;rw[hi]at Y;cases Y;rw[eG U]at W
    cases W;exact{u,r,.inr {.inl hk,c,hc,G}}
   ·rw[hW (dB O)]at W;obtain⟨u',r',q⟩:=hl j y v' Y W e3;refine{u',r',?_}
    rcases q with q|⟨k,t,e,z'⟩
    ·exact .inl q
    ·refine .inr {k,t,e,z'.sameBut hs ?_};rintro rfl;exact O (uy hN Y (I.ok.inj _ _ _ e hc ▸ hi))
  ·by_cases B:t=c
   ·subst B;exact{_,G}
   ·obtain⟨w2,z2⟩:=I.cell y t e;exact{w2,z2.sameBut hs B}
  ·obtain⟨e,n,ne,nf,d⟩:=I.pin p hp;refine{(hs.2 p.1 ?_).trans e,n,ne,nf,d};intro q;rw[q,J]at e;exact d g (by rw[<- (dy e)];exact D)
theorem rn{M:Ij}{A:b8}{E:aj->aw->Prop}{i:Nat}{x:Str}{v:V}{u:aj}{Q:Unit->aw->Prop}(I:Inv X pins σ H s)(Z:X.N.Nodup)(hi:X.N[i]?=Z8 x)(hx:Loc X.env.scope x)(r:RelV v u)
  (h:∀s',Inv X pins (σ.set i (Z8 v)) H s'->Q () s') (Y:X.fn x=true\/X.env.scope.names.lookup x=Z8 .local:=by first|exact .inl rfl|exact .inr rfl|assumption):bQ M A (storeName X.env x u) Q E s:=
 vW I Z hi hx r (fun s' W _=>h s' W) Y
theorem Inv.call'{s':aw}{ch:List ae}(I:Inv X pins σ H s)(W:s'.os=s.os)(u:Un (frs X.stack) ch H H' s.heap s'.heap)(Z:HOk X.prog X.w H' s'.heap)(V:o6 s'.gens)
  (Y:∀b∈ch,(b∈X.ex\/X.s₀.heap.objs.size<=b)/\b≠X.env.locals/\(∀x c,X.env.cells.lookup x=Z8 c->c≠b)/\∀p∈X.pn++pins,p.1≠b):Inv X pins σ H' s':=by
 obtain⟨h',g',d',t',o'⟩:=s';subst (W);exact I.call (g':=g') (t':=t') (d':=d') u Z V Y
end
abbrev XK:=aj->Option ae->Hp->Prop
abbrev St:=List (Option V)
abbrev VK:=V->Hp->Prop
abbrev TE:=St->Hp->VK->Prop
abbrev TT:=St->Hp->(Bool->Hp->Prop)->Prop
abbrev TA:=St->Hp->(List V->Hp->Prop)->Prop
structure kK where
 nx:St->Hp->Prop
 rt:VK
 bk:St->Hp->Prop:=fun _ _=>False
 ct:St->Hp->Prop:=fun _ _=>False
abbrev TS:=kK->St->Hp->Prop
def EP(X:Cx)(pins:List (ae×Obj))(σ:St)(Q:VK)(u:aj)(s':aw):Prop:=∃v H',Inv X pins σ H' s'/\RelV v u/\Q v H'
def TP(X:Cx)(pins:List (ae×Obj))(σ:St)(Q:Bool->Hp->Prop)(b:Bool)(s':aw):Prop:=∃H',Inv X pins σ H' s'/\Q b H'
def AP(X:Cx)(pins:List (ae×Obj))(σ:St)(Q:List V->Hp->Prop)(Z:List aj)(s':aw):Prop:=∃vs H',Inv X pins σ H' s'/\dv vs Z/\Q vs H'
def SP(X:Cx)(pins:List (ae×Obj))(D:kK)(f:Flow)(s':aw):Prop:=
 match f with
 |.next=>∃Z H',Inv X pins Z H' s'/\D.nx Z H'
 |.brk=>∃Z H',Inv X pins Z H' s'/\D.bk Z H'
 |.cont=>∃Z H',Inv X pins Z H' s'/\D.ct Z H'
 |.ret u=>∃v Z H',Inv X pins Z H' s'/\RelV v u/\D.rt v H'
def PE(X:Cx)(e:c8)(t:TE):Prop:=
 ∀(pins:List (ae×Obj)) (s:aw) (σ:St) (H:Hp) (Q:VK),Inv X pins σ H s->t σ H Q->bQ (bR X.prog X.w) X.A (gc e X.env) (EP X pins σ Q) X.xe s
def PT(X:Cx)(e:c8)(t:TT):Prop:=
 ∀(pins:List (ae×Obj)) (s:aw) (σ:St) (H:Hp) (Q:Bool->Hp->Prop),Inv X pins σ H s->t σ H Q->bQ (bR X.prog X.w) X.A (Ep e X.env (gc e X.env)) (TP X pins σ Q) X.xe s
def PW(X:Cx)(e:c8)(t:TT):Prop:=
 ∀(Z:Sem aj) (pins:List (ae×Obj)) (s:aw) (σ:St) (H:Hp) (Q:Bool->Hp->Prop),Inv X pins σ H s->t σ H Q->bQ (bR X.prog X.w) X.A (Ep e X.env Z) (TP X pins σ Q) X.xe s
theorem PW.pt{X:Cx}{e:c8}{t:TT}(h:PW X e t):PT X e t:=h _
def PA(X:Cx)(es:List c8)(t:TA):Prop:=
 ∀(pos:Pos) (pins:List (ae×Obj)) (s:aw) (σ:St) (H:Hp) (Q:List V->Hp->Prop),Inv X pins σ H s->t σ H Q->bQ (bR X.prog X.w) X.A (spliced (jk pos (cO es X.env))) (AP X pins σ Q) X.xe s
def PS(X:Cx)(st:c9)(t:TS):Prop:=
 ∀(pins:List (ae×Obj)) (s:aw) (σ:St) (H:Hp) (D:kK),Inv X pins σ H s->t D σ H->bQ (bR X.prog X.w) X.A (exec st X.env) (SP X pins D) X.xe s
def PSs(X:Cx)(st:List c9)(t:TS):Prop:=
 ∀(pins:List (ae×Obj)) (s:aw) (σ:St) (H:Hp) (D:kK),Inv X pins σ H s->t D σ H->bQ (bR X.prog X.w) X.A (execs st X.env) (SP X pins D) X.xe s
theorem thn{Y:Type}{t:Sem Y}{Q Z:Y->aw->Prop}{M:Ij}{A:b8}{E:aj->aw->Prop}{s:aw}(h:bQ M A t Q E s)(W:∀a s,Q a s->Z a s):bQ M A t Z E s:=eJ h W fun _ _ x=>x
section
variable{X:Cx}
theorem bin{a b:c8}{ta tb:TE}(ha:PE X a ta)(hb:PE X b tb){pins:List (ae×Obj)}{s:aw}{σ:St}{H:Hp}{R:V->V->Hp->Prop}(I:Inv X pins σ H s)(h:ta σ H fun x H1=>tb σ H1 fun y H2=>R x y H2)
  {W:Type} {Q:W->aw->Prop} {f:aj->aj->Sem W}
  (E:∀v u s2 x y H2,Inv X pins σ H2 s2->RelV x v->RelV y u->R x y H2->bQ (bR X.prog X.w) X.A (f v u) Q X.xe s2) :
  bQ (bR X.prog X.w) X.A (gc a X.env) (fun v Y=>bQ (bR X.prog X.w) X.A (gc b X.env) (fun u Z=>bQ (bR X.prog X.w) X.A (f v u) Q X.xe Z) X.xe Y) X.xe s:=thn (ha pins s σ H _ I h) fun v U ⟨x,H1,B,G,J⟩=>thn (hb pins U σ H1 _ B J) fun u s2 ⟨y,H2,M,D,O⟩=>E v u s2 x y H2 M G D O
set_option genSizeOf false
set_option genInjectivity false
inductive TVar(i:Nat)(σ:St)(H:Hp)(Q:VK):Prop where
 |mk(v:V)(h:σ[i]?=Z8 (Z8 v))(q:Q v H):TVar i σ H Q
def qN(i:Nat):TE:=fun σ H Q=>TVar i σ H Q
def tC(v:V):TE:=fun _ H Q=>Q v H
theorem LR{i:Nat}{x:Str}{pos:Pos}(O:X.N[i]?=Z8 x)(M:Vis X.env.scope x)(Y:(x==("__debug__":Str))=false:=by decide)(W:(x==("__classdict__":Str))=false:=by decide):PE X (.Name x pos) (qN i):=by
 intro pins s σ H Q I h;obtain⟨v,e,h⟩:=h;obtain⟨m,R,U⟩:=I.loc;obtain⟨u,r,l⟩:=U i x v O e M;have fin:EP X pins σ Q u s:=⟨v,H,I,r,h⟩
 rcases l with⟨hk,V⟩|⟨hk,c,hc,Z⟩
 ·exact LS (wpAny_loadName_local I.ok.kind hk R V fin) Y
 ·rcases hk with hk|hk
  ·exact LS (wpAny_loadName_cell I.ok.kind hk hc Z fin) Y
  ·exact LS (wpAny_loadName_free I.ok.kind hk hc Z fin W) Y
theorem ah {i j pos}:PE X (.Constant (.int i) j pos) (tC (.int i)):=fun _ _ _ H _ I h=>wpAny_Constant_int {.int i,H,I.tok _,{_,Z9},h}
theorem km {b j pos}:PE X (.Constant (.bool b) j pos) (tC (.bl b)):=fun _ _ _ H _ I h=>Constant_bool {.bl b,H,I,Z9,h}
theorem xo {j pos}:PE X (.Constant .none j pos) (tC .non):=fun _ _ _ H _ I h=>Cu {.non,H,I,Z9,h}
theorem bP {x j pos}:PE X (.Constant (.str x) j pos) (tC (.str x)):=fun _ _ _ H _ I h=>Calls.Constant_str {.str x,H,I.tok _,{_,Z9},h}
def Gl(X:Cx)(x:Str):Prop:=X.env.kindOf x=Z8 .globalImplicit
theorem p8{E:aj->aw->Prop}{pins:List (ae×Obj)}{s:aw}{σ:St}{H:Hp}{x:Str}{u:aj}{pos:Pos}{Q:aj->aw->Prop}(I:Inv X pins σ H s)(Y:Gl X x)(Z:X.mg x=Z8 u)(h:Q u s)
  (W:(x==("__debug__":Str))=false:=by decide):bQ (bR X.prog X.w) X.A (gc (.Name x pos) X.env) Q E s:=
 vA I.ok.kind Y (Calls.loadGlobal_global (I.ok.glob ▸ I.mod.glob.keeps I.bk) Z h) W
theorem sh{E:aj->aw->Prop}{pins:List (ae×Obj)}{s:aw}{σ:St}{H:Hp}{x:Str}{u:aj}{pos:Pos}{Q:aj->aw->Prop}(I:Inv X pins σ H s)(Y:Gl X x)(W:X.mg x=Z7)(U:eB x=Z8 u)(h:Q u s)
  (V:x≠"__name__":=by decide) (Z:(x==("__debug__":Str))=false:=by decide):bQ (bR X.prog X.w) X.A (gc (.Name x pos) X.env) Q E s:=by
 obtain⟨R,h1,h2⟩:=I.mod.blt;exact vA I.ok.kind Y (Calls.loadGlobal_builtin (I.ok.glob ▸ I.mod.glob.keeps I.bk) W (I.ok.blt ▸ h1.keeps I.bk) ((h2 x V).trans U) h) Z
theorem Bd{x:Str}{v:V}{u:aj}{pos:Pos}(Y:Gl X x)(W:X.mg x=Z8 u)(r:RelV v u)(Z:(x==("__debug__":Str))=false:=by decide):PE X (.Name x pos) (tC v):=
 fun _ _ _ H _ I h=>p8 I Y W ⟨v,H,I,r,h⟩ Z
theorem iu{x:Str}{v:V}{u:aj}{pos:Pos}(Z:Gl X x)(Y:X.mg x=Z7)(U:eB x=Z8 u)(r:RelV v u)(W:x≠"__name__":=by decide)(R:(x==("__debug__":Str))=false:=by decide):PE X (.Name x pos) (tC v):=
 fun _ _ _ H _ I h=>sh I Z Y U ⟨v,H,I,r,h⟩ W R
variable{a b:c8}{ta tb:TE}{pos:Pos}
def PC(X:Cx)(op:Ik)(a b:c8)(t:TE):Prop:=
 ∀(pins:List (ae×Obj)) (s:aw) (σ:St) (H:Hp) (Q:VK),Inv X pins σ H s->t σ H Q ->
  bQ (bR X.prog X.w) X.A (gc a X.env) (fun v Y=>bQ (bR X.prog X.w) X.A (gc b X.env) (fun u Z=>bQ (bR X.prog X.w) X.A (eE op v u) (EP X pins σ Q) X.xe Z) X.xe Y) X.xe s
theorem Er(b:c8){op:Ik}(h:op≠.In)(h2:op≠.NotIn):jT op b=false:=by
 have Y:(op==CmpOp.In)=false:=by simp_all
 have Z:(op==CmpOp.NotIn)=false:=by simp_all
 cases b<;>simp[jT,Y,Z]
def tIsN(ta:TE):TE:=fun σ H Q=>ta σ H fun x H1=>Q (.bl (decide (x=.non))) H1
def tNotN(ta:TE):TE:=fun σ H Q=>ta σ H fun x H1=>Q (.bl (!decide (x=.non))) H1
theorem RelV.none_iff{x:V}{v:aj}(r:RelV x v):(v==Value.none)=decide (x=.non):=by
 cases x with
 |non=>cases r;rfl
 |bl _=>cases r;rfl
 |int _=>obtain⟨t,rfl⟩:=r;rfl
 |str _=>obtain⟨t,rfl⟩:=r;rfl
 |byt _=>obtain⟨t,rfl⟩:=r;rfl
 |flt _=>obtain⟨t,rfl⟩:=r;rfl
 |ref _=>cases r;rfl
 |ty _=>cases r;rfl
theorem LU {j pos'} (ha:PE X a ta):PC X .Is a (.Constant .none j pos') (tIsN ta):=by
 intro pins s σ H Q I h;exact thn (ha pins s σ H _ I h) fun v V ⟨x,H1,W,Z,Y⟩=>Cu (is_none_gen {.bl _,H1,W,by rw[Z.none_iff];rfl,Y})
theorem Be {j pos'} (ha:PE X a ta):PC X .IsNot a (.Constant .none j pos') (tNotN ta):=by
 intro pins s σ H Q I h;exact thn (ha pins s σ H _ I h) fun v V ⟨x,H1,W,Z,Y⟩=>Cu (isnot_none_gen {.bl _,H1,W,by rw[Z.none_iff];rfl,Y})
inductive BlI(x:V)(H:Hp)(Q:Bool->Hp->Prop):Prop where
 |mk(c:Bool)(h:x=.bl c)(q:Q c H):BlI x H Q
def tB(t:TE):TT:=fun σ H Q=>t σ H fun x H1=>BlI x H1 Q
theorem uz{op:Ik}{t:TE}(h:PC X op a b t)(h1:jT op b=false:=by first|exact Er _ (by decide) (by decide)|rfl):PT X (.Compare a [op] [b] pos) (tB t):=by
 intro pins s σ H Q I hw;refine HZ (thn (h pins s σ H _ I hw) fun v V h1=>thn h1 fun u s2 h2=>thn h2 fun c U ⟨x,H1,W,Y,Z⟩=>?_) h1;obtain⟨d,rfl,q⟩:=Z;subst Y;exact gG ⟨H1,W,q⟩
theorem hJ{e:c8}{t:TE}(h:PE X e t)(W:∀Z,Ep e X.env Z=(do let v <- Z;vB e.pos;o7 [v] (truthy v)):=by intro _;rfl):PT X e (tB t):=by
 intro pins s σ H Q I hw;refine isTrue_plain (thn (h pins s σ H _ I hw) fun v R ⟨x,H1,U,V,Y⟩=>?_) (W _);obtain⟨d,rfl,q⟩:=Y;subst V;exact gG ⟨H1,U,q⟩
variable{tA tB':TT}{rest:List c8}
def tAnd(t u:TT):TT:=fun σ H Q=>t σ H fun c H1=>if c=true then u σ H1 Q else Q false H1
def tOr(t u:TT):TT:=fun σ H Q=>t σ H fun c H1=>if c=true then Q true H1 else u σ H1 Q
def tNot(t:TT):TT:=fun σ H Q=>t σ H fun c H1=>Q (!c) H1
theorem kZ(ha:PT X a tA):PW X (.BoolOp .And [a] pos) tA:=by
 intro Y pins s σ H Q I h;refine isTrue_and (thn (ha pins s σ H Q I h) fun c Z e=>?_)
 cases c with
 |true=>exact isTrue_and_nil e
 |false=>exact e
theorem lE(ha:PT X a tA):PW X (.BoolOp .Or [a] pos) tA:=by
 intro Y pins s σ H Q I h;refine isTrue_or (thn (ha pins s σ H Q I h) fun c Z e=>?_)
 cases c with
 |false=>exact isTrue_or_nil e
 |true=>exact e
theorem oj(ha:PT X a tA)(hb:PW X (.BoolOp .And (b::rest) pos) tB'):PW X (.BoolOp .And (a::b::rest) pos) (tAnd tA tB'):=by
 intro U pins s σ H Q I h;refine isTrue_and (thn (ha pins s σ H _ I h) fun c W V=>?_);obtain⟨H1,Y,Z⟩:=V
 cases c with
 |true=>exact hb U pins W σ H1 Q Y Z
 |false=>exact⟨H1,Y,Z⟩
theorem mB(ha:PT X a tA)(hb:PW X (.BoolOp .Or (b::rest) pos) tB'):PW X (.BoolOp .Or (a::b::rest) pos) (tOr tA tB'):=by
 intro U pins s σ H Q I h;refine isTrue_or (thn (ha pins s σ H _ I h) fun c W V=>?_);obtain⟨H1,Y,Z⟩:=V
 cases c with
 |true=>exact⟨H1,Y,Z⟩
 |false=>exact hb U pins W σ H1 Q Y Z
theorem kL(ha:PT X a tA):PT X (.UnaryOp .Not a pos) (tNot tA):=by
 intro pins s σ H Q I h;exact isTrue_not (ha pins s σ H (fun c H1=>Q (!c) H1) I h)
def tAndV(ta tb:TE):TE:=fun σ H Q=>ta σ H fun x H1=>∃c,x=.bl c/\if c=true then tb σ H1 Q else Q (.bl false) H1
def tNotV(ta:TE):TE:=fun σ H Q=>ta σ H fun x H1=>∃c,x=.bl c/\Q (.bl (!c)) H1
theorem Es {op} {t:TE} (h:PE X a t):PE X (.BoolOp op [a] pos) t:=fun pins s σ H Q I hw=>BoolOp_one (h pins s σ H Q I hw)
theorem Et(ha:PE X a ta)(hb:PE X (.BoolOp .And (b::rest) pos) tb):PE X (.BoolOp .And (a::b::rest) pos) (tAndV ta tb):=by
 intro pins s σ H Q I h;refine BoolOp_and (thn (ha pins s σ H _ I h) fun v V ⟨x,H1,Y,W,Z⟩=>?_);obtain⟨c,rfl,Z⟩:=Z
 cases W;refine gG ?_
 cases c with
 |true=>exact hb pins V σ H1 Q Y Z
 |false=>exact{.bl false,H1,Y,Z9,Z}
theorem LV(ha:PE X a ta):PE X (.UnaryOp .Not a pos) (tNotV ta):=by
 intro pins s σ H Q I h;refine UnaryOp_ (thn (ha pins s σ H _ I h) fun v V ⟨x,H1,W,Y,Z⟩=>?_);obtain⟨c,rfl,Z⟩:=Z
 cases Y;exact not_of (gG {.bl (!c),H1,W,Z9,Z})
def tIf(t:TT)(ta tb:TE):TE:=fun σ H Q=>t σ H fun c H1=>if c=true then ta σ H1 Q else tb σ H1 Q
theorem uA{c:c8}(hc:PT X c tA)(ha:PE X a ta)(hb:PE X b tb):PE X (.IfExp c a b pos) (tIf tA ta tb):=by
 intro pins s σ H Q I h;refine wpAny_IfExp (thn (hc pins s σ H _ I h) fun d Z V=>?_);obtain⟨H1,W,Y⟩:=V
 cases d with
 |true=>exact ha pins Z σ H1 Q W Y
 |false=>exact hb pins Z σ H1 Q W Y
end
def SqL(K:af)(H:Hp)(a:ae)(xs:List V):Prop:=
 Rd H a (.lst xs) \/
  ∃(o:Obj) (Z:Array aj) (n:Nat),K.lookup a=Z8 o/\o.cls=.type "list"/\o.dict=Z7/\o.data=.seq Z n/\Z.size<=aG/\dv xs Z.toList
def SqT(K:af)(H:Hp)(a:ae)(xs:List V):Prop:=
 Rd H a (.tup xs) \/
  ∃(o:Obj) (Z:Array aj) (n:Nat),K.lookup a=Z8 o/\o.cls=.type "tuple"/\o.data=.seq Z n/\Z.size<=aG/\dv xs Z.toList
def absV:aj->Option V
 |.none=>Z8 .non
 |.bool b=>Z8 (.bl b)
 |.int i _=>Z8 (.int i)
 |.str x _=>Z8 (.str x)
 |.bytes b _=>Z8 (.byt b)
 |.float b _=>Z8 (.flt b)
 |.ref a=>Z8 (.ref a)
 |.type n=>Z8 (.ty n)
 |_=>Z7
theorem RelV.abs{x:V}{u:aj}(r:RelV x u):absV u=Z8 x:=by
 cases x with
 |non=>cases r;rfl
 |bl _=>cases r;rfl
 |int _=>obtain⟨t,rfl⟩:=r;rfl
 |str _=>obtain⟨t,rfl⟩:=r;rfl
 |byt _=>obtain⟨t,rfl⟩:=r;rfl
 |flt _=>obtain⟨t,rfl⟩:=r;rfl
 |ref _=>cases r;rfl
 |ty _=>cases r;rfl
theorem RelV.inj{x y:V}{u:aj}(r:RelV x u)(q:RelV y u):x=y:=dy (r.abs.symm.trans q.abs)
theorem dv.inj:∀{xs ys:List V} {Z:List aj},dv xs Z->dv ys Z->xs=ys
 |_,_,_,.nil,.nil=>rfl
 |_,_,_,.cons r t,.cons Y t'=>by rw[r.inj Y,dv.inj t t']
section
variable{X:Cx}{pins:List (ae×Obj)}{σ:St}{H:Hp}{s:aw}{a:ae}{xs ys:List V}
theorem SqL.of{K:af}(h:H a=Z8 (.lst xs)):SqL K H a xs:=.inl (.inl h)
theorem SqT.of{K:af}(h:H a=Z8 (.tup xs)):SqT K H a xs:=.inl (.inl h)
theorem Inv.list(I:Inv X pins σ H s)(h:SqL X.K H a xs):∃Z:List aj,dv xs Z/\PlainL s.heap a Z.toArray/\xs.length<=aG:=by
 rcases h with h|⟨o,Z,n,hk,hc,Y,hs,hz,r⟩
 ·obtain⟨z,Z,n,r,e⟩:=h.ok I.hok;exact{Z,r,{_,n,e,Z9,Z9,Z9},z}
 ·refine{Z.toList,r,{o,n,I.kIn a o hk,hc,Y,by simpa using hs},?_};have e:=r.length;simp at e
  lia
theorem Inv.tuple(I:Inv X pins σ H s)(h:SqT X.K H a xs):∃Z:List aj,dv xs Z/\m7 s.heap a Z.toArray/\xs.length<=aG:=by
 rcases h with h|⟨o,Z,n,hk,hc,hs,hz,r⟩
 ·obtain⟨z,Z,r,p⟩:=h.ok I.hok;exact⟨Z,r,p,z⟩
 ·refine{Z.toList,r,{o,I.kIn a o hk,hc,n,by simpa using hs},?_};have e:=r.length;simp at e;omega
theorem Inv.list_inj(I:Inv X pins σ H s)(h:SqL X.K H a xs)(h':SqL X.K H a ys):xs=ys:=by
 obtain⟨Z,r,⟨o,n,e,_,_,d⟩,_⟩:=I.list h;obtain⟨its',W,⟨o',U,Y,_,_,d'⟩,_⟩:=I.list h';rw[e]at Y;cases Y;rw[d]at d';injection d' with V _;have:Z=its':=by simpa using congrArg LW V
 subst this;exact r.inj W
theorem Inv.tuple_inj(I:Inv X pins σ H s)(h:SqT X.K H a xs)(h':SqT X.K H a ys):xs=ys:=by
 obtain⟨Z,r,⟨o,e,_,n,d⟩,_⟩:=I.tuple h;obtain⟨its',W,⟨o',Y,_,U,d'⟩,_⟩:=I.tuple h';rw[e]at Y;cases Y;rw[d]at d';injection d' with V _;have:Z=its':=by simpa using congrArg LW V
 subst this;exact r.inj W
end
abbrev Cx.wish(X:Cx)(E:aj->aw->Prop):Cx:={X with xe:=E}
abbrev Cx.nox(X:Cx):Cx:=X.wish fun _ _=>False
theorem Cx.Ok.wish{X:Cx}(ok:X.Ok)(E:aj->aw->Prop):(X.wish E).Ok:=
 ⟨ok.mod,ok.kind,ok.glob,ok.blt,ok.above,ok.inj,ok.has,ok.cab,ok.hd,ok.frames,ok.stk,ok.exf,ok.bs,ok.bsz,ok.noex,ok.exfs,ok.funs,ok.frf⟩
theorem Cx.Ok.unwish{X:Cx}{E:aj->aw->Prop}(ok:(X.wish E).Ok):X.Ok:=
 ⟨ok.mod,ok.kind,ok.glob,ok.blt,ok.above,ok.inj,ok.has,ok.cab,ok.hd,ok.frames,ok.stk,ok.exf,ok.bs,ok.bsz,ok.noex,ok.exfs,ok.funs,ok.frf⟩
section
variable{X:Cx}{pins:List (ae×Obj)}{σ:St}{H:Hp}{s:aw}{E:aj->aw->Prop}
theorem Inv.wish(I:Inv X pins σ H s)(E:aj->aw->Prop):Inv (X.wish E) pins σ H s:={I.ok.wish E,I.os,I.bare,I.base,I.loc,I.cell,I.free,I.freeC,I.pin,I.hok,I.len}
theorem Inv.unwish(I:Inv (X.wish E) pins σ H s):Inv X pins σ H s:=⟨I.ok.unwish,I.os,I.bare,I.base,I.loc,I.cell,I.free,I.freeC,I.pin,I.hok,I.len⟩
theorem SP.unwish{D:kK}{f:Flow}{s':aw}(h:SP (X.wish E) pins D f s'):SP X pins D f s':=by
 cases f with
 |next=>obtain⟨Z,H',I,q⟩:=h;exact⟨Z,H',I.unwish,q⟩
 |brk=>obtain⟨Z,H',I,q⟩:=h;exact⟨Z,H',I.unwish,q⟩
 |cont=>obtain⟨Z,H',I,q⟩:=h;exact⟨Z,H',I.unwish,q⟩
 |ret u=>obtain⟨v,Z,H',I,r,q⟩:=h;exact⟨v,Z,H',I.unwish,r,q⟩
theorem PSs.nox{st:List c9}{t:TS}(h:PSs X.nox st t):PSs X st t:=fun pins s σ H D I hw=>
 eJ (h pins s σ H D (I.wish _) hw) (fun _ _ q=>q.unwish) fun _ _ z=>df z
end
section
variable{X:Cx}{st:c9}{rest:List c9}{t u:TS}{e:c8}{te:TE}{pos:Pos}
def Eu:TS:=fun D σ H=>D.nx σ H
def LX(t u:TS):TS:=fun D σ H=>t {D with nx:=u D} σ H
theorem bL:PSs X [] Eu:=fun _ _ σ H _ I h=>rg ⟨σ,H,I,h⟩
theorem ag(h1:PS X st t)(h2:PSs X rest u):PSs X (st::rest) (LX t u):=by
 intro pins s σ H D I h;refine wpAny_execs_cons (thn (h1 pins s σ H {D with nx:=u D} I h) fun f Y q=>?_)
 cases f with
 |next=>
  obtain⟨Z,H',W,q⟩:=q;exact h2 pins Y Z H' D W q
 |ret v=>exact q
 |brk=>exact q
 |cont=>exact q
theorem aA(h1:PS X st t):PSs X [st] t:=by
 intro pins s σ H D I h;refine wpAny_execs_cons (thn (h1 pins s σ H D I h) fun f Z q=>?_)
 cases f with
 |next=>exact rg q
 |ret v=>exact q
 |brk=>exact q
 |cont=>exact q
theorem Inv.quiet{pins:List (ae×Obj)}{σ:St}{H:Hp}{s:aw}(I:Inv X pins σ H s):interactive X.env=false:=by simp[interactive,I.ok.kind]
def tDrop(te:TE):TS:=fun D σ H=>te σ H fun _ H1=>D.nx σ H1
theorem cV(Y:PE X e te)(hs:qB e Z7 pos.line X.env=pure false:=by rfl):PS X (.Expr e pos) (tDrop te):=by
 intro pins s σ H D I h;exact wpAny_Expr_any (thn (Y pins s σ H _ I h) fun v V ⟨x,H1,W,U,Z⟩=>⟨σ,H1,W,Z⟩) I.quiet hs
def tRet(te:TE):TS:=fun D σ H=>te σ H D.rt
theorem bD(Y:PE X e te):PS X (.Return (Z8 e) pos) (tRet te):=by
 intro pins s σ H D I h;exact wpAny_Return_some (thn (Y pins s σ H _ I h) fun v U ⟨x,H1,V,W,Z⟩=>⟨x,σ,H1,V,W,Z⟩)
def Il(c:TT)(t u:TS):TS:=fun D σ H=>c σ H fun b H1=>if b=true then t D σ H1 else u D σ H1
theorem cC{c:c8}{a b:List c9}{tc:TT}(hc:PT X c tc)(ha:PSs X a t)(hb:PSs X b u):PS X (.If c a b pos) (Il tc t u):=by
 intro pins s σ H D I h;refine wpAny_If (thn (hc pins s σ H _ I h) fun d Z V=>?_);obtain⟨H1,W,Y⟩:=V
 cases d with
 |true=>exact ha pins Z σ H1 D W Y
 |false=>exact hb pins Z σ H1 D W Y
def LY:TS:=fun _ _ _=>False
theorem vX{sts:List c9}:PSs X sts LY:=fun _ _ _ _ _ _ h=>h.elim
end
abbrev TG:=V->St->Hp->(St->Hp->Prop)->Prop
abbrev TGs:=List V->St->Hp->(St->Hp->Prop)->Prop
def PG(X:Cx)(Z:c8)(t:TG):Prop:=
 ∀(pins:List (ae×Obj)) (s:aw) (σ:St) (H:Hp) (v:V) (u:aj) (Q:St->Hp->Prop),Inv X pins σ H s->RelV v u->t v σ H Q ->
  bQ (bR X.prog X.w) X.A (LZ Z X.env u) (fun _ s'=>∃Y H',Inv X pins Y H' s'/\Q Y H') X.xe s
def PGs(X:Cx)(W:List c8)(t:TGs):Prop:=
 ∀(pins:List (ae×Obj)) (s:aw) (σ:St) (H:Hp) (vs:List V) (Y:List aj) (Q:St->Hp->Prop),Inv X pins σ H s->dv vs Y->t vs σ H Q ->
  bQ (bR X.prog X.w) X.A (assignInOrder ((lF W X.env).map (·.2)) Y) (fun _ s'=>∃Z H',Inv X pins Z H' s'/\Q Z H') X.xe s
abbrev L0:=V->V->V->Hp->(Hp->Prop)->Prop
def PSet(X:Cx)(t:L0):Prop:=
 ∀(pins:List (ae×Obj)) (s:aw) (σ:St) (H:Hp) (o i v:V) (Z Y u:aj) (Q:Hp->Prop),Inv X pins σ H s->RelV o Z->RelV i Y->RelV v u->t o i v H Q ->
  bQ (bR X.prog X.w) X.A (setItem Z Y u) (fun _ s'=>∃H',Inv X pins σ H' s'/\Q H') X.xe s
section
variable{X:Cx}{pos:Pos}
def vY(i:Nat):TG:=fun v σ H Q=>Q (σ.set i (Z8 v)) H
theorem iw{i:Nat}{x:Str}(Z:X.N.Nodup)(hi:X.N[i]?=Z8 x)(hx:Loc X.env.scope x)(Y:X.fn x=true\/X.env.scope.names.lookup x=Z8 .local:=by first|exact .inl rfl|exact .inr rfl|assumption):PG X (.Name x pos) (vY i):=by
 intro pins s σ H v u Q I r h;exact Oc (rn I Z hi hx r (fun s' W=>{_,H,W,h}) Y)
def gNil:TGs:=fun vs σ H Q=>vs=[]/\Q σ H
inductive Ks(t:TG)(u:TGs)(vs:List V)(σ:St)(H:Hp)(Q:St->Hp->Prop):Prop where
 |mk(v:V)(r:List V)(h:vs=v::r)(q:t v σ H fun σ' H'=>u r σ' H' Q):Ks t u vs σ H Q
def gCons(t:TG)(u:TGs):TGs:=fun vs σ H Q=>Ks t u vs σ H Q
theorem lu:PGs X [] gNil:=by
 intro pins s σ H vs Z Q I r h;obtain⟨e,h⟩:=h;subst e
 cases r;exact assignInOrder_nil ⟨σ,H,I,h⟩
theorem eP{e:c8}{es:List c8}{t:TG}{u:TGs}(h1:PG X e t)(h2:PGs X es u)
  (hs:(lF (e::es) X.env).map (·.2)=LZ e X.env::(lF es X.env).map (·.2):=by rfl):PGs X (e::es) (gCons t u):=by
 intro pins s σ H vs O Q I r h;obtain⟨v,M,R,h⟩:=h;subst R
 cases r with
 |cons r V=>
  rw[hs];exact assignInOrder_cons (thn (h1 pins s σ H _ _ _ I r h) fun _ Y ⟨Z,H1,U,W⟩=>h2 pins Y Z H1 _ _ Q U V W)
inductive GTup(K:af)(n:Nat)(t:TGs)(v:V)(σ:St)(H:Hp)(Q:St->Hp->Prop):Prop where
 |mk(a:ae)(xs:List V)(h:v=.ref a)(s:SqT K H a xs)(l:xs.length=n)(q:t xs σ H Q):GTup K n t v σ H Q
def gTup(K:af)(n:Nat)(t:TGs):TG:=fun v σ H Q=>GTup K n t v σ H Q
theorem sj{es:List c8}{k:Nat}{t:TGs}{n:Nat}(hc:X.calm=true)(h:PGs X es t)
  (U:(lF es X.env).length=n:=by rfl) (Z:(lF es X.env).findIdx? (·.1)=Z7:=by rfl):PG X (.Tuple es k pos) (gTup X.K n t):=by
 intro pins s σ H v u Q I r hw;obtain⟨a,xs,O,hq,V,hw⟩:=hw;subst O;subst r;obtain⟨W,Y,R,hz⟩:=I.tuple hq;exact assign_Tuple_tuple (I.ok.hd hc) R (by simp[U,<- V,Y.length]) Z fun h' hx=>h pins _ σ H xs _ Q (I.kept (t':=s.toks) fun b o e=>hx b o (aR (aS e)) e) (by simpa using Y) hw
def gSub(to Y:TE)(t:L0):TG:=fun v σ H Q=>to σ H fun o H1=>Y σ H1 fun i H2=>t o i v H2 fun Z=>Q σ Z
theorem qO{o i:c8}{to W:TE}{t:L0}(D:PE X o to)(hi:PE X i W)(hs:PSet X t)
  (ha:∀v,LZ (.Subscript o i pos) X.env v=(do
   let Z <- o7 [v] (gc o X.env)
   let Y <- o7 [v,Z] (gc i X.env)
   vB pos
   o7 [v,Z,Y] (setItem Z Y v)
   release [v,Z,Y] []):=by intro _;rfl):PG X (.Subscript o i pos) (gSub to W t):=by
 intro pins s σ H v u Q I r h;rw[ha];exact au (eK (thn (D pins s σ H _ I h) fun Z V ⟨x,H1,B,J,M⟩=>au (eK (thn (hi pins V σ H1 _ B M) fun Y s2 ⟨y,H2,O,G,U⟩=>au (Cv (au (eK (thn (hs pins s2 σ H2 x y v Z Y u _ O J G r U) fun _ g ⟨R,E,z⟩=>wpAny_release ⟨σ,R,E,z⟩))))))))
def Ew(te:TE)(g:TG):TS:=fun D σ H=>te σ H fun x H1=>g x σ H1 D.nx
theorem pf{tg e:c8}{te:TE}{g:TG}(V:PE X e te)(W:PG X tg g)(hs:swapsWithSole [tg] e pos.line X.env=pure false:=by rfl)(hw:swappedStores [tg] e X.env=pure Z7:=by rfl)
  (h1:(lF [tg] X.env).map (·.2)=[LZ tg X.env]:=by rfl):PS X (.Assign [tg] e pos) (Ew te g):=by
 intro pins s σ H D I h;refine wpAny_Assign_stores (thn (V pins s σ H _ I h) fun v Z ⟨x,H1,R,U,Y⟩=>?_) hs hw;rw[h1];exact thn (W pins Z σ H1 x v _ R U Y) fun _ s2 q=>q
theorem qP{i:Nat}{x:Str}{e:c8}{te:TE}{pos':Pos}(R:X.N.Nodup)(hi:X.N[i]?=Z8 x)(hx:Loc X.env.scope x)(W:PE X e te)(hs:qB e (Z8 (.Name x pos')) pos.line X.env=pure false:=by rfl)(U:X.fn x=true\/X.env.scope.names.lookup x=Z8 .local:=by first|exact .inl rfl|exact .inr rfl|assumption) :
  PS X (.Assign [.Name x pos'] e pos) (Ew te (vY i)):=by
 intro pins s σ H D I h;exact wpAny_Assign_Name (thn (W pins s σ H _ I h) fun v M ⟨y,H1,O,V,Y⟩=>rn O R hi hx V (fun s2 Z=>{_,H1,Z,Y}) U) hs
end
section
variable{X:Cx}{pos:Pos}
def Ey(c:TT)(tb:TS):TS:=fun D σ H=>∃W:Nat->St->Hp->Prop,(∃m,W m σ H)/\∀m σ H,W m σ H ->
 c σ H fun b H1=>if b=true then ∃N:St->Hp->Prop,(∀Z H',N Z H'->∃Y,Y<m/\W Y Z H')/\tb {D with nx:=N,ct:=N,bk:=D.nx} σ H1 else D.nx σ H1
theorem rp{c:c8}{V:List c9}{tc:TT}{tb:TS}(hp:PassesOwn (bR X.prog X.w) X.A X.env X.xe)(hc:PT X c tc)(hb:PSs X V tb):PS X (.While c V [] pos) (Ey tc tb):=by
 intro pins s σ H D I h;obtain⟨W,⟨m0,w0⟩,turn⟩:=h;refine wpAny_While (codeAny_whileLoop (fun n s'=>∃R H',Inv X pins R H' s'/\W n R H') ?_ m0 ⟨σ,H,I,w0⟩);rintro n s1 ⟨Y,H1,I1,w1⟩;refine i5 hp (thn (hc pins s1 Y H1 _ I1 (turn n Y H1 w1)) fun b s2 qz=>?_);obtain⟨H2,g,O⟩:=qz
 cases b with
 |true=>
  obtain⟨N,t,O⟩:=O;refine i5 hp (thn (hb pins s2 Y H2 _ g O) fun f s3 M=>?_)
  cases f with
  |next=>
   obtain⟨Z,U,G,B⟩:=M;obtain⟨E,J,z⟩:=t Z U B;exact⟨E,J,Z,U,G,z⟩
  |cont=>
   obtain⟨Z,U,G,B⟩:=M;obtain⟨E,J,z⟩:=t Z U B;exact⟨E,J,Z,U,G,z⟩
  |brk=>exact M
  |ret v=>exact M
 |false=>
  exact rg ⟨Y,H2,g,O⟩
end
structure It where
 go:Nat->Hp->Prop
 yld:Nat->Hp->V->Hp->Prop
 stop:Nat->Hp->Prop
def xp(X:Cx)(pins:List (ae×Obj))(H:Hp)(b:ae):Prop:=
 H b=Z7/\b≠X.env.locals/\b∉X.fs/\(b∈X.ex\/X.s₀.heap.objs.size<=b)/\(∀x c,X.env.cells.lookup x=Z8 c->c≠b)/\∀p∈X.pn++pins,p.1≠b
theorem Inv.fpOk{X:Cx}{pins:List (ae×Obj)}{σ:St}{H H':Hp}{s:aw}{b:ae}(I:Inv X pins σ H s)(hb:s.heap.objs.size<=b)(Z:H' b=Z7):xp X pins H' b:=by
 refine{Z,pj (bT I.lt hb),I.nofs hb,.inr (cR I.sz hb),fun x c e z=>?_,fun p hp z=>?_}
 ·obtain⟨v,q⟩:=I.cell x c e;exact absurd (bT q.lt (z ▸ hb)) (gK _)
 ·exact absurd (bT (aS (I.pin p hp).1) (z ▸ hb)) (gK _)
structure Ac(P:aQ)(w:bU)(K:af)(tg:c8)(J:It)(fp:List ae)(it:ae)(tn:Nat->cG->Prop):Prop where
 mem:it∈fp
 obj:∀i h,tn i h->∀b∈fp,∃o,h.get? b=Z8 o/\∀v,o.data≠.cell v
 keep:∀i h h',tn i h->(∀b∈fp,∀o,h.get? b=Z8 o->h'.get? b=Z8 o)->tn i h'
 item:∀(X:Cx),X.prog=P->X.w=w->X.K=K->X.calm=true->∀(i:Nat) (pins:List (ae×Obj)) (s:aw) (σ:St) (H:Hp) (E:aj->aw->Prop),Inv X pins σ H s->(∀b∈fp,xp X pins H b)->tn i s.heap->J.go i H ->
  bQ (bR P w) X.A (pyNext (.ref it)) (fun r s1=>∃u,r=Z8 u /\
   bQ (bR P w) X.A (yS tg (.ref it) u) (fun _ s2=>∃x H',Inv X pins σ H' s2/\RelV x u/\J.yld i H x H'/\tn (i+1) s2.heap/\∀b∈fp,H' b=Z7) E s1) E s
 done:∀(X:Cx),X.prog=P->X.w=w->X.K=K->X.calm=true->∀(i:Nat) (pins:List (ae×Obj)) (s:aw) (σ:St) (H:Hp) (E:aj->aw->Prop),Inv X pins σ H s->(∀b∈fp,xp X pins H b)->tn i s.heap->J.stop i H ->
  bQ (bR P w) X.A (pyNext (.ref it)) (fun r s1=>r=Z7/\Inv X pins σ H s1) E s
 self:∀(A:b8) (i:Nat) (s:aw) (Q:aj->aw->Prop) (E:aj->aw->Prop),tn i s.heap->Q (.ref it) s->bQ (bR P w) A (pyIter (.ref it)) Q E s
abbrev TI:=St->Hp->(It->Hp->Prop)->Prop
def PIE(X:Cx)(pins:List (ae×Obj))(σ:St)(tg:c8)(R:It->Hp->Prop)(Z:aj)(s2:aw):Prop:=
 ∃(it:ae) (fp:List ae) (Y:Nat->cG->Prop) (J:It) (H':Hp),Z=.ref it/\Inv X pins σ H' s2/\Ac X.prog X.w X.K tg J fp it Y/\Y 0 s2.heap/\(∀b∈fp,xp X pins H' b)/\R J H'
def PI(X:Cx)(tg Z:c8)(W:TI):Prop:=
 ∀(pins:List (ae×Obj)) (s:aw) (σ:St) (H:Hp) (R:It->Hp->Prop),Inv X pins σ H s->W σ H R ->
  bQ (bR X.prog X.w) X.A (gc Z X.env) (fun v Y=>bQ (bR X.prog X.w) X.A (pyIter v) (PIE X pins σ tg R) X.xe Y) X.xe s
theorem Bf{M:Ij}{A:b8}{E:aj->aw->Prop}{s:aw}{tg:c8}{it:ae}{u:aj}{o:Obj}{n:String}{vs:Array aj}{Q:Unit->aw->Prop}(V:s.heap.get? it=Z8 o)(hc:o.cls=.type n)(Y:o.data=.fields vs)
  (W:["enumerate","zip","dict_itemiterator","dict_reverseitemiterator","odict_iterator","itertools.zip_longest","itertools.pairwise"].contains n=false) (Z:Q () s):bQ M A (yS tg (.ref it) u) Q E s:=by
 cases tg<;>first
  |exact bK Z
  |(cases u<;>first
    |exact bK Z
    |(refine au (wpAny_load V ?_)
      rw[hc,Y];show bQ M A (if (["enumerate","zip","dict_itemiterator","dict_reverseitemiterator","odict_iterator","itertools.zip_longest","itertools.pairwise"].contains n&&vs[0]?==Z8 (uB _))=true then _ else _) Q E s;rw[if_neg (by intro h;rw[W,Bool.false_and]at h;cases h)];exact bK Z))
def Itl(K:af)(a:ae):It:=
 ⟨fun i H=>∃xs x,SqL K H a xs/\xs[i]?=Z8 x,fun i H x H'=>H'=H/\∀xs,SqL K H a xs->xs[i]?=Z8 x,fun i H=>∃xs,SqL K H a xs/\xs.length<=i⟩
def Itt(K:af)(a:ae):It:=
 ⟨fun i H=>∃xs x,SqT K H a xs/\xs[i]?=Z8 x,fun i H x H'=>H'=H/\∀xs,SqT K H a xs->xs[i]?=Z8 x,fun i H=>∃xs,SqT K H a xs/\xs.length<=i⟩
def Itr(lo:Int)(n:Nat):It:=⟨fun i _=>i<n,fun i H x H'=>H'=H/\x=.int (lo+i),fun i _=>n<=i⟩
theorem Cw{P:aQ}{w:bU}{K:af}{tg:c8}(a it:ae):Ac P w K tg (Itl K a) [it] it (fun i h=>h.IsListIter it a i) where
 mem:=by simp
 obj:=fun i h st b hb=>by
  have e:b=it:=by simpa using hb
  subst e;obtain⟨o,e,c,d⟩:=st;exact{o,e,fun v z=>by rw[d]at z;cases z}
 keep:=fun i h h' st k=>st.at fun o e=>k it (by simp) o e
 item:=by
  intro X U hw G hc i pins s σ H E I Y st M;refine Z0 fun Gz V=>?_;subst U hw G;obtain⟨xs,x,hq,hx⟩:=M;obtain⟨W,B,p,hz⟩:=I.list hq;obtain⟨u,hu,g⟩:=B.get hx;obtain⟨D,f1,f2,J,R,O⟩:=Y it (by simp);refine V (Ez st p.isList (by simpa using hu) fun h' Z f=>?_);obtain⟨o,e,c,d⟩:=id Z;exact{u,Z9,Bf e c d (by decide) {x,H,(I.turned (t':=s.toks) (fun b o hb e=>(f.2 b hb).trans e) D f1 J R O),g,{Z9,fun ys hy=>by rw[I.list_inj hy hq];exact hx},Z,fun b hb=>(Y b hb).1}}
 done:=by
  intro X U hw G hc i pins s σ H E I Y st M;refine Z0 fun Gz V=>?_;subst U hw G;obtain⟨xs,hq,hx⟩:=M;obtain⟨W,B,p,hz⟩:=I.list hq;obtain⟨D,f1,f2,J,R,O⟩:=Y it (by simp);refine V ?_;have hl:=B.length;exact H9 (I.ok.hd hc) st p.isList (by simp;lia) fun h' t=>{Z9,I.turned (t':=s.toks) (fun b o hb e=>t b o hb e) D f1 J R O}
 self:=fun _ _ _ _ _ st h=>wpAny_pyIter_listiter st h
theorem Ad{P:aQ}{w:bU}{K:af}{tg:c8}(a it:ae):Ac P w K tg (Itt K a) [it] it (fun i h=>h.IsTupleIter it a i) where
 mem:=by simp
 obj:=fun i h st b hb=>by
  have e:b=it:=by simpa using hb
  subst e;obtain⟨o,e,c,d⟩:=st;exact{o,e,fun v z=>by rw[d]at z;cases z}
 keep:=fun i h h' st k=>st.at fun o e=>k it (by simp) o e
 item:=by
  intro X U hw G hc i pins s σ H E I Y st M;refine Z0 fun Gz V=>?_;subst U hw G;obtain⟨xs,x,hq,hx⟩:=M;obtain⟨W,B,p,hz⟩:=I.tuple hq;obtain⟨u,hu,g⟩:=B.get hx;obtain⟨D,f1,f2,J,R,O⟩:=Y it (by simp);refine V (wpAny_pyNext_tuple_item st (p) (by simpa using hu) fun h' Z f=>?_);obtain⟨o,e,c,d⟩:=id Z;exact{u,Z9,Bf e c d (by decide) {x,H,(I.turned (t':=s.toks) (fun b o hb e=>(f.2 b hb).trans e) D f1 J R O),g,{Z9,fun ys hy=>by rw[I.tuple_inj hy hq];exact hx},Z,fun b hb=>(Y b hb).1}}
 done:=by
  intro X U hw G hc i pins s σ H E I Y st M;refine Z0 fun Gz V=>?_;subst U hw G;obtain⟨xs,hq,hx⟩:=M;obtain⟨W,B,p,hz⟩:=I.tuple hq;obtain⟨D,f1,f2,J,R,O⟩:=Y it (by simp);refine V ?_;have hl:=B.length;exact wpAny_pyNext_tuple_end (I.ok.hd hc) st (p) (by simp;omega) fun h' t=>{Z9,I.turned (t':=s.toks) (fun b o hb e=>t b o hb e) D f1 J R O}
 self:=fun _ _ _ _ _ st h=>wpAny_pyIter_tupleiter st h
theorem Ae{P:aQ}{w:bU}{K:af}{tg:c8}(it:ae)(lo:Int)(n:Nat):Ac P w K tg (Itr lo n) [it] it (fun i h=>IsRangeIter h it (lo+(i:Nat)*1) ((n:Int)-(i:Nat)) 1) where
 mem:=by simp
 obj:=fun i h st b hb=>by
  have e:b=it:=by simpa using hb
  subst e;exact⟨_,st,fun v z=>by
   cases (z)⟩
 keep:=fun i h h' st k=>k it (by simp) _ st
 item:=by
  intro X W hw M hc i pins s σ H E I Y st R;subst W hw M;obtain⟨J,f1,D,O,V,U⟩:=Y it (by simp);refine (Walks.range (I.ok.hd hc) it lo 1 n).item i s _ _ R st fun v h' tk B Z kk=>?_;obtain⟨t,rfl⟩:=B;refine{_,Z9,Bf Z rfl rfl (by decide) {.int (lo+i),H,(I.turned (fun b o hb e=>kk b o (by simpa using hb) e) J f1 O V U),{t,?_},⟨Z9,Z9⟩,Z,fun b hb=>(Y b hb).1}};rw[Int.mul_one]
 done:=by
  intro X W hw M hc i pins s σ H E I Y st R;subst W hw M;obtain⟨J,f1,D,O,V,U⟩:=Y it (by simp);exact wpAny_pyNext_range_end (I.ok.hd hc) st (by have:n<=i:=R;lia) fun h' G=>{Z9,I.turned (t':=s.toks) (fun b o hb e=>G b o hb e) J f1 O V U}
 self:=fun _ _ _ _ _ st h=>wpAny_pyIter_rangeiter st h
section
variable{X:Cx}{tg:c8}
inductive EA(K:af)(x:V)(H:Hp)(R:It->Hp->Prop):Prop where
 |mk(a:ae)(hx:x=.ref a)(s:∃xs,SqL K H a xs)(q:R (Itl K a) H):EA K x H R
def EB(K:af)(tl:TE):TI:=fun σ H R=>tl σ H fun x H1=>EA K x H1 R
def iTup(K:af)(tl:TE):TI:=fun σ H R=>tl σ H fun x H1=>∃a,x=.ref a/\(∃xs,SqT K H1 a xs)/\R (Itt K a) H1
theorem fc{l:c8}{tl:TE}(M:PE X l tl):PI X tg l (EB X.K tl):=by
 intro pins s σ H R I h;refine thn (M pins s σ H _ I h) fun v Z U=>?_;obtain⟨x,H1,Y,O,V⟩:=U;obtain⟨a,e,⟨xs,hq⟩,q⟩:=V;subst e;subst O;obtain⟨W,J,p,hz⟩:=Y.list hq;refine vC p.isList ({Z.heap.objs.size,[Z.heap.objs.size],_,_,H1,Z9,Y.kept (t':=Z.toks) fun b o e=>aK _ e,Cw a _,{_,cA _ rfl,Z9,Z9},fun b hb=>?_,q});have e:b=Z.heap.objs.size:=by simpa using hb
 subst e;exact Y.fpOk (aF _) (Y.hok.fresh (aF _))
theorem L5{l:c8}{tl:TE}(J:PE X l tl):PI X tg l (iTup X.K tl):=by
 intro pins s σ H R I h;refine thn (J pins s σ H _ I h) fun v Z O=>Z0 fun E V=>?_;obtain⟨x,H1,Y,M,U⟩:=O;obtain⟨a,e,⟨xs,hq⟩,q⟩:=U;subst e;subst M;obtain⟨W,G,p,hz⟩:=Y.tuple hq;refine V (wpAny_pyIter_tuple (p) ({Z.heap.objs.size,[Z.heap.objs.size],_,_,H1,Z9,Y.kept (t':=Z.toks) fun b o e=>aK _ e,Ad a _,{_,cA _ rfl,Z9,Z9},fun b hb=>?_,q}));have e:b=Z.heap.objs.size:=by simpa using hb
 subst e;exact Y.fpOk (aF _) (Y.hok.fresh (aF _))
theorem EC{pins:List (ae×Obj)}{σ:St}{H:Hp}{s:aw}{R:It->Hp->Prop}{E:aj->aw->Prop}{lo hi:Int}{t u v:Tok}{tk:Nat}(I:Inv X pins σ H s)(h1:-(2^62)<=lo)(h2:lo<2^62)(Y:-(2^62)<=hi)(V:hi<2^62)
  (q:R (Itr lo (hi-lo).toNat) H):bQ (bR X.prog X.w) X.A (pyIter (.ref s.heap.objs.size)) (PIE X pins σ tg R) E {s with heap:=s.heap.push {cls:=.type "range",data:=.fields #[.int lo t,.int hi u,.int 1 v]},toks:=tk}:=by
 refine wpAny_pyIter_range (IsRange.new ..) (small_one h1 h2 Y V) ?_;have Z:Inv X pins σ H {s with heap:=s.heap.push {cls:=.type "range",data:=.fields #[.int lo t,.int hi u,.int 1 v]},toks:=tk}:=I.kept fun b o e=>aK _ e;refine⟨(s.heap.push {cls:=.type "range",data:=.fields #[.int lo t,.int hi u,.int 1 v]}).objs.size,[(s.heap.push {cls:=.type "range",data:=.fields #[.int lo t,.int hi u,.int 1 v]}).objs.size],_,_,H,Z9,
  Z.kept (t':=tk) fun b o e=>aK _ e,Ae _ lo (hi-lo).toNat,?_,fun b hb=>?_,q⟩
 ·have U:lo+((0:Nat):Int)*1=lo:=by simp
  have W:(((hi-lo).toNat:Nat):Int)-((0:Nat):Int)=Builtin.Range.rangeSize lo hi 1:=by rw[rangeSize_one];split<;>lia
  rw[U,W];exact cA _ rfl
 ·have e:b=(s.heap.push {cls:=.type "range",data:=.fields #[.int lo t,.int hi u,.int 1 v]}).objs.size:=by simpa using hb
  subst e;exact Z.fpOk (aF _) (Z.hok.fresh (aF _))
def Kt(ta:TA):TI:=fun σ H R=>ta σ H fun vs H1=>∃j:Int,vs=[.int j]/\-(2^62)<=j/\j<2^62/\R (Itr 0 j.toNat) H1
theorem jE{a:c8}{ta:TA}{p pos:Pos}(W:Gl X "range")(V:X.mg "range"=Z7)(ha:PA X [a] ta)(hs:cO [a] X.env=[(false,gc a X.env)]:=by rfl):PI X tg (.Call (.Name "range" p) [a] [] pos) (Kt ta):=by
 intro pins s σ H R I h;refine Call_ (sh I W V boot_range (kd (thn (ha pos pins s σ H _ I h) fun G J ⟨vs,H1,M,U,Z⟩=>?_) hs rfl));obtain⟨j,e,Z,Y,q⟩:=Z;subst e
 cases U with
 |cons r O=>
  cases O;obtain⟨t,rfl⟩:=r;exact call_range_1 (EC M (by lia) (by lia) Z Y (by simpa using q))
def tFor(U:TI)(g:TG)(tb:TS):TS:=fun D σ H=>U σ H fun J H1=>∃W:Nat->Nat->St->Hp->Prop,(∃m,W 0 m σ H1)/\∀i m σ H,W i m σ H ->
 (J.stop i H/\D.nx σ H)\/(J.go i H/\∃N:St->Hp->Prop,(∀Z H',N Z H'->∃V,V<m/\W (i+1) V Z H')/\∀x H',J.yld i H x H'->g x σ H' fun Y H2=>tb {D with nx:=N,ct:=N,bk:=D.nx} Y H2)
def sy(fp:List ae)(h:cG):List (ae×Obj):=fp.filterMap fun b=>(h.get? b).map fun o=>(b,o)
theorem om{fp:List ae}{h:cG}{b:ae}{o:Obj}(hb:b∈fp)(e:h.get? b=Z8 o):(b,o)∈sy fp h:=rZ.mpr {b,hb,by rw[e];rfl}
theorem Cy{fp:List ae}{h:cG}{p:ae×Obj}(hp:p∈sy fp h):p.1∈fp/\h.get? p.1=Z8 p.2:=by
 obtain⟨b,hb,e⟩:=rZ.mp hp
 cases q:h.get? b with
 |none=>rw[q]at e;cases e
 |some o=>
  rw[q]at e;have Z:=dy e;subst Z;exact⟨hb,q⟩
theorem Inv.pinned{pins:List (ae×Obj)}{σ:St}{H:Hp}{s:aw}{fp:List ae}(I:Inv X pins σ H s)(Y:∀b∈fp,xp X pins H b)(W:∀b∈fp,∃o,s.heap.get? b=Z8 o/\∀v,o.data≠.cell v):Inv X (pins++sy fp s.heap) σ H s:=
 I.pins_of fun p hp=>(bY.mp hp).elim (fun z=>I.pin p (aV _ z)) fun z=>by
  obtain⟨hb,e⟩:=Cy z;obtain⟨U,f1,V,_⟩:=Y p.1 hb;obtain⟨o,Z,d⟩:=W p.1 hb;rw[e]at Z;cases Z;exact⟨e,U,f1,V,d⟩
theorem Inv.unpinned{pins pl:List (ae×Obj)}{σ:St}{H:Hp}{s:aw}(I:Inv X (pins++pl) σ H s):Inv X pins σ H s:=I.pins_of fun p hp=>I.pin p (aV _ (dD _ hp))
theorem fq{O:c8}{G:List c9}{wi:TI}{g:TG}{tb:TS}{pos:Pos}(hp:PassesOwn (bR X.prog X.w) X.A X.env X.xe)(hc:X.calm=true)(hi:PI X tg O wi)(hg:PG X tg g)(hb:PSs X G tb)
  (hs:∀x,o8 O X.env x=pure x:=by intro _;rfl):PS X (.For tg O G [] pos) (tFor wi g tb):=by
 intro pins s σ H D I h;refine wpAny_For (thn (hi pins s σ H _ I h) fun v s1 h1=>thn h1 fun dc s2 h2=>Z0 fun Gz gz=>?_) hs;obtain⟨it,fp,tn,J,H2,e,I2,T,dg,f2,W,⟨m0,w0⟩,turn⟩:=h2;subst e;refine gz ?_;have V:∀{H':Hp},(∀b∈fp,H' b=Z7)->∀b∈fp,xp X pins H' b:=fun hn b hb=>{hn b hb,(f2 b hb).2};refine codeAny_forLoop_any (fun n s'=>∃i R H',Inv X pins R H' s'/\tn i s'.heap/\(∀b∈fp,H' b=Z7)/\W i n R H') ?_ m0 {0,σ,H2,I2,dg,fun b hb=>(f2 b hb).1,w0};intro n s3 qz;refine Z0 fun Gz gz=>?_;obtain⟨i,Y,H3,I3,dk,z,w3⟩:=qz;refine gz ?_
 rcases turn i n Y H3 w3 with⟨t,qn⟩|⟨go,N,hN,step⟩
 ·refine i5 hp (thn (T.done X rfl rfl rfl hc i pins s3 Y H3 X.xe I3 (V z) dk t) fun r s4 qz=>?_);obtain⟨hr,I4⟩:=qz;subst hr;exact rg ⟨Y,H3,I4,qn⟩
 ·refine i5 hp (thn (T.item X rfl rfl rfl hc i pins s3 Y H3 X.xe I3 (V z) dk go) fun r s4 qz=>?_);obtain⟨u,hr,h4⟩:=qz;subst hr;refine i5 hp (thn h4 fun _ s5 ⟨x,H5,I5,r5,y5,B,de⟩=>i5 hp (thn (hg _ s5 Y H5 x u _ (I5.pinned (V de) (T.obj _ _ B)) r5 (step x H5 y5)) fun _ s6 ⟨di,H6,I6,q6⟩=>i5 hp (thn (hb _ s6 di H6 _ I6 q6) fun f s7 E=>?_)));have again:∀{Z:St} {M:Hp},Inv X (pins++sy fp s5.heap) Z M s7->N Z M->∃m,m<n/\∃i R H',Inv X pins R H' s7/\tn i s7.heap/\(∀b∈fp,H' b=Z7)/\W i m R H':=fun {Z M} U n7=>by
   obtain⟨m',hm,w7⟩:=hN Z M n7;refine{m',hm,i+1,Z,M,U.unpinned,T.keep _ _ _ B fun b hb o e=>(U.pin (b,o) (aV _ (aV _ (om hb e)))).1,fun b hb=>?_,w7};obtain⟨o,e,d⟩:=T.obj _ _ B b hb;exact (U.pin (b,o) (aV _ (aV _ (om hb e)))).2.1
  cases f with
  |next=>obtain⟨Z,M,U,n7⟩:=E;exact again U n7
  |cont=>obtain⟨Z,M,U,n7⟩:=E;exact again U n7
  |brk=>obtain⟨Z,M,U,E⟩:=E;exact⟨Z,M,U.unpinned,E⟩
  |ret v=>obtain⟨x7,Z,M,U,r7,E⟩:=E;exact⟨x7,Z,M,U.unpinned,r7,E⟩
end
theorem fX{K:af}{a:ae}{xs:List V}{g:TG}{tb:TS}{D:kK}{σ:St}{H:Hp}(Z:Nat->St->Hp->Prop)(I:Z 0 σ H)(J:∀i σ H,i<=xs.length->Z i σ H->SqL K H a xs)
  (hs:∀i x σ H,xs[i]?=Z8 x->Z i σ H->g x σ H fun U H2=>tb {D with nx:=Z (i+1),ct:=Z (i+1),bk:=D.nx} U H2) (G:∀σ H,Z xs.length σ H->D.nx σ H) :
  ∃W:Nat->Nat->St->Hp->Prop,(∃m,W 0 m σ H)/\∀i m σ H,W i m σ H ->
   ((Itl K a).stop i H/\D.nx σ H)\/((Itl K a).go i H/\∃N:St->Hp->Prop,(∀Y H',N Y H'->∃O,O<m/\W (i+1) O Y H')/\∀x H',(Itl K a).yld i H x H'->g x σ H' fun U H2=>tb {D with nx:=N,ct:=N,bk:=D.nx} U H2):=by
 refine{fun i m σ H=>m=xs.length-i/\i<=xs.length/\Z i σ H,{xs.length,by simp,bE _,I},?_};rintro i m σ H ⟨rfl,hi,p⟩;have q:=J i σ H hi p
 by_cases R:i<xs.length
 ·refine .inr {{xs,xs[i],q,by simp[R]},Z (i+1),fun Y H' M=>{xs.length-(i+1),by lia,Z9,R,M},fun x H' y=>?_};obtain⟨e,y⟩:=y;subst e;exact hs i x σ _ (y xs q) p
 ·have e:i=xs.length:=by lia
  subst e;exact .inl {{xs,q,aF _},G σ H p}
theorem j0{lo:Int}{n:Nat}{g:TG}{tb:TS}{D:kK}{σ:St}{H:Hp}(Y:Nat->St->Hp->Prop)(M:Y 0 σ H)
  (hs:∀i σ H,i<n->Y i σ H->g (.int (lo+i)) σ H fun U H2=>tb {D with nx:=Y (i+1),ct:=Y (i+1),bk:=D.nx} U H2) (J:∀σ H,Y n σ H->D.nx σ H) :
  ∃W:Nat->Nat->St->Hp->Prop,(∃m,W 0 m σ H)/\∀i m σ H,W i m σ H ->
   ((Itr lo n).stop i H/\D.nx σ H)\/((Itr lo n).go i H/\∃N:St->Hp->Prop,(∀Z H',N Z H'->∃R,R<m/\W (i+1) R Z H')/\∀x H',(Itr lo n).yld i H x H'->g x σ H' fun U H2=>tb {D with nx:=N,ct:=N,bk:=D.nx} U H2):=by
 refine{fun i m σ H=>m=n-i/\i<=n/\Y i σ H,{n,by simp,bE _,M},?_};rintro i m σ H ⟨rfl,hi,p⟩
 by_cases V:i<n
 ·refine .inr {V,Y (i+1),fun Z H' O=>{n-(i+1),by lia,Z9,V,O},fun x H' y=>?_};obtain⟨e,y⟩:=y;subst e y;exact hs i σ _ V p
 ·have e:i=n:=by lia
  subst e;exact .inl {aF _,J σ H p}
theorem yT{c:TT}{tb:TS}{D:kK}{σ:St}{H:Hp}(Y:St->Hp->Prop)(μ:St->Hp->Nat)(U:Y σ H)
  (hs:∀σ H,Y σ H->c σ H fun b H1=>if b=true then tb {D with nx:=fun Z H'=>Y Z H'/\μ Z H'<μ σ H,ct:=fun Z H'=>Y Z H'/\μ Z H'<μ σ H,bk:=D.nx} σ H1 else D.nx σ H1)
  (mono:∀σ H Q W,(∀b H1,Q b H1->W b H1)->c σ H Q->c σ H W):Ey c tb D σ H:=by
 refine{fun m σ H=>m=μ σ H/\Y σ H,{_,Z9,U},?_};rintro m σ H ⟨rfl,p⟩;refine mono σ H _ _ (fun b H1 q=>?_) (hs σ H p)
 cases b with
 |true=>exact{_,fun Z H' ⟨V,l⟩=>{_,l,Z9,V},q}
 |false=>exact q
abbrev R2:=V->V->Hp->VK->Prop
def OpR(X:Cx)(f:aj->aj->Sem aj)(r:R2):Prop:=
 ∀(pins:List (ae×Obj)) (s:aw) (σ:St) (H:Hp) (x y:V) (v u:aj) (Q:VK),Inv X pins σ H s->RelV x v->RelV y u->r x y H Q ->
  bQ (bR X.prog X.w) X.A (f v u) (EP X pins σ Q) X.xe s
def UnR(X:Cx)(f:aj->Sem aj)(r:V->Hp->VK->Prop):Prop:=
 ∀(pins:List (ae×Obj)) (s:aw) (σ:St) (H:Hp) (x:V) (v:aj) (Q:VK),Inv X pins σ H s->RelV x v->r x H Q ->
  bQ (bR X.prog X.w) X.A (f v) (EP X pins σ Q) X.xe s
def lG(X:Cx)(f:aj)(r:List V->Hp->VK->Prop):Prop:=
 ∀(pins:List (ae×Obj)) (s:aw) (σ:St) (H:Hp) (xs:List V) (Z:List aj) (Q:VK),Inv X pins σ H s->dv xs Z->r xs H Q ->
  bQ (bR X.prog X.w) X.A (vD f Z) (EP X pins σ Q) X.xe s
def TruR(X:Cx)(r:V->Hp->(Bool->Hp->Prop)->Prop):Prop:=
 ∀(pins:List (ae×Obj)) (s:aw) (σ:St) (H:Hp) (x:V) (v:aj) (Q:Bool->Hp->Prop),Inv X pins σ H s->RelV x v->r x H Q ->
  bQ (bR X.prog X.w) X.A (truthy v) (TP X pins σ Q) X.xe s
def tOp(r:R2)(ta tb:TE):TE:=fun σ H Q=>ta σ H fun x H1=>tb σ H1 fun y H2=>r x y H2 Q
def tUn(r:V->Hp->VK->Prop)(ta:TE):TE:=fun σ H Q=>ta σ H fun x H1=>r x H1 Q
inductive RI(C:Int->Int->Prop)(g:Int->Int->V)(x y:V)(H:Hp)(Q:VK):Prop where
 |mk(i j:Int)(hx:x=.int i)(hy:y=.int j)(c:C i j)(q:Q (g i j) H):RI C g x y H Q
def rI(C:Int->Int->Prop)(g:Int->Int->V):R2:=fun x y H Q=>RI C g x y H Q
inductive RI0(g:Int->Int->V)(x y:V)(H:Hp)(Q:VK):Prop where
 |mk(i j:Int)(hx:x=.int i)(hy:y=.int j)(q:Q (g i j) H):RI0 g x y H Q
def rI0(g:Int->Int->V):R2:=fun x y H Q=>RI0 g x y H Q
inductive RU(g:Int->V)(x:V)(H:Hp)(Q:VK):Prop where
 |mk(i:Int)(hx:x=.int i)(q:Q (g i) H):RU g x H Q
def rU(g:Int->V):V->Hp->VK->Prop:=fun x H Q=>RU g x H Q
section
variable{X:Cx}{a b c:c8}{ta tb tc:TE}{pos:Pos}
theorem L6(ha:PE X a ta)(hb:PE X b tb){pins:List (ae×Obj)}{s:aw}{σ:St}{H:Hp}{R:V->V->Hp->Prop}(I:Inv X pins σ H s)
  (h:ta σ H fun x H1=>tb σ H1 fun y H2=>R x y H2) {Q:aj->aw->Prop} {f:aj->aj->Sem aj}
  (G:∀v u s2 x y H2,Inv X pins σ H2 s2->RelV x v->RelV y u->R x y H2->bQ (bR X.prog X.w) X.A (f v u) Q X.xe s2) :
  bQ (bR X.prog X.w) X.A (gc a X.env) (fun v Y=>bQ (bR X.prog X.w) X.A (gc b X.env) (fun u Z=>bQ (bR X.prog X.w) X.A (f v u) Q X.xe Z) X.xe Y) X.xe s:=thn (ha pins s σ H _ I h) fun v W ⟨x,H1,D,J,M⟩=>thn (hb pins W σ H1 _ D M) fun u s2 ⟨y,H2,O,E,U⟩=>G v u s2 x y H2 O J E U
theorem cI{op:Im}{r:R2}(V:OpR X (iK op) r)(ha:PE X a ta)(hb:PE X b tb):PE X (.BinOp a op b pos) (tOp r ta tb):=by
 intro pins s σ H Q I h;exact wpAny_BinOp (L6 ha hb I h fun v u s2 x y H2 W Z Y q=>V pins s2 σ H2 x y v u Q W Z Y q)
theorem sX{op:UnaryOp}{r:V->Hp->VK->Prop}(U:UnR X (unaryOp op) r)(ha:PE X a ta):PE X (.UnaryOp op a pos) (tUn r ta):=by
 intro pins s σ H Q I h;exact UnaryOp_ (thn (ha pins s σ H _ I h) fun v Z ⟨x,H1,R,W,Y⟩=>U pins Z σ H1 x v Q R W Y)
theorem opI{f:aj->aj->Sem aj}{C:Int->Int->Prop}{g:Int->Int->Int}
  (Io:∀(i j:Int) (t u:Tok) (s:aw) (Q:aj->aw->Prop) (E:aj->aw->Prop),C i j->Q (.int (g i j) s.toks) {s with toks:=s.toks+1}->bQ (bR X.prog X.w) X.A (f (.int i t) (.int j u)) Q E s) :
  OpR X f (rI C fun i j=>.int (g i j)):=by
 intro pins s σ H x y v u Q I Z Y h;obtain⟨i,j,rfl,rfl,hc,q⟩:=h;obtain⟨t,rfl⟩:=Z;obtain⟨t',rfl⟩:=Y;exact Io i j t t' s _ _ hc {.int (g i j),H,I.tok _,{_,Z9},q}
theorem opI0{f:aj->aj->Sem aj}{g:Int->Int->Int}
  (Io:∀(i j:Int) (t u:Tok) (s:aw) (Q:aj->aw->Prop) (E:aj->aw->Prop),Q (.int (g i j) s.toks) {s with toks:=s.toks+1}->bQ (bR X.prog X.w) X.A (f (.int i t) (.int j u)) Q E s) :
  OpR X f (rI0 fun i j=>.int (g i j)):=by
 intro pins s σ H x y v u Q I Z Y h;obtain⟨i,j,rfl,rfl,q⟩:=h;obtain⟨t,rfl⟩:=Z;obtain⟨t',rfl⟩:=Y;exact Io i j t t' s _ _ {.int (g i j),H,I.tok _,{_,Z9},q}
theorem Iq{f:aj->aj->Sem aj}{g:Int->Int->Bool}
  (Io:∀(i j:Int) (t u:Tok) (s:aw) (Q:aj->aw->Prop) (E:aj->aw->Prop),Q (.bool (g i j)) s->bQ (bR X.prog X.w) X.A (f (.int i t) (.int j u)) Q E s) :
  OpR X f (rI0 fun i j=>.bl (g i j)):=by
 intro pins s σ H x y v u Q I Z Y h;obtain⟨i,j,rfl,rfl,q⟩:=h;obtain⟨t,rfl⟩:=Z;obtain⟨t',rfl⟩:=Y;exact Io i j t t' s _ _ {.bl (g i j),H,I,Z9,q}
def CDiv(i j:Int):Prop:=0<j/\j<1073741824
def Af(i j:Int):Prop:=0<=j/\j<=1000000/\i.natAbs<2^64
def L7(i j:Int):Prop:=(-(2^64)<i/\i<2^64)\/(-(2^64)<j/\j<2^64)
theorem L7.ok{i j:Int}(h:L7 i j):IntMulOk i j:=by
 rcases h with⟨h1,h2⟩|⟨h1,h2⟩
 ·exact .of_left (intBits_le_64 h1 h2)
 ·exact .of_right (intBits_le_64 h1 h2)
theorem gj:OpR X (iK .Add) (rI0 fun i j=>.int (i+j)):=opI0 fun _ _ _ _ _ _ _ q=>add_int q
theorem jm:OpR X (iK .Sub) (rI0 fun i j=>.int (i-j)):=opI0 fun _ _ _ _ _ _ _ q=>sub_int q
theorem lH:OpR X (iK .Mult) (rI L7 fun i j=>.int (i*j)):=opI fun _ _ _ _ _ _ _ hc q=>mul_int q hc.ok
theorem Ir:OpR X (iK .FloorDiv) (rI CDiv fun i j=>.int (i/j)):=opI fun i j _ _ _ _ _ hc q=>by
 have h1:=hc.1;have h2:=hc.2;exact ED (by omega) (by rw[xq i (by omega)];exact q) (.inl (PyProof.noPylong_small (by omega)))
theorem mV:OpR X (iK .Mod) (rI (fun _ j=>0<j) fun i j=>.int (i%j)):=opI fun i j _ _ _ _ _ hc q=>by
 exact mod_int' (by lia) (by rw[Int.fmod_eq_emod_of_nonneg i (by lia)];exact q)
theorem Iu:OpR X (iK .Mod) (rI (fun _ j=>j≠0) fun i j=>.int (i.fmod j)):=opI fun _ _ _ _ _ _ _ hc q=>mod_int' hc q
theorem j1:OpR X (iK .Pow) (rI Af fun i j=>.int (i^j.toNat)):=opI fun _ _ _ _ _ _ _ hc q=>pow_int_small hc.1 hc.2.1 hc.2.2 q
theorem unI{f:aj->Sem aj}{g:Int->Int}
  (Io:∀(i:Int) (t:Tok) (s:aw) (Q:aj->aw->Prop) (E:aj->aw->Prop),Q (.int (g i) s.toks) {s with toks:=s.toks+1}->bQ (bR X.prog X.w) X.A (f (.int i t)) Q E s) :
  UnR X f (rU fun i=>.int (g i)):=by
 intro pins s σ H x v Q I Z h;obtain⟨i,rfl,q⟩:=h;obtain⟨t,rfl⟩:=Z;exact Io i t s _ _ {.int (g i),H,I.tok _,{_,Z9},q}
theorem pk:UnR X (unaryOp .USub) (rU fun i=>.int (-i)):=unI fun _ _ _ _ _ q=>neg_int q
end
def scal:V->V->Bool
 |.non,.non=>true|.non,.int _=>true|.int _,.non=>true|.non,.bl _=>true|.bl _,.non=>true|.non,.str _=>true|.str _,.non=>true
 |.int _,.int _=>true|.bl _,.bl _=>true|.str _,.str _=>true|.byt _,.byt _=>true
 |.int _,.str _=>true|.str _,.int _=>true|.bl _,.str _=>true|.str _,.bl _=>true
 |_,_=>false
def rEq:R2:=fun x y H Q=>scal x y=true/\Q (.bl (decide (x=y))) H
def rNe:R2:=fun x y H Q=>scal x y=true/\Q (.bl (!decide (x=y))) H
theorem Bg{i j:Int}:decide (V.int i=V.int j)=(i==j):=by
 rw[pz];simp
theorem EE{i j:Bool}:decide (V.bl i=V.bl j)=(i==j):=by
 rw[pz];simp
theorem Bh{i j:Str}:decide (V.str i=V.str j)=(i==j):=by
 rw[pz];simp
theorem Bi{i j:Array UInt8}:decide (V.byt i=V.byt j)=(i.toList==j.toList):=by
 rw[pz]
 cases i
 cases j;simp
section
variable{X:Cx}{a b c:c8}{ta tb tc:TE}{pos:Pos}
theorem eY{pins:List (ae×Obj)}{σ:St}{H:Hp}{s:aw}{Q:VK}{k Z:Bool}(I:Inv X pins σ H s)(q:Q (.bl k) H)(e:k=Z):EP X pins σ Q (.bool Z) s:=by
 subst e;exact{.bl k,H,I,Z9,q}
theorem cZ:OpR X (eE .Eq) rEq:=by
 intro pins s σ H x y v u Q I Y Z h;obtain⟨hs,q⟩:=h
 cases x with
 |non=>
  cases Y
  cases y with
  |non=>cases Z;exact PySem.EqNone.eq_none_none (eY I q (by simp))
  |bl j=>cases Z;exact PySem.EqNone.eq_none_bool (eY I q (by simp))
  |int j=>obtain⟨t',rfl⟩:=Z;exact PySem.EqNone.eq_none_int (eY I q (by simp))
  |str j=>obtain⟨t',rfl⟩:=Z;exact PySem.EqNone.eq_none_str (eY I q (by simp))
  |_=>exact absurd (hs) bZ
 |bl i=>
  subst Y
  cases y with
  |non=>cases Z;exact PySem.EqNone.eq_bool_none (eY I q (by simp))
  |bl j=>cases Z;exact eq_bool (eY I q EE)
  |str j=>obtain⟨t',rfl⟩:=Z;exact PySem.EqMixed.eq_bool_str (eY I q (by simp))
  |_=>exact absurd (show false=true from hs) bZ
 |int i=>
  obtain⟨t,rfl⟩:=Y
  cases y with
  |non=>cases Z;exact PySem.EqNone.eq_int_none (eY I q (by simp))
  |int j=>obtain⟨t',rfl⟩:=Z;exact eq_int (eY I q Bg)
  |str j=>obtain⟨t',rfl⟩:=Z;exact PySem.EqMixed.eq_int_str (eY I q (by simp))
  |_=>exact absurd (show false=true from hs) bZ
 |str i=>
  obtain⟨t,rfl⟩:=Y
  cases y with
  |non=>cases Z;exact PySem.EqNone.eq_str_none (eY I q (by simp))
  |bl j=>cases Z;exact PySem.EqMixed.eq_str_bool (eY I q (by simp))
  |int j=>obtain⟨t',rfl⟩:=Z;exact PySem.EqMixed.eq_str_int (eY I q (by simp))
  |str j=>obtain⟨t',rfl⟩:=Z;exact eq_str (eY I q Bh)
  |_=>exact absurd (show false=true from hs) bZ
 |byt i=>
  obtain⟨t,rfl⟩:=Y
  cases y with
  |byt j=>obtain⟨t',rfl⟩:=Z;exact PySem.W.eq_bytes (eY I q Bi)
  |_=>exact absurd (show false=true from hs) bZ
 |_=>cases y<;>exact absurd (show false=true from hs) bZ
theorem Bj:OpR X (eE .NotEq) rNe:=by
 intro pins s σ H x y v u Q I Y Z h;obtain⟨hs,q⟩:=h
 cases x with
 |non=>
  cases Y
  cases y with
  |non=>cases Z;exact PySem.EqNone.ne_none_none (eY I q (by simp))
  |bl j=>cases Z;exact PySem.EqNone.ne_none_bool (eY I q (by simp))
  |int j=>obtain⟨t',rfl⟩:=Z;exact PySem.EqNone.ne_none_int (eY I q (by simp))
  |str j=>obtain⟨t',rfl⟩:=Z;exact PySem.EqNone.ne_none_str (eY I q (by simp))
  |_=>exact absurd (hs) bZ
 |bl i=>
  subst Y
  cases y with
  |non=>cases Z;exact PySem.EqNone.ne_bool_none (eY I q (by simp))
  |bl j=>cases Z;exact ne_bool (eY I q (congrArg not EE))
  |str j=>obtain⟨t',rfl⟩:=Z;exact PySem.EqMixed.ne_bool_str (eY I q (by simp))
  |_=>exact absurd (show false=true from hs) bZ
 |int i=>
  obtain⟨t,rfl⟩:=Y
  cases y with
  |non=>cases Z;exact PySem.EqNone.ne_int_none (eY I q (by simp))
  |int j=>obtain⟨t',rfl⟩:=Z;exact ne_int (eY I q (congrArg not Bg))
  |str j=>obtain⟨t',rfl⟩:=Z;exact PySem.EqMixed.ne_int_str (eY I q (by simp))
  |_=>exact absurd (show false=true from hs) bZ
 |str i=>
  obtain⟨t,rfl⟩:=Y
  cases y with
  |non=>cases Z;exact PySem.EqNone.ne_str_none (eY I q (by simp))
  |bl j=>cases Z;exact PySem.EqMixed.ne_str_bool (eY I q (by simp))
  |int j=>obtain⟨t',rfl⟩:=Z;exact PySem.EqMixed.ne_str_int (eY I q (by simp))
  |str j=>obtain⟨t',rfl⟩:=Z;exact ne_str (eY I q (congrArg not Bh))
  |_=>exact absurd (show false=true from hs) bZ
 |byt i=>
  obtain⟨t,rfl⟩:=Y
  cases y with
  |byt j=>obtain⟨t',rfl⟩:=Z;exact PySem.W.ne_bytes (eY I q (congrArg not Bi))
  |_=>exact absurd (show false=true from hs) bZ
 |_=>cases y<;>exact absurd (show false=true from hs) bZ
theorem oQ:OpR X (eE .Lt) (rI0 fun i j=>.bl (decide (i<j))):=Iq fun _ _ _ _ _ _ _ q=>lt_int q
theorem op_le:OpR X (eE .LtE) (rI0 fun i j=>.bl (decide (i<=j))):=Iq fun _ _ _ _ _ _ _ q=>le_int q
theorem lI:OpR X (eE .Gt) (rI0 fun i j=>.bl (decide (j<i))):=Iq fun _ _ _ _ _ _ _ q=>gt_int q
theorem op_ge:OpR X (eE .GtE) (rI0 fun i j=>.bl (decide (j<=i))):=Iq fun _ _ _ _ _ _ _ q=>ge_int q
theorem EF(b:c8){op:Ik}(h:op≠.In:=by decide)(h2:op≠.NotIn:=by decide):jT op b=false:=by
 have Y:(op==CmpOp.In)=false:=by simp_all
 have Z:(op==CmpOp.NotIn)=false:=by simp_all
 cases b<;>simp[jT,Y,Z]
theorem mC{op:Ik}{r:R2}(U:OpR X (eE op) r)(ha:PE X a ta)(hb:PE X b tb)(W:jT op b=false:=by first|exact EF _|rfl):PE X (.Compare a [op] [b] pos) (tOp r ta tb):=by
 intro pins s σ H Q I h;exact wpAny_Compare1 (L6 ha hb I h fun v u s2 x y H2 Y V Z q=>U pins s2 σ H2 x y v u Q Y V Z q) W
def uC(t:TE):TT:=fun σ H Q=>t σ H fun x H'=>BlI x H' Q
theorem aZ{op:Ik}{r:R2}(G:OpR X (eE op) r)(ha:PE X a ta)(hb:PE X b tb)(R:jT op b=false:=by first|exact EF _|rfl):PT X (.Compare a [op] [b] pos) (uC (tOp r ta tb)):=by
 intro pins s σ H Q I h;refine HZ (thn (ha pins s σ H _ I h) fun v Z ⟨x,H1,D,M,U⟩=>thn (hb pins Z σ H1 _ D U) fun u s2 ⟨y,H2,V,J,Y⟩=>
  thn (G pins s2 σ H2 x y v u _ V M J Y) fun c t ⟨z,W,E,O,k,e,B⟩=>?_) R
 subst e;subst O;exact gG ⟨W,E,B⟩
def TruV(K:af)(x:V)(H:Hp)(k:Bool):Prop:=
 match x with
 |.non=>k=false
 |.bl b=>k=b
 |.int i=>k=(i != 0)
 |.str y=>y.length<=aG/\k=((y.length:Int) != 0)
 |.byt y=>y.size<=aG/\k=((y.size:Int) != 0)
 |.ref p=>(∃xs,SqL K H p xs/\k=!xs.isEmpty)\/(∃xs,SqT K H p xs/\k=!xs.isEmpty)\/∃kvs,H p=Z8 (.dK kvs)/\k=!kvs.isEmpty
 |_=>False
theorem Ag{κ:Type}{kvs:List (κ×V)}{vs:List (κ×aj)}(r:KV kvs vs):(!vs.isEmpty)=!kvs.isEmpty:=by
 cases r<;>rfl
theorem uD{xs:List V}{Z:List aj}(r:dv xs Z):(!Z.toArray.isEmpty)=!xs.isEmpty:=by
 cases r<;>simp
theorem uE:(aG:Nat)<2^63:=by rw[yF];decide
theorem L8:TruR X (fun x H Q=>∃k,TruV X.K x H k/\Q k H):=by
 intro pins s σ H x v Q I V h;obtain⟨k,e,q⟩:=h;have hs:=yF
 cases x with
 |non=>
  subst V;subst (e);exact truthy_none ⟨H,I,q⟩
 |bl b=>
  subst V;subst (e);exact gG ⟨H,I,q⟩
 |int i=>
  obtain⟨t,rfl⟩:=V;subst (e);exact PySem.P.truthy_int ⟨H,I,q⟩
 |str y=>
  obtain⟨t,rfl⟩:=V;obtain⟨hy,Z⟩:y.length<=aG/\k=((y.length:Int) != 0):=e;subst Z;exact PySem.P.truthy_str (by lia) {H,I.tok _,q}
 |byt y=>
  obtain⟨t,rfl⟩:=V;obtain⟨hy,Z⟩:y.size<=aG/\k=((y.size:Int) != 0):=e;subst Z;exact PySem.W.truthy_bytes (by lia) {H,I.tok _,q}
 |ref p=>
  subst V;have Z:=e
  rcases Z with⟨xs,hx,Z⟩|⟨xs,hx,Z⟩|⟨kvs,hx,Z⟩
  ·subst Z;obtain⟨U,r,pl,hz⟩:=I.list hx;have Y:=r.length;exact wpAny_truthy_list pl.isList (by simp only[aJ];lia) {H,I.tok _,by rw[uD r];exact q}
  ·subst Z;obtain⟨U,r,pl,hz⟩:=I.tuple hx;have Y:=r.length;exact truthy_tuple pl (by simp only[aJ];lia) {H,I.tok _,by rw[uD r];exact q}
  ·subst Z;obtain⟨hz,R,vs,r,m⟩:kvs.length<=aG/\(p==dZ)=false/\∃vs,KV kvs vs/\s.heap.DictOf (fV X.prog X.w) p vs:=I.hok p _ hx;have Y:=aM r;exact wpAny_truthy_dict R m (by lia) {H,I.tok _,by rw[Ag r];exact q}
 |_=>exact (show False from e).elim
theorem uF(ha:PE X a ta)(V:∀Z,Ep a X.env Z=(do let v <- Z;vB a.pos;o7 [v] (truthy v))) :
  PT X a (fun σ H Q=>ta σ H fun x H'=>∃k,TruV X.K x H' k/\Q k H'):=by
 intro pins s σ H Q I h;exact isTrue_plain (thn (ha pins s σ H _ I h) fun v Y ⟨x,H1,R,U,W⟩=>L8 pins Y σ H1 x v Q R U W) (V _)
theorem Ah:OpR X (iK .Add) (fun x y H Q=>∃i j,x=.str i/\y=.str j/\i.length+j.length<=aG/\Q (.str (i++j)) H):=by
 intro pins s σ H x y v u Q I Z Y h;obtain⟨i,j,rfl,rfl,hz,q⟩:=h;obtain⟨t,rfl⟩:=Z;obtain⟨t',rfl⟩:=Y;exact add_str (fun t' tk=>{.str (i++j),H,I.tok _,{_,Z9},q}) hz
theorem vals1{x:V}{Z:List aj}(r:dv [x] Z):∃u,Z=[u]/\RelV x u:=by
 cases r with
 |cons Y W=>cases W;exact{_,Z9,Y}
theorem vals2{x y:V}{Z:List aj}(r:dv [x,y] Z):∃u Y,Z=[u,Y]/\RelV x u/\RelV y Y:=by
 cases r with
 |cons R O=>
  cases O with
  |cons U W=>cases W;exact{_,_,Z9,R,U}
theorem EG:lG X (.builtin "abs") (fun xs H Q=>∃i,xs=[.int i]/\Q (.int (if i<0 then -i else i)) H):=by
 intro pins s σ H xs Z Q I r h;obtain⟨i,rfl,q⟩:=h;obtain⟨u,rfl,t,rfl⟩:=vals1 r;exact call_abs_int fun u tk=>{.int (if i<0 then -i else i),H,I.tok _,{_,Z9},q}
theorem Cz(hc:X.calm=true):lG X (.builtin "max") (fun xs H Q=>∃i j,xs=[.int i,.int j]/\Q (.int (if j>i then j else i)) H):=by
 intro pins s σ H xs W Q I r h;obtain⟨i,j,rfl,q⟩:=h;obtain⟨u,Y,rfl,⟨t,rfl⟩,⟨t',rfl⟩⟩:=vals2 r;refine max_two_ints (I.ok.hd hc) fun h' tk k=>{_,H,I.kept k,?_,q}
 by_cases Z:j>i
 ·rw[if_pos Z,if_pos Z];exact{_,Z9}
 ·rw[if_neg Z,if_neg Z];exact{_,Z9}
theorem m8:lG X (.type "int") (fun xs H Q=>(∃i,xs=[.int i]/\Q (.int i) H)\/∃k,xs=[.bl k]/\Q (.int (if k then 1 else 0)) H):=by
 intro pins s σ H xs Y Q I r h
 rcases h with⟨i,rfl,q⟩|⟨k,rfl,q⟩
 ·obtain⟨u,rfl,t,rfl⟩:=vals1 r;exact call_int_int {.int i,H,I,{_,Z9},q}
 ·obtain⟨u,rfl,Z⟩:=vals1 r;subst Z;exact call_int_bool {.int (if k then 1 else 0),H,I.tok _,{_,Z9},q}
end
structure Ai(h:cG)(x dx C:ae)(mA:Str->Option aj):Prop where
 obj:h.get? x=Z8 (gU C dx)
 ns:h.Ns1 dx mA
 ne:dx≠x
theorem CA{h:cG}{dx:ae}{mA:Str->Option aj}(n:h.Ns1 dx mA):∃od,h.get? dx=Z8 od/\∀name,pA name od=Z8 (mA name):=by
 obtain⟨o,es,U,W,V,hk,_,Y⟩:=n;refine{o,W,fun name=>?_};have e:=Y name;unfold nsFind findBy at e;rw[<- Array.find?_toList]at e;unfold pA;rw[V];dsimp only
 split
 ·simp_all
 ·rename_i q
  rw[q]at e;have a:es.toList.any (·.refKey)=false:=by
   rw[List.any_eq_false];intro y hy;obtain⟨z,t,Z⟩:=hk y (Array.mem_toList_iff.mp hy);simp[DictEntry.refKey,Z]
  rw[if_neg (a ▸ bZ)];exact congrArg Z8 e
theorem Ai.look{h:cG}{x dx C:ae}{mA:Str->Option aj}(I:Ai h x dx C mA):∃od,uG h x (gU C dx) C (Z8 od)/\∀name,pA name od=Z8 (mA name):=
 let ⟨od,Y,Z⟩:=CA I.ns
 {od,⟨I.obj,Z9,Z9,Y⟩,Z}
section
variable{prog:aQ}{w:bU}{A:b8}{E:aj->aw->Prop}{s:aw}{K:af}{x dx C f:ae}{mA:Str->Option aj}{name:Str}{v:aj}
theorem Iv{Z:Bool}{Q:aj->aw->Prop}(X:K.In s.heap)(I:Ai s.heap x dx C mA)(U:nc K C name=true)(V:rq K C=true)
  (ha:bH K (.ref C) name=Z8 Z7) (O:mA name=Z8 v) (Y:CH v=true) (h:Q v {s with toks:=s.toks+1}) :
  bQ (bR prog w) A (getAttr (.ref x) name Z) Q E s:=by
 obtain⟨od,J,R⟩:=I.look;exact PySem.W.get_value X J (qC U).1 (PySem.W.findObj_own V ha rfl (by rw[R,O])) Y h
theorem EH{pl:Sem Bool}{Q:aj×List aj->aw->Prop}(X:K.In s.heap)(I:Ai s.heap x dx C mA)(Z:nc K C name=true)
  (V:bH K (.ref C) name=Z8 (Z8 (.ref f))) (U:oo K (.ref f)=true) (R:mA name=Z7) (h:Q (.ref f,[.ref x]) s) :
  bQ (bR prog w) A (qD (.ref x) name pl) Q E s:=by
 obtain⟨od,J,Y⟩:=I.look;exact PySem.W.method_fn X J (qC Z).1 (qC Z).2 V (beq_iff_eq.mp U) (by show (pA name od).map (·.isSome)=Z8 false;rw[Y,R];rfl) h
theorem Iw{ns:List Str}{Q:Unit->aw->Prop}(X:K.In s.heap)(I:Ai s.heap x dx C mA)
  (hs:bH K (.ref C) "__setattr__"=Z8 (Z8 (.builtin "object.__setattr__"))) (hp:Bk K C=true) (B:tL K C name=Z8 Z7) (M:rq K C=true)
  (hw:yR mA ns) (hsz:ns.length<=aG)
  (h:∀h',Ai h' x dx C (fun y=>if y=name then Z8 v else mA y)->sW dx s.heap h'->Q () {s with heap:=h',toks:=s.toks+2}) :
  bQ (bR prog w) A (setAttr (.ref x) name v) Q E s:=by
 obtain⟨od,J,f⟩:=I.look;refine PySem.W.set_plain X J hs (PySem.W.osa_open X J hp B fun b=>?_);obtain⟨cd,hc,R⟩:=PySem.W.any_some M;refine au (bK (au (au (wpAny_loadPart (I.obj) (au (PySem.W.Looks.here (PySem.W.looks_clsIn X hc) ?_))))));rw[R];refine bK (au (bK (au (wpAny_nsSet1 I.ns fun h' Y Z=>Z0 fun t G=>?_))));obtain⟨g,D,z,V,U,O⟩:=Y.count (PySem.Within.cons name v hw);exact G (au (wpAny_lookBehind V (U ▸ pastItsLine_dict (cR O (by rw[cw];omega))) (bK (h _ {(Z.2 _ (dB I.ne)).trans I.obj,Y,I.ne} Z))))
theorem EI{R:EJ->aw->Prop}{vs:List aj}{Z:List (Str×aj)}(X:K.In s.heap)(V:tM K C=true)
  (hi:bH K (.ref C) "__init__"=Z8 (Z8 (.ref f))) (Y:EK K (.ref f)=Z8 (.type "function"))
  (h:mi (bR prog w) (A.under (.builtin "type.__call__" {.ref C::vs,Z})) (.call (.ref f) {.ref (s.heap.objs.size+1)::vs,Z}) (PySem.W.InitBack (s.heap.objs.size+1) R)
   {s with heap:=(s.heap.push gf).push (gU C s.heap.objs.size)}) :
  mi (bR prog w) A (.call (.ref C) ⟨vs,Z⟩) R s:=PySem.W.make_core (PySem.W.makes_of X V) (kn X hi) (fun self=>PySem.W.bind_fn X self Y) (.inl rfl) h
end
def dS(f:Str)(v:V):List (Str×V)->List (Str×V)
 | []=>[(f,v)]
 |(g,x)::r=>if g=f then (g,v)::r else (g,x)::dS f v r
theorem pB(f g:Str)(v:V):∀fs:List (Str×V),(dS f v fs).lookup g=if g=f then Z8 v else fs.lookup g
 | []=>by
  show qH g [(f,v)]=_
  by_cases h:g=f
  ·have hb:(g==f)=true:=beq_iff_eq.mpr h;simp only[qH,hb,if_pos h]
  ·have hb:=beq_eq_false_iff_ne.mpr h;simp only[qH,hb,if_neg h]
 |(k,x)::r=>by
  rw[show dS f v ((k,x)::r)=(if k=f then (k,v)::r else (k,x)::dS f v r) from rfl]
  by_cases hk:k=f
  ·rw[if_pos hk]
   by_cases h:g=k
   ·simp_all
   ·have hb:=beq_eq_false_iff_ne.mpr h;simp only[qH,hb,if_neg (fun e:g=f=>h (e.trans hk.symm))]
  ·rw[if_neg hk]
   by_cases h:g=k
   ·simp_all
   ·have hb:=beq_eq_false_iff_ne.mpr h;simp only[qH,hb];exact (pB f g v r)
theorem sC(f:Str)(v:V):∀fs:List (Str×V),f∈(dS f v fs).map (·.1)/\∀g,g∈fs.map (·.1)->g∈(dS f v fs).map (·.1)
 | []=>{by simp[dS],fun g h=>by simp at h}
 |(k,x)::r=>by
  obtain⟨Z,Y⟩:=sC f v r;rw[show dS f v ((k,x)::r)=(if k=f then (k,v)::r else (k,x)::dS f v r) from rfl]
  by_cases hk:k=f
  ·grind
  ·grind
theorem sY(f:Str)(v:V):∀fs:List (Str×V),(dS f v fs).length<=fs.length+1
 | []=>by simp[dS]
 |(k,x)::r=>by
  have Z:=sY f v r;rw[show dS f v ((k,x)::r)=(if k=f then (k,v)::r else (k,x)::dS f v r) from rfl]
  by_cases hk:k=f
  ·simp_all
  ·simp_all
theorem qA.some_of{v:V}{o:Option aj}(r:qA (Z8 v) o):∃u,o=Z8 u/\RelV v u:=by
 cases o with
 |none=>exact (r).elim
 |some u=>exact⟨u,Z9,r⟩
theorem qA.none_of{o:Option aj}(r:qA Z7 o):o=Z7:=by
 cases o with
 |none=>rfl
 |some u=>exact (r).elim
theorem CI{v:V}{u:aj}(r:RelV v u):CH u=true:=by
 cases v with
 |non=>cases (r);rfl
 |bl b=>cases (r);rfl
 |int i=>obtain⟨t,e⟩:=(r);cases e;rfl
 |str x=>obtain⟨t,e⟩:=(r);cases e;rfl
 |byt b=>obtain⟨t,e⟩:=(r);cases e;rfl
 |flt b=>obtain⟨t,e⟩:=(r);cases e;rfl
 |ref a=>cases (r);rfl
 |ty n=>cases (r);rfl
section
variable{P:aQ}{w:bU}{H H':Hp}{h h':cG}{a C dx:ae}{fs fs':List (Str×V)}
theorem tW(Z:HOk P w H h)(e:H a=Z8 (.ins C dx fs)):∃mA,Ai h a dx C mA/\(∀f,qA (fs.lookup f) (mA f))/\yR mA (fs.map (·.1))/\fs.length<=1000/\H dx=Z8 (.own a):=by
 refine Z0 fun V W=>?_;obtain⟨d,z,ne,Y,mA,n,r,q⟩:=(Z a _ e);exact W ({mA,⟨Y,n,ne⟩,r,q,z,d})
end
structure Cls(K:af)(C:ae):Prop where
 pg:nc K C Str.empty=true
 hd:rq K C=true
 po:Bk K C=true
 sa:bH K (.ref C) "__setattr__"=Z8 (Z8 (.builtin "object.__setattr__"))
theorem Cls.get{K:af}{C:ae}(c:Cls K C)(f:Str):nc K C f=true:=c.pg
def ff(K:af)(C:ae)(f:Str):Prop:=bH K (.ref C) f=Z8 Z7
theorem ff.taker{K:af}{C:ae}{f:Str}(n:ff K C f):tL K C f=Z8 Z7:=by
 unfold tL;rw[show bH K (.ref C) f=Z8 Z7 from n];rfl
structure xr(K:af)(C:ae)(m:Str)(f:ae):Prop where
 at_:bH K (.ref C) m=Z8 (Z8 (.ref f))
 fn:oo K (.ref f)=true
 kp:gH K (.ref f)=true
section
variable{X:Cx}{pins:List (ae×Obj)}{σ:St}{H:Hp}{s:aw}{a C dx:ae}{fs:List (Str×V)}{f:Str}{v:V}{A:b8}{E:aj->aw->Prop}
theorem uH{b:Bool}{Q:aj->aw->Prop}(I:Inv X pins σ H s)(e:H a=Z8 (.ins C dx fs))(c:Cls X.K C)(n:ff X.K C f)(l:fs.lookup f=Z8 v)
  (h:∀u s',Inv X pins σ H s'->RelV v u->Q u s'):bQ (bR X.prog X.w) A (getAttr (.ref a) f b) Q E s:=by
 obtain⟨mA,O,r,_,_,_⟩:=tW I.hok e;obtain⟨u,hu,Z⟩:=qA.some_of (l ▸ r f);exact Iv I.kIn O (c.get f) c.hd n hu (CI Z) (h u _ (I.tok _) Z)
theorem qQ{m:Str}{g:ae}{pl:Sem Bool}{Q:aj×List aj->aw->Prop}(I:Inv X pins σ H s)(e:H a=Z8 (.ins C dx fs))(c:Cls X.K C)(k:xr X.K C m g)(l:fs.lookup m=Z7)
  (h:Q (.ref g,[.ref a]) s):bQ (bR X.prog X.w) A (qD (.ref a) m pl) Q E s:=by
 obtain⟨mA,O,r,_,_,_⟩:=tW I.hok e;exact EH I.kIn O (c.get m) k.at_ k.fn (qA.none_of (l ▸ r m)) h
theorem uI{y:V}{u:aj}{Q:Unit->aw->Prop}(I:Inv X pins σ H s)(e:H a=Z8 (.ins C dx fs))(c:Cls X.K C)(n:ff X.K C f)(G:fs.length<1000)(U:RelV y u)
  (h:∀s',Inv X pins σ (upd H a (.ins C dx (dS f y fs))) s'->Q () s'):bQ (bR X.prog X.w) A (setAttr (.ref a) f u) Q E s:=by
 obtain⟨mA,O,r,W,_,Y⟩:=tW I.hok e;refine Iw I.kIn O c.sa c.po n.taker c.hd W (by rw[ai,yF];lia) fun h' Z J=>h _ (I.write (e ▸ True.intro) (.inr Y) (fun b q hb z=>(J.2 b hb).trans z) (let ⟨o,_,_,M,_⟩:=Z.ns;⟨o,M⟩) ({by rw[aW O.ne];exact Y,?_,O.ne,Z.obj,_,Z.ns,fun g=>?_,fun g R=>?_}))
 ·have:=sY f y fs;lia
 ·show qA ((dS f y fs).lookup g) (if g=f then Z8 u else mA g);rw[pB]
  by_cases q:g=f
  ·rw[if_pos q,if_pos q];exact U
  ·simp_all
 ·by_cases q:g=f
  ·rw[q];exact (sC f y fs).1
  ·refine (sC f y fs).2 g (W g fun z=>R ?_);show (if g=f then Z8 u else mA g)=Z7;rw[if_neg q];exact z
theorem Inv.made(I:Inv X pins σ H s):Inv X pins σ (upd (upd H s.heap.objs.size (.own (s.heap.objs.size+1))) (s.heap.objs.size+1) (.ins C s.heap.objs.size []))
  {s with heap:=(s.heap.push gf).push (gU C s.heap.objs.size)}:=by
 have Z:(s.heap.push gf).get? s.heap.objs.size=Z8 gf:=cA s.heap rfl;have Y:((s.heap.push gf).push (gU C s.heap.objs.size)).get? (s.heap.objs.size+1)=Z8 (gU C s.heap.objs.size):=by
  have:=cA (s.heap.push gf) (o:=gU C s.heap.objs.size) rfl
  rwa[mE]at this
 refine (I.laid (o:=.own (s.heap.objs.size+1)) (h':=s.heap.push gf) (t':=s.toks) (fun b u q=>aK _ q) (aF _) {_,Z}).laid (t':=s.toks) (fun b u q=>aK _ q) (Nat.le_of_eq (mE _ _)) ?_;have ne:s.heap.objs.size≠s.heap.objs.size+1:=aR (jv _);refine{by rw[aW ne,ak],bE _,ne,Y,fun _=>Z7,(Heap.Ns1.of_empty ({gf,#[],_,Z,Z9,(fun e W=>absurd W (by simp)),fun _=>rfl})).at fun o q=>aK _ q,fun _=>True.intro,fun y hy=>absurd rfl hy}
theorem Iy{prog:aQ}{w:bU}{env:Env}{e:c8}{f:Str}{pos:Pos}{s:aw}{Q:aj->aw->Prop}(hb:mj e f env (gc e env)=gc e env)
  (h:bQ (bR prog w) A (gc e env) (fun o Z=>bQ (bR prog w) A (getAttr o f true) Q E Z) E s):bQ (bR prog w) A (gc (.Attribute e f pos) env) Q E s:=
 Attribute_any_ h (by rw[arm_eval_Attribute,hb])
end
inductive FldI(K:af)(f:Str)(x:V)(H:Hp)(Q:VK):Prop where
 |mk(a C dx:ae)(fs:List (Str×V))(v:V)(hx:x=.ref a)(h:H a=Z8 (.ins C dx fs))(c:Cls K C)(n:ff K C f)(e:fs.lookup f=Z8 v)(q:Q v H):FldI K f x H Q
def L9(K:af)(ta:TE)(f:Str):TE:=fun σ H Q=>ta σ H fun x H1=>FldI K f x H1 Q
inductive Ku(K:af)(f:Str)(x y:V)(H:Hp)(R:Hp->Prop):Prop where
 |mk(a C dx:ae)(fs:List (Str×V))(hx:x=.ref a)(h:H a=Z8 (.ins C dx fs))(c:Cls K C)(n:ff K C f)(l:fs.length<1000)(q:R (upd H a (.ins C dx (dS f y fs)))):Ku K f x y H R
def sFld(K:af)(ta tv:TE)(f:Str):TS:=fun D σ H=>tv σ H fun y H1=>ta σ H1 fun x H2=>Ku K f x y H2 (D.nx σ)
def InOp(X:Cx)(op:Im)(Z:V->V->Hp->VK->Prop):Prop:=
 ∀(pins:List (ae×Obj)) (s:aw) (σ:St) (H:Hp) (x y:V) (u v:aj) (Q:VK),Inv X pins σ H s->RelV x u->RelV y v->Z x y H Q->bQ (bR X.prog X.w) X.A (inplaceOp op u v) (EP X pins σ Q) X.xe s
inductive Kv(K:af)(f:Str)(x:V)(H:Hp)(R:ae->ae->V->Prop):Prop where
 |mk(a C dx:ae)(fs:List (Str×V))(v:V)(hx:x=.ref a)(h:H a=Z8 (.ins C dx fs))(c:Cls K C)(n:ff K C f)(l:fs.lookup f=Z8 v)(q:R a C v):Kv K f x H R
inductive Kw(f:Str)(a C:ae)(z:V)(H:Hp)(R:Hp->Prop):Prop where
 |mk(dx:ae)(fs:List (Str×V))(h:H a=Z8 (.ins C dx fs))(l:fs.length<1000)(q:R (upd H a (.ins C dx (dS f z fs)))):Kw f a C z H R
def Iz(K:af)(ta tv:TE)(Z:V->V->Hp->VK->Prop)(f:Str):TS:=fun D σ H=>ta σ H fun x H1=>Kv K f x H1 fun a C v=>tv σ H1 fun y H2=>Z v y H2 fun z Y=>Kw f a C z Y (D.nx σ)
section
variable{X:Cx}{o e value:c8}{f:Str}{pos pos' tpos:Pos}{ta tv:TE}
theorem cK(V:PE X e ta)(hb:mj e f X.env (gc e X.env)=gc e X.env):PE X (.Attribute e f pos) (L9 X.K ta f):=by
 intro pins s σ H Q I h;refine Iy hb (thn (V pins s σ H _ I h) fun u M Y=>?_);obtain⟨x,H1,O,R,a,C,dx,fs,v,ex,U,c,n,l,q⟩:=Y;subst ex;obtain rfl:u=Value.ref a:=R;exact uH O U c n l fun J s2 Z W=>⟨v,H1,Z,W,q⟩
theorem gm(ha:PE X o ta)(G:PE X value tv)(hs:qB value (Z8 (.Attribute o f pos')) pos.line X.env=pure false):PS X (.Assign [.Attribute o f pos'] value pos) (sFld X.K ta tv f):=by
 intro pins s σ H D I h;refine plainObj_wpAny_Assign_Attribute (thn (G pins s σ H _ I h) fun u Z ⟨y,H1,J,W,q⟩=>thn (ha pins Z σ H1 _ J q) fun U s2 ⟨x,H2,V,R,a,C,dx,fs,ex,O,c,n,l,Y⟩=>?_) hs;subst ex;obtain rfl:U=Value.ref a:=R;exact uI V O c n l W fun E M=>{σ,_,M,Y}
theorem vZ{op:Im}{W:V->V->Hp->VK->Prop}(ha:PE X o ta)(B:PE X value tv)(Y:InOp X op W):PS X (.AugAssign (.Attribute o f tpos) op value pos) (Iz X.K ta tv W f):=by
 intro pins s σ H D I h;refine wpAny_AugAssign_AttributeAny (thn (ha pins s σ H _ I h) fun ov s1 t=>?_);obtain⟨x,H1,E,g,a,C,dx,fs,v,ex,ea,c,n,l,q⟩:=t;subst ex;obtain rfl:ov=Value.ref a:=g;exact uH E ea c n l fun u s2 I2 M=>thn (B pins s2 σ H1 _ I2 q) fun w3 J ⟨y,H2,I3,R,q3⟩=>thn (Y pins J σ H2 v y u w3 _ I3 M R q3) fun w4 s4 ⟨z,H3,O,rz,bw,fs',Z,l',G⟩=>uI O Z c n l' rz fun s5 U=>{σ,_,U,G}
def rAdd:V->V->Hp->VK->Prop:=fun x y H Q=>∃i j,x=.int i/\y=.int j/\Q (.int (i+j)) H
theorem EL:InOp X .Add rAdd:=by
 rintro pins s σ H x y u v Q I Z Y ⟨i,j,rfl,rfl,q⟩;obtain⟨t,rfl⟩:=(Z);obtain⟨t',rfl⟩:=(Y);exact PyProof.Rows.iadd_int {.int (i+j),H,I.tok _,{_,Z9},q}
theorem methcall_of{pl:Sem Bool}{m:Str}{apos:Pos}{args:List c8}{pins:List (ae×Obj)}{s:aw}{σ:St}{H:Hp}{Q:aj->aw->Prop}{te:TE}(V:PE X e te)(I:Inv X pins σ H s)
  (h:te σ H fun x H1=>∃a C dx fs g,x=.ref a/\H1 a=Z8 (.ins C dx fs)/\Cls X.K C/\xr X.K C m g/\fs.lookup m=Z7 /\
   ∀Z,Inv X pins σ H1 Z->bQ (bR X.prog X.w) X.A (Aj pos (.ref g) [.ref a] (jk pos (cO args X.env)) (oq pos (jC [] X.env))) Q X.xe Z)
  (O:gc (.Call (.Attribute e m apos) args [] pos) X.env=(do
   let Y <- gc e X.env
   vB apos.atName
   let (f,first) <- o7 [Y] (qD Y m pl)
   Aj pos f first (jk pos (cO args X.env)) (oq pos (jC [] X.env)))) :
  bQ (bR X.prog X.w) X.A (gc (.Call (.Attribute e m apos) args [] pos) X.env) Q X.xe s:=by
 refine jV (thn (V pins s σ H _ I h) fun u Z ⟨x,H1,W,R,a,C,dx,fs,g,ex,U,c,k,l,q⟩=>?_) O;subst ex;obtain rfl:u=Value.ref a:=R;exact qQ W U c k l (q Z W)
end
section
variable{X:Cx}{pins:List (ae×Obj)}{σ:St}{H:Hp}{s:aw}{A:b8}{E:aj->aw->Prop}{Q:aj->aw->Prop}{c:aj}{b:Bool}
inductive rA(K:af)(H:Hp):V->aj->Prop where
 |non:rA K H .non (.type "NoneType")
 |bl(x:Bool):rA K H (.bl x) (.type "bool")
 |int(i:Int):rA K H (.int i) (.type "int")
 |str(x:Str):rA K H (.str x) (.type "str")
 |flt(x:UInt64):rA K H (.flt x) (.type "float")
 |lst{a:ae}{xs:List V}(e:H a=Z8 (.lst xs)):rA K H (.ref a) (.type "list")
 |frz{a:ae}{o:Obj}{xs:List V}(e:H a=Z8 (.frz o (.lst xs))):rA K H (.ref a) (.type "list")
 |tup{a:ae}{xs:List V}(e:H a=Z8 (.tup xs)):rA K H (.ref a) (.type "tuple")
 |dK{a:ae}{kvs:List (Key×V)}(e:H a=Z8 (.dK kvs)):rA K H (.ref a) (.type "dict")
 |dT{a:ae}{kvs:List (List Key×V)}(e:H a=Z8 (.dT kvs)):rA K H (.ref a) (.type "dict")
 |ins{a C dx:ae}{fs:List (Str×V)}(e:H a=Z8 (.ins C dx fs))(cl:Cls K C)(ha:bH K (.ref C) "__class__"=Z8 (Z8 (.builtin "object.__class__")))
   (hn:mH K (.builtin "object.__class__") "__get__"=Z8 (Z8 (.builtin "getset_descriptor.__get__"))) (htk:oR K (.builtin "object.__class__")=Z8 true)
   (hm:kf K C (.type "object")=Z8 true):rA K H (.ref a) (.ref C)
theorem wc{x:V}{u t:aj}(I:Inv X pins σ H s)(Z:RelV x u)(ty:rA X.K H x t)(e:cE X.K t c=Z8 b)(h:∀tk,Q (.bool b) {s with toks:=tk}) :
  bQ (bR X.prog X.w) A (vD (.builtin "isinstance") [u,c]) Q E s:=by
 cases ty with
 |non=>cases (Z);exact eU PySem.W.kitx_none I.kIn True.intro e (fun z=>nomatch z) h
 |bl y=>cases (Z);exact eU PySem.W.kitx_bool I.kIn True.intro e (fun z=>nomatch z) h
 |int i=>obtain⟨t,q⟩:=(Z);cases q;exact eU PySem.W.kitx_int I.kIn True.intro e (fun z=>nomatch z) h
 |str y=>obtain⟨t,q⟩:=(Z);cases q;exact eU PySem.W.kitx_str I.kIn True.intro e (fun z=>nomatch z) h
 |flt y=>obtain⟨t,q⟩:=(Z);cases q;exact eU PySem.W.kitx_float I.kIn True.intro e (fun z=>nomatch z) h
 |@lst a xs Y=>
  cases (show u=Value.ref a from Z);obtain⟨_,_,n,_,h1⟩:=(I.hok a _ Y);exact eU Bm I.kIn {_,h1,Z9} e (fun z=>nomatch z) h
 |@frz a B xs Y=>
  cases (show u=Value.ref a from Z);obtain⟨_,_,_,n,_,h1⟩:=(I.hok a _ Y);exact eU Bm I.kIn {_,h1,Z9} e (fun z=>nomatch z) h
 |@tup a xs Y=>
  cases (show u=Value.ref a from Z);obtain⟨_,_,_,p⟩:=(I.hok a _ Y);obtain⟨o,h1,h2,_⟩:=p;exact eU PySem.W.kitx_tuple I.kIn ⟨o,h1,h2⟩ e (fun z=>nomatch z) h
 |@dK a kvs Y=>
  cases (show u=Value.ref a from Z);obtain⟨_,_,vs,_,p⟩:=(I.hok a _ Y);obtain⟨o,es,D,h1,h2,_⟩:=p;exact eU Bn I.kIn ⟨o,h1,h2.1⟩ e (fun z=>nomatch z) h
 |@dT a kvs Y=>
  cases (show u=Value.ref a from Z);obtain⟨_,_,xs,_,o,es,D,h1,h2,_⟩:=(I.hok a _ Y);exact eU Bn I.kIn ⟨o,h1,h2.1⟩ e (fun z=>nomatch z) h
 |@ins a C dx fs Y R ha G U M=>
  cases (show u=Value.ref a from Z);obtain⟨mA,O,_⟩:=tW I.hok Y;obtain⟨od,J,_⟩:=O.look;exact eU (PySem.W.kitx_own (R.get _) R.hd ha G U M) I.kIn J e (fun z=>nomatch z) h
end
structure e8(k:Nat)(A:b8):Prop where
 hd:A.handled=Z7
 dp:A.depth+3*k+5<recursionLimit
 un:A.units+16*k+200<dY
theorem e8.mono{j k:Nat}{A:b8}(r:e8 k A)(h:j<=k):e8 j A:={r.hd,by have:=r.dp;lia,by have:=r.un;lia}
theorem e8.deeper{k:Nat}{A:b8}(r:e8 (k+1) A)(env:Env):e8 k (A.deeper env):=
 {r.hd,by have:=r.dp;show A.depth+1+3*k+5<_;lia,by have:=r.un;show A.units+3+16*k+200<_;lia}
theorem Ak{A:b8}{C:ae}{Y:List aj}{Z:List (Str×aj)}:(A.under (.builtin "type.__call__" {.ref C::Y,Z})).depth=A.depth+1:=by
 rfl
theorem Al{A:b8}{C:ae}{Y:List aj}{Z:List (Str×aj)}:(A.under (.builtin "type.__call__" {.ref C::Y,Z})).units=A.units+1:=by
 rfl
theorem e8.make{k:Nat}{A:b8}(r:e8 (k+1) A)(C:ae)(Y:List aj)(Z:List (Str×aj)):e8 k (A.under (.builtin "type.__call__" {.ref C::Y,Z})):=
 {r.hd,by have:=r.dp;rw[Ak];lia,by have:=r.un;rw[Al];lia}
theorem e8.depth{k:Nat}{A:b8}(r:e8 k A):A.depth<recursionLimit:=by have:=r.dp;lia
theorem e8.units{k:Nat}{A:b8}(r:e8 k A):A.units+64<dY:=by have:=r.un;lia
def tN:TA:=fun _ H Q=>Q [] H
def jJ(ta:TE)(tr:TA):TA:=fun σ H Q=>ta σ H fun x H1=>tr σ H1 fun xs H2=>Q (x::xs) H2
section
variable{X:Cx}{e:c8}{es:List c8}{te:TE}{t:TA}{pos:Pos}
theorem ao:PA X [] tN:=fun _ _ _ _ H Q I h=>Calls.spliced_nil {[],H,I,.nil,h}
theorem aq(ha:PE X e te)(R:PA X es t)(hs:cO (e::es) X.env=(false,gc e X.env)::cO es X.env:=by rfl):PA X (e::es) (jJ te t):=by
 intro pos pins s σ H Q I h;rw[hs];show bQ _ _ (spliced ((false,gc e X.env)::jk pos (cO es X.env))) _ _ s;exact Calls.spliced_cons (thn (ha pins s σ H _ I h) fun u Z ⟨x,H1,M,U,V⟩=>thn (R pos pins Z σ H1 _ M V) fun J s2 ⟨xs,H2,W,O,Y⟩=>{x::xs,H2,W,.cons U O,Y})
def tTup(t:TA):TE:=fun σ H Q=>t σ H fun xs H1=>xs.length<=aG/\∀p,H1 p=Z7->Q (.ref p) (upd H1 p (.tup xs))
def tLst(t:TA):TE:=fun σ H Q=>t σ H fun xs H1=>xs.length<=aG/\∀p,H1 p=Z7->Q (.ref p) (upd H1 p (.lst xs))
theorem cW {x1} (h:PA X es t):PE X (.Tuple es x1 pos) (tTup t):=by
 intro pins s σ H Q I hq;refine wpAny_Tuple_spliced (thn (h pos pins s σ H _ I hq) fun W Z ⟨xs,H1,Y,r,z,q⟩=>{by rw[<- r.length];exact z,{.ref Z.heap.objs.size,upd H1 Z.heap.objs.size (.tup xs),Y.laid (t':=Z.toks) (fun b u e=>aK _ e) (aF _) ?_,Z9,q _ (Y.hok.fresh (aF _))}});exact{z,W,r,{_,cA _ rfl,Z9,_,Z9}}
theorem dO(h:PA X es t):PE X (.List es pos) (tLst t):=by
 intro pins s σ H Q I hq;refine wpAny_List_spliced (thn (h pos pins s σ H _ I hq) fun W Z ⟨xs,H1,Y,r,z,q⟩=>{by rw[<- r.length];exact z,{.ref Z.heap.objs.size,upd H1 Z.heap.objs.size (.lst xs),Y.laid (t':=Z.toks) (fun b u e=>aK _ e) (aF _) ?_,Z9,q _ (Y.hok.fresh (aF _))}});exact{z,W,0,r,cA _ rfl}
end
abbrev Sp:=List V->Hp->VK->XK->Prop
abbrev CXT:=List Env->Hp->aw->XK->aj->aw->Prop
structure Am(P:aQ)(w:bU)(K:af)(mg:Str->Option aj)(base:cG)(A:b8)(outer:List Env)(s:aw)(H:Hp):Prop where
 frames:A.frames=Z8 outer
 mod:Mod K mg base
 bs:∀b o,base.get? b=Z8 o->s.heap.get? b=Z8 o/\H b=Z7
 bsz:base.objs.size<=s.heap.objs.size
 funs:s.heap.FunFrames base outer
 frf:∀b∈frs outer,H b=Z7
 hok:HOk P w H s.heap
 bare:o6 s.gens
def CE(outer:List Env)(P:aQ)(w:bU)(H:Hp)(s:aw)(Q:VK)(u:aj)(s':aw):Prop:=
 ∃v H',s'.os=s.os/\o6 s'.gens/\Un (frs outer) [] H H' s.heap s'.heap/\HOk P w H' s'.heap/\RelV v u/\Q v H'
def CR(CX:CXT)(outer:List Env)(P:aQ)(w:bU)(H:Hp)(s:aw)(Q:VK)(E:XK)(r:EJ)(s':aw):Prop:=
 match r with
 |.ok (.ret u)=>CE outer P w H s Q u s'
 |.ok _=>False
 |.error e=>CX outer H s E e s'
structure cg(P:aQ)(w:bU)(K:af)(mg:Str->Option aj)(base:cG)(CX:CXT)(k:Nat)(f:ae)(fd:cm)(ps:List Str)(sp:Sp):Prop where
 len:∀vs H Q E,sp vs H Q E->vs.length=ps.length
 run:∀(A:b8) (outer:List Env) (s:aw) (H:Hp) (args:Args) (us:List aj) (vs:List V) (Q:VK) (E:XK),e8 k A->Am P w K mg base A outer s H->sZ s fd args (ps.zip us)->dv vs us->sp vs H Q E ->
  mi (bR P w) A (.call (.ref f) args) (CR CX outer P w H s Q E) s
theorem Am.make{P:aQ}{w:bU}{K:af}{mg:Str->Option aj}{base:cG}{A:b8}{outer:List Env}{s:aw}{H:Hp}(e:Am P w K mg base A outer s H)(C:ae)(Y:List aj)(Z:List (Str×aj)) :
  Am P w K mg base (A.under (.builtin "type.__call__" {.ref C::Y,Z})) outer s H:={by first|exact e.frames|(simpa[Around.under,Code.envs,Code.isFrame,pushEnvs] using e.frames),e.mod,e.bs,e.bsz,e.funs,e.frf,e.hok,e.bare}
section
variable{X:Cx}{pins:List (ae×Obj)}{σ:St}{H:Hp}{s s':aw}
theorem Inv.env0(I:Inv X pins σ H s):Am X.prog X.w X.K X.mg X.base X.A X.stack s H:=
 {I.ok.frames,I.ok.mod,I.bs,cR I.ok.bsz I.sz,I.stack,I.stkFree,I.hok,I.bare}
theorem Inv.after{Q:VK}{u:aj}(I:Inv X pins σ H s)(h:CE X.stack X.prog X.w H s Q u s'):EP X pins σ Q u s':=by
 obtain⟨v,H',U,Z,un,W,r,q⟩:=h;obtain⟨V,g,d,t,Y⟩:=s';obtain rfl:Y=s.os:=U;exact{v,H',I.call (h':=V) (g':=g) (d':=d) (t':=t) un W Z (fun b z=>absurd z (by simp)),r,q}
end
def Bo(sp:Sp)(dvs:List V)(E:XK)(t:TA):TE:=fun σ H Q=>t σ H fun vs H1=>sp (vs++dvs) H1 Q E
inductive Kx(C:ae)(m:Str)(x:V)(H:Hp)(R:Prop):Prop where
 |mk(a dx:ae)(fs:List (Str×V))(hx:x=.ref a)(h:H a=Z8 (.ins C dx fs))(l:fs.lookup m=Z7)(q:R):Kx C m x H R
def Ky(C:ae)(m:Str)(sp:Sp)(dvs:List V)(E:XK)(ta:TE)(t:TA):TE:=fun σ H Q=>ta σ H fun x H1=>Kx C m x H1 (t σ H1 fun vs H2=>sp (x::(vs++dvs)) H2 Q E)
def Kz(C:ae)(sp:Sp)(dvs:List V)(E:XK)(t:TA):TE:=fun σ H Q=>t σ H fun vs H1=>∀x dx,H1 x=Z7->H1 dx=Z7->dx≠x ->
 sp (.ref x::(vs++dvs)) (upd (upd H1 dx (.own x)) x (.ins C dx [])) (fun v H2=>v=.non/\Q (.ref x) H2) E
def Binds(K:af)(fd:cm)(ps:List Str)(ds:List aj):Prop:=
 ∀(s:aw) (Z:List aj),K.In s.heap->(Z++ds).length=ps.length->sZ s fd {Z,[]} (ps.zip (Z++ds))
theorem Binds.all{K:af}{fd:cm}{ps:List Str}(h:∀Z:List aj,Z.length=ps.length->An fd {Z,[]}=pure (ps.zip Z)):Binds K fd ps []:=fun s Z _ Y=>by
 rw[cB]at Y |-;exact .of_eq (h Z Y)
def mX(CX:CXT)(X:Cx)(E:XK):Prop:=∀(pins:List (ae×Obj)) (σ:St) (H:Hp) (s:aw) (e:aj) (s':aw),Inv X pins σ H s->CX X.stack H s E e s'->X.xe e s'
section
variable{X:Cx}{CX:CXT}{k:Nat}{f C:ae}{fd:cm}{ps:List Str}{sp:Sp}{dvs:List V}{ds:List aj}{E:XK}{x m:Str}{p pos apos:Pos}{e o:c8}{es:List c8}{ta:TE}{t:TA}
theorem Ao{pins:List (ae×Obj)}{σ:St}{H:Hp}{s:aw}{Q:VK}{Z:List aj}{vs:List V}(F:cg X.prog X.w X.K X.mg X.base CX k f fd ps sp)(W:e8 k X.A)(hb:Binds X.K fd ps ds)(U:dv dvs ds)(hx:mX CX X E)
  (I:Inv X pins σ H s) (r:dv vs Z) (h:sp (vs++dvs) H Q E):bQ (bR X.prog X.w) X.A (vD (.ref f) Z) (EP X pins σ Q) X.xe s:=by
 have Y:=r.append U;refine Ap (ng (F.run X.A X.stack s H {Z,[]} (Z++ds) (vs++dvs) Q E W I.env0 (hb s Z I.kIn (Y.length ▸ F.len _ _ _ _ h)) Y h) fun r s' hq=>?_)
 cases r with
 |error e=>exact hx pins σ H s e s' I hq
 |ok fl=>
  cases fl with
  |ret u=>exact I.after hq
  |next=>exact df hq
  |brk=>exact df hq
  |cont=>exact df hq
theorem iy(F:cg X.prog X.w X.K X.mg X.base CX k f fd ps sp)(O:e8 k X.A)(V:Gl X x)(U:X.mg x=Z8 (.ref f))(hk:gH X.K (.ref f)=true)(hb:Binds X.K fd ps ds)(M:dv dvs ds)(hx:mX CX X E)
  (ha:PA X (e::es) t) (Z:(x==("__debug__":Str))=false:=by decide) (R:cO (e::es) X.env=(false,gc e X.env)::cO es X.env:=by rfl) (Y:(jk pos (cO es X.env)).any (·.1)=false:=by rfl) :
  PE X (.Call (.Name x p) (e::es) [] pos) (Bo sp dvs E t):=by
 intro pins s σ H Q I h;exact iS (p8 I V U (lJ I.ok.mod.kin hk (thn (ha pos pins s σ H _ I h) fun G J ⟨vs,H1,W,r,q⟩=>{W.kIn,Ao F O hb M hx W r q}) R Y) Z)
theorem iN{pl:Sem Bool}(J:PE X o ta)(c:Cls X.K C)(V:xr X.K C m f)(F:cg X.prog X.w X.K X.mg X.base CX k f fd ps sp)(G:e8 k X.A)(hb:Binds X.K fd ps ds)(g:dv dvs ds)(hx:mX CX X E)(ha:PA X (e::es) t)
  (Z:cO (e::es) X.env=(false,gc e X.env)::cO es X.env:=by rfl) (Y:(jk pos (cO es X.env)).any (·.1)=false:=by rfl)
  (z:gc (.Call (.Attribute o m apos) (e::es) [] pos) X.env=(do
   let U <- gc o X.env
   vB apos.atName
   let (f,first) <- o7 [U] (qD U m pl)
   Aj pos f first (jk pos (cO (e::es) X.env)) (oq pos (jC [] X.env))):=by rfl) :
  PE X (.Call (.Attribute o m apos) (e::es) [] pos) (Ky C m sp dvs E ta t):=by
 intro pins s σ H Q I h;refine jV (thn (J pins s σ H _ I h) fun u O ⟨x,H1,R,D,a,dx,fs,ex,B,l,q⟩=>?_) z;subst ex;obtain rfl:u=Value.ref a:=D;exact qQ R B c V l (lJ I.ok.mod.kin V.kp (thn (ha pos pins O σ H1 _ R q) fun us s2 ⟨vs,H2,W,r,M⟩=>{W.kIn,Ao (vs:=.ref a::vs) F G hb g hx W (.cons rfl r) M}) Z Y)
theorem rB{pl:Sem Bool}(V:PE X o ta)(c:Cls X.K C)(Y:xr X.K C m f)(F:cg X.prog X.w X.K X.mg X.base CX k f fd ps sp)(U:e8 k X.A)(hb:Binds X.K fd ps ds)(J:dv dvs ds)(hx:mX CX X E)
  (M:gc (.Call (.Attribute o m apos) [] [] pos) X.env=(do
   let W <- gc o X.env
   vB apos.atName
   let (f,first) <- o7 [W] (qD W m pl)
   Aj pos f first (jk pos (cO [] X.env)) (oq pos (jC [] X.env))):=by rfl) :
  PE X (.Call (.Attribute o m apos) [] [] pos) (Ky C m sp dvs E ta tN):=by
 intro pins s σ H Q I h;refine jV (thn (V pins s σ H _ I h) fun u G ⟨x,H1,Z,O,a,dx,fs,ex,R,l,q⟩=>?_) M;subst ex;obtain rfl:u=Value.ref a:=O;exact qQ Z R c Y l (zZ Z.kIn Y.kp (Ao (vs:=[.ref a]) F U hb J hx Z (.cons rfl .nil) q))
structure Mk(K:af)(C f:ae):Prop where
 makes:tM K C=true
 init:bH K (.ref C) "__init__"=Z8 (Z8 (.ref f))
 fn:oo K (.ref f)=true
 kp:gH K (.ref C)=true
theorem EM{pins:List (ae×Obj)}{σ:St}{H:Hp}{s:aw}{Q:VK}{Y:List aj}{vs:List V}(M:Mk X.K C f)(F:cg X.prog X.w X.K X.mg X.base CX k f fd ps sp)(O:e8 (k+1) X.A)(hb:Binds X.K fd ps ds)(B:dv dvs ds)
  (hx:mX CX X E) (I:Inv X pins σ H s) (r:dv vs Y)
  (h:∀x dx,H x=Z7->H dx=Z7->dx≠x->sp (.ref x::(vs++dvs)) (upd (upd H dx (.own x)) x (.ins C dx [])) (fun v H2=>v=.non/\Q (.ref x) H2) E) :
  bQ (bR X.prog X.w) X.A (vD (.ref C) Y) (EP X pins σ Q) X.xe s:=by
 have hq:=h (s.heap.objs.size+1) s.heap.objs.size (I.hok.fresh (e9 _)) (I.hok.fresh (aF _)) (aR (jv _));have W:=Inv.made (C:=C) I;have U:dv (V.ref (s.heap.objs.size+1)::(vs++dvs)) (Value.ref (s.heap.objs.size+1)::(Y++ds)):=.cons rfl (r.append B);have R:(Value.ref (s.heap.objs.size+1)::Y++ds).length=ps.length:=by
  have e:=U.length;rw[F.len _ _ _ _ hq]at e;exact e.symm
 refine Ap (EI I.kIn M.makes M.init (beq_iff_eq.mp M.fn) (ng (F.run _ X.stack _ _ {Value.ref (s.heap.objs.size+1)::Y,[]} (Value.ref (s.heap.objs.size+1)::(Y++ds)) _ _ E (O.make C Y [])
  (W.env0.make C Y []) (hb _ (Value.ref (s.heap.objs.size+1)::Y) W.kIn R) U hq) fun r s' Z=>?_))
 cases r with
 |error e=>exact hx pins σ _ _ e s' W Z
 |ok fl=>
  cases fl with
  |ret u=>
   obtain⟨v,H',J,G,ev,D⟩:=W.after Z;subst ev;exact{G,{V.ref (s.heap.objs.size+1),H',J,Z9,D}}
  |next=>exact df Z
  |brk=>exact df Z
  |cont=>exact df Z
theorem p9(M:Mk X.K C f)(F:cg X.prog X.w X.K X.mg X.base CX k f fd ps sp)(O:e8 (k+1) X.A)(V:Gl X x)(U:X.mg x=Z8 (.ref C))(hb:Binds X.K fd ps ds)(J:dv dvs ds)(hx:mX CX X E)
  (ha:PA X (e::es) t) (Z:(x==("__debug__":Str))=false:=by decide) (R:cO (e::es) X.env=(false,gc e X.env)::cO es X.env:=by rfl) (Y:(jk pos (cO es X.env)).any (·.1)=false:=by rfl) :
  PE X (.Call (.Name x p) (e::es) [] pos) (Kz C sp dvs E t):=by
 intro pins s σ H Q I h;exact iS (p8 I V U (lJ I.ok.mod.kin M.kp (thn (ha pos pins s σ H _ I h) fun D G ⟨vs,H1,W,r,q⟩=>{W.kIn,EM M F O hb J hx W r q}) R Y) Z)
end
section
variable{X:Cx}{CX:CXT}{k:Nat}{f C:ae}{fd:cm}{ps ks:List Str}{sp:Sp}{E:XK}{x m:Str}{p pos apos kpos:Pos}{e o:c8}{es:List c8}{kws:List Od}{te ta:TE}{t tk:TA}{nm:Option Str}
variable{g:List aj->List aj->List aj}{gV:List V->List V->List V}
end
structure bX(N P:List Str)(sc:jS):Prop where
 kind:sc.kind=.function
 co:sc.isCoroutine=false
 gen:sc.isGenerator=false
 nd:N.Nodup
 pre:N.take P.length=P
 par:∀x∈P,sc.names.lookup x=Z8 .local\/sc.names.lookup x=Z8 .cell
 nofree:∀y∈sc.names,y.2≠.free
theorem eQ{N P:List Str}{sc:jS}(a:sc.kind=.function:=by rfl)(b:sc.isCoroutine=false:=by rfl)(c:sc.isGenerator=false:=by rfl)(d:N.Nodup:=by decide +kernel)(e:N.take P.length=P:=by rfl)(f:∀x∈P,sc.names.lookup x=Z8 .local\/sc.names.lookup x=Z8 .cell:=by decide +kernel)(g:∀y∈sc.names,y.2≠.free:=by decide +kernel):bX N P sc:=⟨a,b,c,d,e,f,g⟩
section
variable{X:Cx}{N P:List Str}{sc:jS}{x:Str}{e:c8}{te:TE}{pos pos':Pos}
theorem pst(i:Nat)(S:bX X.N P sc)(Y:PE X e te)(hi:X.N[i]?=Z8 x:=by rfl)(hx:Loc X.env.scope x:=by exact Or.inl rfl)(hs:qB e (Z8 (.Name x pos')) pos.line X.env=pure false:=by rfl)(Z:X.fn x=true\/X.env.scope.names.lookup x=Z8 .local:=by first|exact .inl rfl|exact .inr rfl|assumption):PS X (.Assign [.Name x pos'] e pos) (Ew te (vY i)):=qP S.nd hi hx Y hs Z
theorem pgn(i:Nat)(S:bX X.N P sc)(hi:X.N[i]?=Z8 x:=by rfl)(hx:Loc X.env.scope x:=by exact Or.inl rfl)(Z:X.fn x=true\/X.env.scope.names.lookup x=Z8 .local:=by first|exact .inl rfl|exact .inr rfl|assumption):PG X (.Name x pos) (vY i):=iw S.nd hi hx Z
end
theorem wg{kindOf:Str->Option kM}{x:Str}:∀{binds:List (Str×aj)} {m:Str->Option aj},(∀v,(x,v)∉binds)->Eb kindOf binds m x=m x
 | [],_,_=>rfl
 |(n,v)::r,m,h=>by
  unfold Eb;rw[wg fun w hw=>h w (aa _ hw)]
  split
  ·have:x≠n:=by rintro rfl;exact h v ax
   simp[this]
  ·rfl
theorem wj{kindOf:Str->Option kM}{x:Str}:∀{binds:List (Str×aj)} {m:Str->Option aj},(∀v,(x,v)∉binds)->Ec kindOf binds m x=m x
 | [],_,_=>rfl
 |(n,v)::r,m,h=>by
  unfold Ec;rw[wj fun w hw=>h w (aa _ hw)]
  split
  ·rfl
  ·have:x≠n:=by rintro rfl;exact h v ax
   simp[this]
theorem wx{kindOf:Str->Option kM}{x:Str}{v:aj}:∀{P:List Str} {vs:List aj} {i:Nat} {m:Str->Option aj},P.Nodup->P[i]?=Z8 x->vs[i]?=Z8 v->kindOf x=Z8 .local ->
  Eb kindOf (P.zip vs) m x=Z8 v
 | [],_,_,_,_,h,_,_=>by simp at h
 |_::_,[],_,_,_,_,h,_=>by simp at h
 |p::P,w::vs,0,m,Z,h1,h2,hk=>by
  simp at h1 h2;subst h1;subst h2;show Eb kindOf ((p,w)::P.zip vs) m p=_;unfold Eb;rw[wg fun v Y=>(cu.mp Z).1 (pC Y).1,if_pos hk];simp
 |p::P,w::vs,i+1,m,Z,h1,h2,hk=>by
  show Eb kindOf ((p,w)::P.zip vs) m x=_;unfold Eb;exact wx (i:=i) (cu.mp Z).2 (by simpa using h1) (by simpa using h2) hk
theorem wy{kindOf:Str->Option kM}{x:Str}{v:aj}:∀{P:List Str} {vs:List aj} {i:Nat} {m:Str->Option aj},P.Nodup->P[i]?=Z8 x->vs[i]?=Z8 v->kindOf x≠Z8 .local ->
  Ec kindOf (P.zip vs) m x=Z8 v
 | [],_,_,_,_,h,_,_=>by simp at h
 |_::_,[],_,_,_,_,h,_=>by simp at h
 |p::P,w::vs,0,m,Z,h1,h2,hk=>by
  simp at h1 h2;subst h1;subst h2;show Ec kindOf ((p,w)::P.zip vs) m p=_;unfold Ec;rw[wj fun v Y=>(cu.mp Z).1 (pC Y).1,if_neg hk];simp
 |p::P,w::vs,i+1,m,Z,h1,h2,hk=>by
  show Ec kindOf ((p,w)::P.zip vs) m x=_;unfold Ec;exact wy (i:=i) (cu.mp Z).2 (by simpa using h1) (by simpa using h2) hk
def start(N:List Str)(vs:List V):St:=vs.map Z8++cT (N.length-vs.length) Z7
def sD(CX:CXT)(P:aQ)(w:bU)(K:af)(mg:Str->Option aj)(base:cG)(N:List Str)(Y:Str)(Z:jS)(f:ae)(V:aj)(A:b8)(outer:List Env)(s:aw)(H:Hp)(E:XK):Cx where
 prog:=P
 w:=w
 K:=K
 mg:=mg
 base:=base
 A:=A.deeper (sE Y Z s.heap.objs.size f V)
 N:=N
 s₀:=s
 H₀:=H
 env:=sE Y Z s.heap.objs.size f V
 outer:=outer
 stack:=sE Y Z s.heap.objs.size f V::outer
 ex:=[]
 calm:=true
 fn:=fun _=>true
 pn:=[]
 xe:=fun e s'=>bQ (bR P w) (A.deeper (sE Y Z s.heap.objs.size f V)) (EN (sE Y Z s.heap.objs.size f V) e) (fun _ W=>CX outer H s E e W) (fun U W=>CX outer H s E U W) s'
theorem yU{sc:jS}{n:Nat}{x:Str}(h:sc.names.lookup x=Z8 .cell):∃c,(Ed n sc.names []).lookup x=Z8 c:=Option.isSome_iff_exists.mp (oy sc.names n [] (.inl h))
theorem wA{CX:CXT}{P:aQ}{w:bU}{K:af}{mg:Str->Option aj}{base:cG}{N ps:List Str}{Y:Str}{Z:jS}{f:ae}{O:aj}{A:b8}{outer:List Env}{s J:aw}{H:Hp}{E:XK}{M:List aj}{vs:List V}
  (S:bX N ps Z) (G:A.handled=Z7) (W:Am P w K mg base A outer s H) (t:vs.length=ps.length) (r:dv vs M)
  (x:InCallC s s.heap.objs.size (Eb (sE Y Z s.heap.objs.size f O).kindOf (ps.zip M) fun _=>Z7) (Ed (s.heap.objs.size+1) Z.names []) (Ec (sE Y Z s.heap.objs.size f O).kindOf (ps.zip M) fun _=>Z7) J) :
  Inv (sD CX P w K mg base N Y Z f O A outer s H E) [] (start N vs) H J:=by
 have D:ps.length<=N.length:=by have:=congrArg jK S.pre;rw[cL]at this;lia
 obtain⟨h1,tk,rfl,hk⟩:=x.done;have U:∀b:ae,b∉(sD CX P w K mg base N Y Z f O A outer s H E).ex:=fun b z=>absurd (show b∈([]:List ae) from z) (by simp);refine⟨{W.mod,S.kind,Z9,Z9,aF _,fun y z c h1 h2=>?_,fun y hy=>?_,fun y c _ h=>?_,fun _=>G,Around.frames_deeper W.frames,.inr ⟨Z9,Z9⟩,fun b z=>absurd z (U b),W.bs,W.bsz,fun b _ _=>U b,fun b z=>absurd z (U b),W.funs,W.frf},
  Z9,W.bare,Un.kept hk,{_,x.toInCall.ns,fun i y v h1 h2 B=>?_},fun y c h=>{_,x.cell y c h},W.hok.fresh (aF _),fun y c h=>?_,fun p hp=>absurd (show p∈([]:List (ae×Obj)) from hp) (by simp),W.hok.kept hk,?_⟩
 ·exact name_of_addr x.apart (gx h1) (gx h2)
 ·have hy:=hy
  rcases hy with hy|hy
  ·exact yU hy
  ·exact absurd rfl (S.nofree _ (gx hy))
 ·exact jZ (x.above y c (gx h))
 ·have hi:i<vs.length:=by
   unfold start at h2
   by_cases hi:i<vs.length
   ·exact hi
   ·rw[dM (by simpa using hi)]at h2;rw[oS]at h2
    split at h2<;>cases h2
  have ha:vs[i]?=Z8 v:=by
   unfold start at h2;rw[fu (by simpa using hi),bM]at h2
   cases e:vs[i]? with
   |none=>rw[e]at h2;cases h2
   |some a=>rw[e]at h2;cases h2;rfl
  obtain⟨u,hu,I⟩:=r.get ha;have hp:ps[i]?=Z8 y:=by
   rw[<- S.pre,yG (by lia)];exact h1
  have R:ps.Nodup:=by rw[<- S.pre];exact S.nd.sublist (hZ _ _)
  refine{u,I,?_}
  rcases S.par y (bJ hp) with k|k
  ·exact .inl {k,wx R hp hu k}
  ·obtain⟨c,e⟩:=yU k;refine .inr {.inl k,c,e,?_};have q:=x.cell y c e;rw[wy R hp hu (by show Z.names.lookup y≠_;rw[k];decide)]at q;exact q
 ·exact W.hok.fresh (jZ (x.above y c (gx h)))
 ·unfold start;show _=N.length;rw[aB,ai,kr]
  lia
theorem KA{CX:CXT}{P:aQ}{w:bU}{K:af}{mg:Str->Option aj}{base:cG}{k:Nat}{f:ae}{name Y:Str}{W:Arguments}{R:List c9}{Z:jS}{dV kV D pm U ct oc:aj}{an od:Option ae}
  {g:Array (Option aj)} {N ps:List Str} {sp:Sp} (lk:K.lookup f=Z8 {oc,od,.func (fg name Y W R Z dV kV D pm an U ct),g}) (bv:jL K U Y=true) (S:bX N ps Z)
  (len:∀vs H Q E,sp vs H Q E->vs.length=ps.length)
  (M:∀(A:b8) (outer:List Env) (s:aw) (H:Hp) (vs:List V) (Q:VK) (E:XK),e8 k (A.deeper (sE Y Z s.heap.objs.size f U))->sp vs H Q E ->
   ∃t,PSs (sD CX P w K mg base N Y Z f U A outer s H E) R t/\t {nx:=fun _ H'=>Q .non H',rt:=Q} (start N vs) H) :
  cg P w K mg base CX (k+1) f (fg name Y W R Z dV kV D pm an U ct) ps sp:=by
 refine{len,fun A outer s H args us vs Q E z B hb r G=>?_};have KX:=B.mod.kin.keeps fun b o e=>(B.bs b o e).1;have I:∀y∈ps.zip us,Z.names.lookup y.1=Z8 .local\/(Z.names.lookup y.1=Z8 .cell/\((Ed (s.heap.objs.size+1) Z.names []).lookup y.1).isSome=true):=fun⟨n,v⟩ hy=>by
  rcases S.par n (pC hy).1 with q|q
  ·exact .inl q
  ·exact .inr {q,oy _ _ _ (.inl q)}
 refine Ia z.depth (KX _ _ lk) rfl S.co S.gen rfl (Aq KX bv) (hb _ _ _ _ (Ar S.kind I fun env he s1 x=>?_));subst he;refine{(B.mod.nolimit.keeps fun b o e=>(B.bs b o e).1).keeps x.toInCall.keep,codeAny_func ?_};obtain⟨t,ht,hq⟩:=M A outer s H vs Q E (z.deeper _) G;refine eJ (ht [] s1 (start N vs) H _ (wA S z.hd B (len _ _ _ _ G) r x) hq) (fun fl s' hs=>?_) fun e s' hs=>hs;have fin:∀{O:St} {H':Hp} {v:V} {u:aj},Inv (sD CX P w K mg base N Y Z f U A outer s H E) [] O H' s'->RelV v u->Q v H'->CE outer P w H s Q u s':=
  fun {O H' v u} J rv q=>⟨v,H',J.os,J.bare,J.base,J.hok,rv,q⟩
 cases fl with
 |ret u=>
  obtain⟨v,O,H',J,rv,q⟩:=hs;exact fin J rv q
 |next=>
  obtain⟨O,H',J,q⟩:=hs;exact fin (v:=V.non) J rfl q
 |brk=>
  obtain⟨_,_,_,q⟩:=hs;exact df q
 |cont=>
  obtain⟨_,_,_,q⟩:=hs;exact df q
section
variable{X:Cx}{x:Str}{p pos:Pos}{e:c8}{es:List c8}{t:TA}{id T:String}{r:List V->Hp->VK->Prop}
def tCB(r:List V->Hp->VK->Prop)(t:TA):TE:=fun σ H Q=>t σ H fun vs H1=>r vs H1 Q
theorem cq(hc:lG X (.builtin id) r)(U:Gl X x)(O:X.mg x=Z7)(D:eB x=Z8 (.builtin id))(ha:PA X (e::es) t)(G:x≠"__name__":=by decide)(Z:(x==("__debug__":Str))=false:=by decide)
  (M:cO (e::es) X.env=(false,gc e X.env)::cO es X.env:=by rfl) (Y:(jk pos (cO es X.env)).any (·.1)=false:=by rfl):PE X (.Call (.Name x p) (e::es) [] pos) (tCB r t):=by
 intro pins s σ H Q I h;exact iS (sh I U O D (PyProof.Rows.callWith_builtin1 (thn (ha pos pins s σ H _ I h) fun R W ⟨vs,H1,E,J,V⟩=>hc pins W σ H1 vs R Q E J V) M Y) G Z)
theorem gB(hc:lG X (.type T) r)(U:Gl X x)(O:X.mg x=Z7)(D:eB x=Z8 (.type T))(ha:PA X (e::es) t)(G:x≠"__name__":=by decide)(Z:(x==("__debug__":Str))=false:=by decide)
  (M:cO (e::es) X.env=(false,gc e X.env)::cO es X.env:=by rfl) (Y:(jk pos (cO es X.env)).any (·.1)=false:=by rfl):PE X (.Call (.Name x p) (e::es) [] pos) (tCB r t):=by
 intro pins s σ H Q I h;exact iS (sh I U O D (kd (thn (ha pos pins s σ H _ I h) fun R W ⟨vs,H1,E,J,V⟩=>hc pins W σ H1 vs R Q E J V) M Y) G Z)
end
end L2
namespace HT
open PySem PyProof.Rows
def lexLt:List Int->List Int->Bool
 | [],[]=>false
 | [],_::_=>true
 |_::_,[]=>false
 |x::xs,y::ys=>if x=y then lexLt xs ys else decide (x<y)
theorem lK(x y:Int)(xs ys:List Int):lexLt (x::xs) (y::ys)=if x=y then lexLt xs ys else decide (x<y):=rfl
theorem qI:lexLt [] []=false:=rfl
theorem pD(y:Int)(ys:List Int):lexLt [] (y::ys)=true:=rfl
theorem pE(x:Int)(xs:List Int):lexLt (x::xs) []=false:=rfl
theorem yV(A:b8)(s:aw)(a:Int)(t:Tok)(c:Int)(u:Tok):∃e,rC A s (.int a t) (.int c u) e/\(e=true↔a=c):=
 {(a==c),kQ a t c u,by simp}
theorem EO(A:b8)(s:aw)(a:Int)(t:Tok)(c:Int)(u:Tok)(prog:aQ)(w:bU)(E:aj->aw->Prop)(Q:aj->aw->Prop)(h:Q (.bool (decide (a<c))) s) :
  bQ (bR prog w) A (kg .Lt (.int a t) (.int c u)) Q E s:=
 (PyProof.Rows.lt_int h:bQ (bR prog w) A (eE .Lt (.int a t) (.int c u)) Q E s)
section
open PySem.SeqAt
open PySem.AutoSeq1 (wpAny_loadPart')
open PySem.MeetsSeq PySem.MeetsSeq2 PySem.MeetsSeq3
theorem vE(l b:ae)(items Z:Array aj)(n n2:Nat)(dd bv:Option ae)(sl f:Array (Option aj))(ns z:List Int)(hi:gp items.toList ns)(hj:gp Z.toList z) :
  Oe (iT.«tuple.__lt__» {[.ref l,.ref b],[]})
   (fun _ R s=>s.heap.get? l=Z8 {cls:=.type "tuple",dict:=dd,data:=.seq items n,slots:=sl}/\s.heap.get? b=Z8 {cls:=.type "tuple",dict:=bv,data:=.seq Z n2,slots:=f} /\
    R (.ok (.ret (.bool (lexLt ns z)))) s):=
 .of_wp fun prog w A R s h=>by
  obtain⟨hp,g,d,tk,B⟩:=s;obtain⟨hl,hb,h⟩:=h;have f2:=jr;have z1:items.size=ns.length:=by rw[<- hi.length];simp
  have z2:Z.size=z.length:=by rw[<- hj.length];simp
  wp_walk using cQ hl,cQ hb,lL _ (fun rest b s'=>b.1=Z7/\s'=⟨hp,g,d,tk,B⟩/\∃(vs ws:List aj) (W V:List Int),rest=vs.zip ws /\
   gp vs W/\gp ws V/\W.length+Z.size=V.length+items.size/\R (.ok (.ret (.bool (lexLt W V)))) ⟨hp,g,d,tk,B⟩) _
  case turn=>
   rintro⟨y,x⟩ rest b s' ⟨I,rfl,vs,ws,W,V,hz,J,U,Y,O⟩
   cases J with
   |nil=>rw[ER]at hz;exfalso;cases hz
   |cons a t D=>
    cases U with
    |nil=>rw[Ee]at hz;exfalso;cases hz
    |cons c u E=>
     rw[iH]at hz;injection hz with bz G;injection bz with hy hx;subst hy hx;rw[lK]at O;simp only[cw]at Y;obtain⟨e,he,M⟩:=yV A.in1 ⟨hp,g,d,tk,B⟩ a t c u;refine au (he prog w _ _ ?_)
     cases e with
     |true=>
      rw[if_pos (M.mp rfl)]at O
      wp_walk
      exact{Z9,Z9,_,_,_,_,G,D,E,by lia,O}
     |false=>
      rw[if_neg (fun q=>absurd (M.mpr q) bZ)]at O;have bw:=EO A.in1 ⟨hp,g,d,tk,B⟩ a t c u prog w
      wp_walk using bw
      exact{_,Z9,by simpa using O}
  case fin=>
   rintro⟨b1,b2⟩ s' ⟨I,rfl,vs,ws,W,V,hz,J,U,Y,O⟩;simp only at I;subst I;have hv:lexLt W V=decide (items.size<Z.size):=by
    cases J with
    |nil=>
     cases U with
     |nil=>
      simp only[cY]at Y;rw[qI];exact (decide_eq_false (by lia)).symm
     |cons c u hw=>
      simp only[cY,cw]at Y;rw[pD];exact (decide_eq_true (by lia)).symm
    |cons a t hv=>
     cases U with
     |nil=>
      simp only[cY,cw]at Y;rw[pE];exact (decide_eq_false (by lia)).symm
     |cons c u hw=>
      rw[iH]at hz
      cases hz
   rw[hv]at O
   wp_walk
   exact{_,Z9,by simpa[qc] using O}
  case h=>
   exact{Z9,Z9,items.toList,Z.toList,ns,z,Z9,hi,hj,by lia,h}
end
section
variable{prog:aQ}{w:bU}{A:b8}{E:aj->aw->Prop}{s:aw}
theorem lt_tupInts{l b:ae}{items Z:Array aj}{ns W:List Int}{Q:aj->aw->Prop}(B:m7 s.heap l items)(hb:m7 s.heap b Z)(hi:gp items.toList ns)(D:gp Z.toList W)
  (hu:A.units<dY) (h:Q (.bool (lexLt ns W)) s):bQ (bR prog w) A (eE .Lt (.ref l) (.ref b)) Q E s:=by
 obtain⟨⟨cls,dd,data,sl⟩,I,hc,n,G⟩:=id B;obtain⟨⟨J,O,M,R⟩,Y,U,z,V⟩:=id hb;simp only at hc G U V;subst hc G U V;exact kN (op:=.Lt) {_,I,Z9} {_,Y,Z9} yH xt (wB _ _) (vE l b items Z n z dd O sl R ns W hi D)
  {I,Y,show Value.bool (lexLt ns W)≠Value.notImplemented/\Q (.bool (lexLt ns W)) s from{(fun x=>nomatch x),h}} hu
theorem cat_tup{t b:ae}{vs ws:List aj}{Q:aj->aw->Prop}(D:m7 s.heap t vs.toArray)(hb:m7 s.heap b ws.toArray)(G:vs≠[])
  (h1:ws=[]->Q (.ref t) s) (h2:ws≠[]->Q (.ref s.heap.objs.size) {s with heap:=s.heap.push {cls:=.type "tuple",data:=.seq (vs++ws).toArray}})
  (hsz:vs.length+ws.length<=aG):bQ (bR prog w) A (iK .Add (.ref t) (.ref b)) Q E s:=by
 obtain⟨⟨cls,dd,data,sl⟩,R,hc,n,M⟩:=id D;obtain⟨⟨J,W,O,Y⟩,Z,U,I,V⟩:=id hb;simp only at hc M U V;subst hc M U V;have e:vs.toArray++ws.toArray=(vs++ws).toArray:=by simp
 by_cases hw:ws=[]
 ·exact concat_meets {_,R,Z9} {_,Z,Z9} noFill_tuple_add seq_tuple_add xu wC (vF _ _)
   (tuple_addW1 t b vs.toArray ws.toArray n I dd W sl Y (by simpa using G) (by simp[hw])) {R,Z,h1 hw}
 ·refine concat_meets {_,R,Z9} {_,Z,Z9} noFill_tuple_add seq_tuple_add xu wC (vF _ _)
   (tuple_addW2 t b vs.toArray ws.toArray n I dd W sl Y (by simpa using G) (by simpa using hw) (by rw[aJ,aJ];exact hsz)) {R,Z,?_}
  rw[e];exact h2 hw
def sIx(n d:Nat):Option Int->Nat
 |none=>d
 |some v=>if v<0 then (v+(n:Int)).toNat else min v.toNat n
end
end HT
namespace L2
open PySem PySem.Spec PyProof.Rows
abbrev TO:=St->Hp->(Option Int->Hp->Prop)->Prop
def PO(X:Cx)(e:Option c8)(t:TO):Prop:=
 ∀(pins:List (ae×Obj)) (s:aw) (σ:St) (H:Hp) (Q:Option Int->Hp->Prop),Inv X pins σ H s->t σ H Q ->
  bQ (bR X.prog X.w) X.A (evalPart e X.env) (fun u s'=>∃o H',Inv X pins σ H' s'/\IsPart u o/\Q o H') X.xe s
def IA:TO:=fun _ H Q=>Q Z7 H
def tPart(t:TE):TO:=fun σ H Q=>t σ H fun x H1=>∃i,x=.int i/\Q (Z8 i) H1
theorem intsAre_of{ns:List Int}:∀{Z:List aj},dv (ns.map V.int) Z->gp Z ns:=by
 induction ns with
 |nil=>intro Z r;rw[Of]at r;cases r;exact .nil
 |cons n ns Y=>
  intro Z r
  cases r with
  |cons W U=>
   obtain⟨t,e⟩:=W;subst e;exact .cons n t (Y U)
section
variable{X:Cx}{e:c8}{te:TE}{lo hi:Option c8}{tl th:TO}{pos p2:Pos}
theorem tX:PO X Z7 IA:=by
 intro pins s σ H Q I h;exact bK {Z7,H,I,.none,h}
theorem lA(h:PE X e te):PO X (Z8 e) (tPart te):=by
 intro pins s σ H Q I hw;refine thn (h pins s σ H _ I hw) fun u U Y=>?_;obtain⟨x,H1,V,W,Z⟩:=Y;obtain⟨i,rfl,q⟩:=Z;obtain⟨t,rfl⟩:=W;exact{Z8 i,H1,V,.int i t,q}
def SlR(X:Cx)(r:V->Option Int->Option Int->Hp->VK->Prop):Prop:=
 ∀(pins:List (ae×Obj)) (s:aw) (σ:St) (H:Hp) (x:V) (v Y Z:aj) (lo hi:Option Int) (sl:ae) (Q:VK),Inv X pins σ H s->RelV x v->s.heap.IsSliceOf sl Y Z .none->IsPart Y lo->IsPart Z hi->r x lo hi H Q ->
  ∃T id,As (.type T) "__getitem__"=pure (Z8 (.builtin id))/\s.TypeIs v T/\bQ (bR X.prog X.w) X.A (vG v (.ref sl)) (EP X pins σ Q) X.xe s
def tSl(r:V->Option Int->Option Int->Hp->VK->Prop)(te:TE)(tl th:TO):TE:=fun σ H Q=>te σ H fun x H1=>tl σ H1 fun l H2=>th σ H2 fun u Z=>r x l u Z Q
theorem pF{r:V->Option Int->Option Int->Hp->VK->Prop}(D:SlR X r)(he:PE X e te)(M:PO X lo tl)(hu:PO X hi th):PE X (.Subscript e (.Slice lo hi Z7 p2) pos) (tSl r te tl th):=by
 intro pins s σ H Q I h;refine Au (thn (he pins s σ H _ I h) fun v g ⟨x,H1,G,O,B⟩=>wpAny_Slice (thn (M pins g σ H1 _ G B) fun W s2 ⟨l,H2,f,pl,U⟩=>thn (hu pins s2 σ H2 _ f U) fun Y Z ⟨u,J,z,pu,t⟩=>bK ?_));obtain⟨T,id,E,ht,R⟩:=D pins {Z with heap:=Z.heap.push {cls:=.type "slice",data:=.fields #[W,Y,.none]}} σ J x v W Y l u Z.heap.objs.size Q (z.kept (t':=Z.toks) fun b ob q=>aK _ q) O (vx ..) pl pu t;exact tail_any ht E R (by with_unfolding_all rfl)
def qR(xs:List V)(lo hi:Option Int):List V:=(xs.drop (HT.sIx xs.length 0 lo)).take (HT.sIx xs.length xs.length hi-HT.sIx xs.length 0 lo)
theorem tf(xs:List V)(lo hi:Option Int):(qR xs lo hi).length<=xs.length:=by
 unfold qR;rw[cL,tY]
 lia
def rCatT(K:af):R2:=fun x y H Q=>∃a b xs ys,x=.ref a/\y=.ref b/\SqT K H a xs/\SqT K H b ys/\xs≠[]/\xs.length+ys.length<=aG /\
 (ys=[]->Q (.ref a) H)/\(ys≠[]->∀p,H p=Z7->Q (.ref p) (upd H p (.tup (xs++ys))))
theorem dv.nil_iff{xs:List V}{Z:List aj}(r:dv xs Z):Z=[]↔xs=[]:=by
 cases r with
 |nil=>simp
 |cons _ _=>simp
theorem IB:OpR X (iK .Add) (rCatT X.K):=by
 intro pins s σ H x y v u Q I J R h;refine Z0 fun D O=>?_;obtain⟨a,b,xs,ys,rfl,rfl,ha,hb,hx,hz,M,U⟩:=h;subst J;subst R;obtain⟨V,Y,G,_⟩:=I.tuple ha;obtain⟨W,Z,p2,_⟩:=I.tuple hb;refine O (HT.cat_tup G p2 (fun z=>hx (Y.nil_iff.mp z)) (fun z=>{.ref a,H,I,Z9,M (Z.nil_iff.mp z)}) (fun z=>{.ref s.heap.objs.size,_,I.laid (t':=s.toks) (fun b E q=>aK _ q) (aF _) ?_,Z9,U (fun w=>z (Z.nil_iff.mpr w)) _ (I.hok.fresh (aF _))}) (by rw[<- Y.length,<- Z.length];exact hz));exact{by rw[aB];exact hz,_,Y.append Z,IsTup.new _ _}
end
def ixN(n:Nat)(i:Int):Option Nat:=if 0<=i then (if i<n then Z8 i.toNat else Z7) else if -(n:Int)<=i then Z8 (i+n).toNat else Z7
def atI{Z:Type}(xs:List Z)(i:Int):Option Z:=(ixN xs.length i).bind fun j=>xs[j]?
theorem tZ{n:Nat}{i:Int}{j:Nat}(h:ixN n i=Z8 j):seqIndex? i n=Z8 j/\j<n/\-(n:Int)<=i/\i<n:=by
 unfold ixN at h
 by_cases Z:0<=i
 ·rw[if_pos Z]at h
  by_cases h1:i<n
  ·rw[if_pos h1]at h;have e:=dy h;exact{by rw[IC Z h1,e],by lia,by lia,h1}
  ·simp_all
 ·rw[if_neg Z]at h
  by_cases h1:-(n:Int)<=i
  ·rw[if_pos h1]at h;have e:=dy h;exact{by rw[ES (by lia) h1,e],by lia,h1,by lia}
  ·simp_all
theorem xw{Z:Type}{xs:List Z}{i:Int}{v:Z}(h:atI xs i=Z8 v):∃j,seqIndex? i xs.length=Z8 j/\xs[j]?=Z8 v/\j<xs.length/\-(xs.length:Int)<=i/\i<xs.length:=by
 unfold atI at h
 cases e:ixN xs.length i with
 |none=>rw[e]at h;cases h
 |some j=>
  rw[e]at h;obtain⟨h1,h2,Y,W⟩:=tZ e;exact⟨j,h1,h,h2,Y,W⟩
theorem gy{Z:Type}{xs:List Z}{j:Nat}{v:Z}(h:xs[j]?=Z8 v):atI xs (j:Int)=Z8 v:=by
 have Y:=(aC.mp h).1;have e:ixN xs.length (j:Int)=Z8 j:=by
  unfold ixN;rw[if_pos (by lia),if_pos (by lia)];simp
 unfold atI;rw[e];exact h
def ID(b:c8):Prop:=∀o i,yI b false o i=operate [o,i] (vG o i)
def IxR(X:Cx)(r:R2):Prop:=
 ∀(value slice:c8) (pins:List (ae×Obj)) (s:aw) (σ:St) (H:Hp) (x y:V) (v u:aj) (Q:VK),Inv X pins σ H s->RelV x v->RelV y u->r x y H Q ->
  yI slice false v u=operate [v,u] (vG v u)->bQ (bR X.prog X.w) X.A (subscriptTail value slice v u) (EP X pins σ Q) X.xe s
def MtR(X:Cx)(id:String)(r:V->List V->Hp->VK->Prop):Prop:=
 ∀(pins:List (ae×Obj)) (s:aw) (σ:St) (H:Hp) (x:V) (xs:List V) (v:aj) (Z:List aj) (Q:VK),Inv X pins σ H s->RelV x v->dv xs Z->r x xs H Q ->
  bQ (bR X.prog X.w) X.A (vD (.builtin id) (v::Z)) (EP X pins σ Q) X.xe s
section
variable{X:Cx}{a b:c8}{ta tb:TE}{pos:Pos}
theorem aP{r:R2}(Z:IxR X r)(ha:PE X a ta)(hb:PE X b tb)(hs:ID b:=by intro _ _;rfl):PE X (.Subscript a b pos) (tOp r ta tb):=by
 intro pins s σ H Q I h;exact Au (L6 ha hb I h fun v u s2 x y H2 V Y W q=>Z a b pins s2 σ H2 x y v u Q V Y W q (hs _ _))
inductive RIxL(K:af)(x y:V)(H:Hp)(Q:VK):Prop where
 |mk(p:ae)(xs:List V)(i:Int)(v:V)(hx:x=.ref p)(hy:y=.int i)(s:SqL K H p xs)(e:atI xs i=Z8 v)(q:Q v H):RIxL K x y H Q
def Ma(K:af):R2:=fun x y H Q=>RIxL K x y H Q
inductive RIxT(K:af)(x y:V)(H:Hp)(Q:VK):Prop where
 |mk(p:ae)(xs:List V)(i:Int)(v:V)(hx:x=.ref p)(hy:y=.int i)(s:SqT K H p xs)(e:atI xs i=Z8 v)(q:Q v H):RIxT K x y H Q
def Mb(K:af):R2:=fun x y H Q=>RIxT K x y H Q
def rIxS:R2:=fun x y H Q=>∃z i c,x=.str z/\y=.int i/\z.length<=aG/\atI z.cps.toList i=Z8 c/\Q (.str {#[c]}) H
theorem cy:IxR X (Ma X.K):=by
 intro value slice pins s σ H x y v u Q I E R h hs;refine Z0 fun f O=>?_;obtain⟨p,xs,i,z,rfl,rfl,hq,M,q⟩:=h;subst E;obtain⟨t,rfl⟩:=R;obtain⟨Z,r,pl,hz⟩:=I.list hq;obtain⟨j,h1,h2,B,D,G⟩:=xw M;obtain⟨w,V,W⟩:=r.get h2;refine O ?_;have J:=r.length;have g:=uE;have fin:EP X pins σ Q w s:=⟨z,H,I,W,q⟩
 by_cases U:0<=i
 ·have Y:i.toNat=j:=by
   rw[IC U G]at h1;exact dy h1
  exact item_listR pl.isList U (by lia) (by rw[Y];simpa using V) fin hs
 ·have Y:(i+(Z.toArray.size:Int)).toNat=j:=by
   rw[ES (by lia) D]at h1;rw[aJ,<- J];exact dy h1
  exact ET pl.isList.typeIs vH.lookup
   (wpAny_getItem_list_neg pl.isList (by lia) (by rw[aJ]<;>lia) (by lia) (by rw[Y];simpa using V) ⟨Z9,fin⟩) hs
theorem aY:IxR X (Mb X.K):=by
 intro value slice pins s σ H x y v u Q I R W h hs;refine Z0 fun D V=>?_;obtain⟨p,xs,i,z,rfl,rfl,hq,U,q⟩:=h;subst R;obtain⟨t,rfl⟩:=W;obtain⟨Y,r,pl,hz⟩:=I.tuple hq;obtain⟨j,h1,h2,M,E,J⟩:=xw U;obtain⟨w,O,Z⟩:=r.get h2;refine V ?_;have G:=uE;exact ET pl.typeIs slot_tuple_getitem.lookup
  (getItem_tuple pl (by lia) (by lia) (by rw[aJ,<- (r.length)];exact h1) (by simpa using O) {Z9,(⟨z,H,I,Z,q⟩)}) hs
theorem Mc:IxR X rIxS:=by
 intro value slice pins s σ H x y v u Q I R Z h hs;refine Z0 fun G Y=>?_;obtain⟨z,i,c,rfl,rfl,hz,W,q⟩:=h;obtain⟨t,rfl⟩:=R;obtain⟨t',rfl⟩:=Z;obtain⟨j,h1,h2,M,O,U⟩:=xw W;refine Y ?_;have V:z.cps.toList.length=z.length:=by simp[Str.length]
 rw[V]at h1 O U;have J:=uE;exact tail_any (Md s z t) slot_str_getitem.lookup (getItem_str (by
  rw[(decide_eq_false (by lia)),(decide_eq_false (by lia)),Bool.or_false]) (by rw[h1];simpa using h2) {.str {#[c]},H,I.tok _,{_,Z9},q}) hs
theorem Av(Z:List aj)(n j:Nat)(u:aj):dQ (·.setIfInBounds j u) {cls:=.type "list",data:=.seq Z.toArray n}={cls:=.type "list",data:=.seq (Z.set j u).toArray n}:=by
 simp[dQ]
theorem Inv.lst{pins:List (ae×Obj)}{σ:St}{H:Hp}{s:aw}{p:ae}{xs:List V}(I:Inv X pins σ H s)(h:H p=Z8 (.lst xs)) :
  ∃(Z:List aj) (n:Nat),dv xs Z/\s.heap.get? p=Z8 {cls:=.type "list",data:=.seq Z.toArray n}/\xs.length<=aG:=by
 obtain⟨z,Z,n,r,e⟩:=I.hok p _ h;exact⟨Z,n,r,e,z⟩
theorem Inv.lstUpd{pins:List (ae×Obj)}{σ:St}{H:Hp}{s:aw}{p:ae}{xs ys:List V}{Z its':List aj}{n Y:Nat}{f:Obj->Obj}(I:Inv X pins σ H s)(h:H p=Z8 (.lst xs))
  (U:s.heap.get? p=Z8 {cls:=.type "list",data:=.seq Z.toArray n}) (W:f {cls:=.type "list",data:=.seq Z.toArray n}={cls:=.type "list",data:=.seq its'.toArray Y}) (r:dv ys its') (hz:ys.length<=aG) (t:Nat) :
  Inv X pins σ (upd H p (.lst ys)) {s with heap:=s.heap.update p f,toks:=t}:=by
 have e:(s.heap.update p f).get? p=Z8 {cls:=.type "list",data:=.seq its'.toArray Y}:=by
  rw[iQ f U (by rw[W]<;>rfl),W]
 refine I.write (by rw[h];trivial) (.inl rfl) (fun b u hb q=>(cN _ _ (dB hb)).trans q) {_,e} ?_;exact⟨hz,its',Y,r,e⟩
def rSetL:V->V->V->Hp->(Hp->Prop)->Prop:=fun o i v H Q=>∃p xs k j,o=.ref p/\i=.int k/\H p=Z8 (.lst xs)/\ixN xs.length k=Z8 j/\Q (upd H p (.lst (xs.set j v)))
theorem lN:PSet X rSetL:=by
 intro pins s σ H o i v f z u Q I B E D h;refine Z0 fun Gz G=>?_;obtain⟨p,xs,k,j,rfl,rfl,hp,J,q⟩:=h;subst B;obtain⟨t,rfl⟩:=E;obtain⟨Z,n,r,V,hz⟩:=I.lst hp;obtain⟨h1,h2,U,O⟩:=tZ J;refine G ?_;have Y:=r.length;have g:=uE;have R:=I.lstUpd hp V (Av Z n j u) (r.set D j) (by rw[IE];exact hz) s.toks
 by_cases M:0<=k
 ·have hk:k.toNat=j:=by
   rw[IC M O]at h1;exact dy h1
  exact PySem.W.ki_setAt V M (by lia) (by rw[aJ,<- Y];exact O) (hk ▸ {_,R,q})
 ·have hk:(k+(Z.toArray.size:Int)).toNat=j:=by
   rw[ES (by lia) U]at h1;rw[aJ,<- Y];exact dy h1
  exact PySem.W.ki_setBack V (by lia) (by rw[aJ,<- Y];exact U) (by lia) (hk ▸ {_,R,q})
theorem xx(lo hi:Option Int)(n:Nat):(mm lo hi Z7 n).1=((HT.sIx n 0 lo:Nat):Int)/\(mm lo hi Z7 n).2.1=((HT.sIx n n hi:Nat):Int)/\(mm lo hi Z7 n).2.2=1:=by
 refine{?_,?_,Z9}
 ·cases lo with
  |none=>simp[mm,HT.sIx]
  |some i=>
   simp only[mm,HT.sIx,Ef,show (1:Int)>0 by decide,if_true]
   by_cases h:i<0
   ·simp only[h,if_true]<;>lia
   ·simp only[h,if_false]<;>lia
 ·cases hi with
  |none=>simp[mm,HT.sIx]
  |some i=>
   simp only[mm,HT.sIx,Ef,show (1:Int)>0 by decide,if_true]
   by_cases h:i<0
   ·simp only[h,if_true]<;>lia
   ·simp only[h,if_false]<;>lia
theorem vI(Z:List aj)(lo hi:Option Int):slicePick Z.toArray lo hi Z7=((Z.drop (HT.sIx Z.length 0 lo)).take (HT.sIx Z.length Z.length hi-HT.sIx Z.length 0 lo)).toArray:=by
 obtain⟨h1,h2,Y⟩:=xx lo hi Z.toArray.size;unfold slicePick;rw[h1,h2,Y];simp only[sliceRange_one,pick_run]<;>rfl
inductive SlLI(K:af)(x:V)(lo hi:Option Int)(H:Hp)(Q:VK):Prop where
 |mk(a:ae)(xs:List V)(hx:x=.ref a)(s:SqL K H a xs)(q:∀p,H p=Z7->Q (.ref p) (upd H p (.lst (qR xs lo hi)))):SlLI K x lo hi H Q
def rSlL(K:af):V->Option Int->Option Int->Hp->VK->Prop:=fun x lo hi H Q=>SlLI K x lo hi H Q
theorem t7:SlR X (rSlL X.K):=by
 intro pins s σ H x v M R lo hi sl Q I V hs pl U h;obtain⟨a,xs,rfl,hx,q⟩:=h;subst V;obtain⟨W,r,Y,hz⟩:=I.list hx;have Z:=r.length;refine{"list",_,vH.lookup,Y.isList.typeIs,CJ Y.isList hs pl U .none (by simp) ?_ (by rw[aJ]<;>lia)};rw[vI,<- Z];refine{.ref s.heap.objs.size,_,I.laid (t':=s.toks) (fun b O q=>aK _ q) (aF _) ?_,Z9,q _ (I.hok.fresh (aF _))};exact{cR (tf xs lo hi) hz,_,0,(r.drop (HT.sIx xs.length 0 lo)).take (HT.sIx xs.length xs.length hi-HT.sIx xs.length 0 lo),cA _ rfl}
def rD:V->Bool
 |.non=>true
 |.bl _=>true
 |.int _=>true
 |.str _=>true
 |_=>false
def eqV:V->V->Bool
 |.non,.non=>true
 |.bl a,.bl b=>a==b
 |.bl a,.int b=>(if a then 1 else 0)==b
 |.int a,.bl b=>a==(if b then 1 else 0)
 |.int a,.int b=>a==b
 |.str a,.str b=>a==b
 |_,_=>false
theorem Me{A:b8}{s:aw}{y x:V}{u v:aj}(W:RelV y u)(Z:RelV x v)(U:rD y=true)(Y:rD x=true):rC A s u v (eqV y x):=by
 cases y with
 |non=>
  cases W
  cases x with
  |non=>cases Z;exact Aw _
  |bl b=>cases Z;exact SeqAt.EqAt.none_bool b
  |int b=>obtain⟨t,rfl⟩:=Z;exact SeqAt.EqAt.none_int b t
  |str b=>obtain⟨t,rfl⟩:=Z;exact SeqAt.EqAt.none_str b t
  |_=>exact absurd (Y) bZ
 |bl a=>
  subst W
  cases x with
  |non=>cases Z;exact SeqAt.EqAt.bool_none a
  |bl b=>cases Z;exact SeqAt.EqAt.bool_bool a b
  |int b=>obtain⟨t,rfl⟩:=Z;exact SeqAt.EqAt.bool_int a b t
  |str b=>obtain⟨t,rfl⟩:=Z;exact SeqAt.EqAt.bool_str a b t
  |_=>exact absurd (Y) bZ
 |int a=>
  obtain⟨t',rfl⟩:=W
  cases x with
  |non=>cases Z;exact SeqAt.EqAt.int_none a t'
  |bl b=>cases Z;exact SeqAt.EqAt.int_bool a t' b
  |int b=>obtain⟨t,rfl⟩:=Z;exact kQ a t' b t
  |str b=>obtain⟨t,rfl⟩:=Z;exact yD a t' b t
  |_=>exact absurd (Y) bZ
 |str a=>
  obtain⟨t',rfl⟩:=W
  cases x with
  |non=>cases Z;exact SeqAt.EqAt.str_none a t'
  |bl b=>cases Z;exact SeqAt.EqAt.str_bool a t' b
  |int b=>obtain⟨t,rfl⟩:=Z;exact yE a t' b t
  |str b=>obtain⟨t,rfl⟩:=Z;exact SeqAt.EqAt.str_str a t' b t
  |_=>exact absurd (Y) bZ
 |_=>exact absurd (U) bZ
def eqU(x:V)(u:aj):Bool:=match u with
 |.none=>eqV .non x
 |.bool b=>eqV (.bl b) x
 |.int i _=>eqV (.int i) x
 |.str z _=>eqV (.str z) x
 |_=>false
theorem EU{x y:V}{u:aj}(r:RelV y u)(f:rD y=true):eqU x u=eqV y x:=by
 cases y with
 |non=>cases r;rfl
 |bl b=>cases r;rfl
 |int i=>obtain⟨t,rfl⟩:=r;rfl
 |str z=>obtain⟨t,rfl⟩:=r;rfl
 |_=>exact absurd (f) bZ
theorem xy{x:V}:∀{xs:List V} {Z:List aj},dv xs Z->xs.all rD=true->Z.any (eqU x)=xs.any fun y=>eqV y x
 |_,_,.nil,_=>rfl
 |y::xs,u::Z,.cons r t,f=>by
  rw[yJ,gL]at f;rw[kO,kO,EU r f.1,xy t f.2]
theorem uJ{A:b8}{s:aw}{x:V}{v:aj}(W:RelV x v)(Y:rD x=true):∀{xs:List V} {Z:List aj},dv xs Z->xs.all rD=true->∀u∈Z,rC A s u v (eqU x u)
 |_,_,.nil,_=>fun u hu=>by cases hu
 |y::xs,u::Z,.cons r t,f=>fun U hu=>by
  rw[yJ,gL]at f
  rcases aE.mp hu with rfl|hu
  ·rw[EU r f.1];exact Me r W f.1 Y
  ·exact uJ W Y t f.2 U hu
def inV(x:V)(xs:List V):Bool:=xs.any fun y=>eqV y x
def rIn(K:af)(Z:Bool):R2:=fun x y H Q=>∃p xs,y=.ref p/\(SqL K H p xs\/SqT K H p xs)/\rD x=true/\xs.all rD=true/\Q (.bl (if Z then !inV x xs else inV x xs)) H
theorem wD:OpR X (eE .In) (rIn X.K false):=by
 intro pins s σ H x y v u Q I W V h;obtain⟨p,xs,rfl,hq,Y,fs,q⟩:=h;subst V
 rcases hq with hq|hq
 ·obtain⟨Z,r,pl,hz⟩:=I.list hq;refine SeqAt.in_listAt (eqU x) pl.isList (fun w hw=>uJ W Y r fs w (by simpa using hw)) {.bl _,H,I,Z9,?_};rw[show Z.toArray.any (eqU x)=Z.any (eqU x) by simp,xy r fs];exact q
 ·obtain⟨Z,r,pl,hz⟩:=I.tuple hq;refine SeqAt.in_tupleAt (eqU x) pl (fun w hw=>uJ W Y r fs w (by simpa using hw)) {.bl _,H,I,Z9,?_};rw[show Z.toArray.any (eqU x)=Z.any (eqU x) by simp,xy r fs];exact q
theorem gX:lG X (.builtin "len") (fun xs H Q=>∃p ys,xs=[.ref p]/\(SqL X.K H p ys\/SqT X.K H p ys)/\Q (.int ys.length) H):=by
 intro pins s σ H xs U Q I r h;obtain⟨p,ys,rfl,hq,q⟩:=h;obtain⟨u,rfl,V⟩:=vals1 r;subst V;have R:=uE
 rcases hq with hq|hq
 ·obtain⟨W,Y,pl,hz⟩:=I.list hq;have Z:=Y.length;exact Calls.call_len_list pl.isList (by simp only[aJ]<;>lia) {.int ys.length,H,I.tok _,{s.toks+1,by rw[aJ,Z]},q}
 ·obtain⟨W,Y,pl,hz⟩:=I.tuple hq;have Z:=Y.length;exact len_tuple pl (by simp only[aJ]<;>lia) {.int ys.length,H,I.tok _,{s.toks+1,by rw[aJ,Z]},q}
theorem lB:lG X (.type "list") (fun xs H Q=>∃p ys,xs=[.ref p]/\(SqL X.K H p ys\/SqT X.K H p ys)/\∀l,H l=Z7->Q (.ref l) (upd H l (.lst ys))):=by
 intro pins s σ H xs M Q I r h;obtain⟨p,ys,rfl,hq,q⟩:=h;obtain⟨u,rfl,O⟩:=vals1 r;subst O;have fin:∀Z,dv ys Z->ys.length<=aG->∀h' (W:Nat),(∀b o',s.heap.get? b=Z8 o'->h'.get? b=Z8 o') ->
   h'.get? s.heap.objs.size=Z8 {cls:=.type "list",dict:=Z7,data:=.seq Z.toArray W,slots:=#[]}->EP X pins σ Q (.ref s.heap.objs.size) {s with heap:=h'}:=fun Z Y hz h' W kp e=>
  {.ref s.heap.objs.size,_,I.laid (t':=s.toks) kp (aF _) (show hV X.prog X.w _ h' _ (.lst ys) from⟨hz,Z,W,Y,e⟩),Z9,q _ (I.hok.fresh (aF _))}
 rcases hq with hq|hq
 ·obtain⟨Z,Y,pl,hz⟩:=I.list hq;have V:=Y.length;obtain⟨o,U,hc,n,R⟩:=pl.isList;exact call_list_seq p (.inl rfl) U hc R (fun h' W kp e=>fin Z Y hz h' W kp e) (by simp<;>omega)
 ·obtain⟨Z,Y,pl,hz⟩:=I.tuple hq;have V:=Y.length;obtain⟨o,U,hc,n,R⟩:=pl;exact call_list_seq p (.inr rfl) U hc R (fun h' W kp e=>fin Z Y hz h' W kp e) (by simp<;>omega)
theorem vJ:lG X (.type "tuple") (fun xs H Q=>∃p ys,xs=[.ref p]/\((SqL X.K H p ys/\∀l,H l=Z7->Q (.ref l) (upd H l (.tup ys)))\/(SqT X.K H p ys/\Q (.ref p) H))):=by
 intro pins s σ H xs R Q I r h;obtain⟨p,ys,rfl,h⟩:=h;obtain⟨u,rfl,U⟩:=vals1 r;subst U
 rcases h with⟨hq,q⟩|⟨hq,q⟩
 ·obtain⟨Z,Y,pl,hz⟩:=I.list hq;have W:=Y.length;refine call_tuple_list pl.isList (fun h' kp=>?_) (by simp<;>omega);have V:=I.kept (t':=s.toks) kp;exact{.ref h'.objs.size,_,(V.laid (t':=s.toks) (fun b o e=>aK _ e) (aF _) (show hV X.prog X.w _ _ _ (.tup ys) from{hz,Z,Y,IsTup.new _ _})),Z9,q _ (V.hok.fresh (aF _))}
 ·obtain⟨Z,Y,pl,hz⟩:=I.tuple hq;exact call_tuple_same pl {.ref p,H,I,Z9,q}
def tyV(K:af)(T:String)(x:V)(H:Hp):Prop:=match x with
 |.str _=>T="str"
 |.int _=>T="int"
 |.ref p=>(T="list"/\∃xs,SqL K H p xs)\/(T="tuple"/\∃o,K.lookup p=Z8 o/\o.cls=.type "tuple"/\o.dict=Z7) \/
   (T="dict"/\((∃kvs,H p=Z8 (.dK kvs))\/∃kvs,H p=Z8 (.dT kvs)))\/(T="set"/\∃S n,H p=Z8 (.set S n))
 |_=>False
theorem EV{pins:List (ae×Obj)}{σ:St}{H:Hp}{s:aw}{T:String}{x:V}{v:aj}(I:Inv X pins σ H s)(r:RelV x v)(ty:tyV X.K T x H) :
  s.TypeIs v T/\∀a,v=.ref a->∃W,s.heap.get? a=Z8 W/\W.dict=Z7:=by
 cases x with
 |str z=>
  obtain⟨t,rfl⟩:=r
  cases (ty);exact{Md s z t,fun _ e=>nomatch e}
 |int i=>
  obtain⟨t,rfl⟩:=r
  cases (ty);exact{typeIs_int s i t,fun _ e=>nomatch e}
 |ref p=>
  subst r
  rcases ty with⟨rfl,xs,hq⟩|⟨rfl,o,hk,hc,Y⟩|⟨rfl,hk⟩|⟨rfl,S,n,hk⟩
  ·obtain⟨U,_,pl,_⟩:=I.list hq;refine{pl.isList.typeIs,fun a e=>?_};injection e with e;subst e;obtain⟨o,n,e,c,Y,_⟩:=pl;exact⟨o,e,Y⟩
  ·refine{{o,I.kIn p o hk,hc},fun a e=>?_}
   cases e;exact{o,I.kIn _ o hk,Y}
  ·have z:∃o,s.heap.get? p=Z8 o/\o.ExactDict:=by
    rcases hk with⟨kvs,hk⟩|⟨kvs,hk⟩
    ·obtain⟨_,_,_,_,o,_,_,e,ex,_⟩:=I.hok p _ hk;exact⟨o,e,ex⟩
    ·obtain⟨_,_,_,_,o,_,_,e,ex,_⟩:=I.hok p _ hk;exact⟨o,e,ex⟩
   obtain⟨o,e,ex⟩:=z;refine{⟨o,e,ex.1⟩,fun a Z=>?_}
   cases Z;exact⟨o,e,ex.2.1⟩
  ·obtain⟨o,_,_,_,e,ex,_⟩:=I.hok p _ hk;refine{⟨o,e,ex.1⟩,fun a Z=>?_};injection Z with Z;subst Z;exact⟨o,e,ex.2.1⟩
 |_=>exact df ty
def tBM0(K:af)(T:String)(r:V->List V->Hp->VK->Prop)(to:TE):TE:=fun σ H Q=>to σ H fun x H1=>tyV K T x H1/\r x [] H1 Q
def tBM(K:af)(T:String)(r:V->List V->Hp->VK->Prop)(to:TE)(t:TA):TE:=fun σ H Q=>to σ H fun x H1=>tyV K T x H1/\t σ H1 fun xs H2=>r x xs H2 Q
variable{o e:c8}{es:List c8}{to:TE}{t:TA}{name:Str}{apos cpos:Pos}{T id:String}{r:V->List V->Hp->VK->Prop}
theorem sF(E:PlainAttrs T)(slot:Slot T name id)(W:typeOf (.builtin id)=pure (.type "method_descriptor"))(M:MtR X id r)(G:PE X o to)
  (Z:mj o name X.env (gc o X.env)=gc o X.env:=by rfl) (Y:(apos.endLine==cpos.line)=true:=by rfl):PE X (.Call (.Attribute o name apos) [] [] cpos) (tBM0 X.K T r to):=by
 intro pins s σ H Q I h;refine Eg Z Y (thn (G pins s σ H _ I h) fun v R J=>?_);obtain⟨x,H1,U,V,ty,O⟩:=J;obtain⟨h1,h2⟩:=EV U V ty;exact{T,id,E,slot,W,h1,h2,oY rfl (Bp (M pins R σ H1 x [] v [] Q U V .nil O))}
theorem ia(pa:PlainAttrs T)(slot:Slot T name id)(U:typeOf (.builtin id)=pure (.type "method_descriptor"))(B:MtR X id r)(ho:PE X o to)(ha:PA X (e::es) t)
  (Y:mj o name X.env (gc o X.env)=gc o X.env:=by rfl)
  (V:((jk cpos (cO (e::es) X.env)).all (fun x=>!x.1)&&(oq cpos (jC [] X.env)).all (fun x=>x.1.isSome)
  &&decide ((e::es).length+([]:List Od).length+(if ([]:List Od).isEmpty then 0 else 1)<30))=true:=by rfl)
  (W:(apos.endLine==cpos.line)=true:=by rfl) (hs:cO (e::es) X.env=(false,gc e X.env)::cO es X.env:=by rfl) (Z:(jk cpos (cO es X.env)).any (·.1)=false:=by rfl) :
  PE X (.Call (.Attribute o name apos) (e::es) [] cpos) (tBM X.K T r to t):=by
 intro pins s σ H Q I h;refine wpAny_Call_method_late Y V W rfl (thn (ho pins s σ H _ I h) fun v J g=>?_);obtain⟨x,H1,O,R,ty,D⟩:=g;obtain⟨h1,h2⟩:=EV O R ty;refine{T,id,pa,slot,U,h1,h2,?_};have M:=ha cpos pins J σ H1 _ O D;rw[hs]at M |-;exact oY (by show (false||(jk cpos (cO es X.env)).any (·.1))=false;rw[Z]<;>rfl) (Ax (thn M fun z s2 ⟨vs,H2,E,f,G⟩=>B pins s2 σ H2 x vs v z Q E R f G))
end
def MtM(X:Cx)(id:String)(r:V->List V->Hp->VK->Prop):Prop:=
 ∀(pins:List (ae×Obj)) (s:aw) (σ:St) (H:Hp) (x:V) (xs:List V) (v:aj) (Z:List aj) (Q:VK),Inv X pins σ H s->RelV x v->dv xs Z->r x xs H Q ->
  bQ (bR X.prog X.w) X.A (vD (.builtin id) (v::Z)) (EP X pins σ Q) X.xe s
theorem dv.one:∀{x:V} {Z:List aj},dv [x] Z->∃u,Z=[u]/\RelV x u
 |_,_,r=>vals1 r
theorem dv.two:∀{x y:V} {Z:List aj},dv [x,y] Z->∃u v,Z=[u,v]/\RelV x u/\RelV y v
 |_,_,_,r=>vals2 r
theorem dv.zero:∀{Z:List aj},dv [] Z->Z=[]
 |_,.nil=>rfl
theorem dv.dropLast{xs:List V}{Z:List aj}(h:dv xs Z):dv xs.dropLast Z.dropLast:=by
 induction h with
 |nil=>exact .nil
 |cons r t Y=>
  cases t with
  |nil=>exact .nil
  |cons q t'=>exact .cons r Y
theorem dv.eraseIdx:∀{xs:List V} {Z:List aj} (i:Nat),dv xs Z->dv (xs.eraseIdx i) (Z.eraseIdx i)
 |_,_,_,.nil=>.nil
 |_,_,0,.cons _ t=>t
 |_,_,i+1,.cons r t=>.cons r (dv.eraseIdx i t)
theorem dv.reverse{xs:List V}{Z:List aj}(h:dv xs Z):dv xs.reverse Z.reverse:=by
 induction h with
 |nil=>exact .nil
 |cons r t Y=>rw[jW,jW];exact dv.append Y (.cons r .nil)
theorem wF{Z:Type}:∀(l:List Z) (i:Nat),(l.eraseIdx i).length<=l.length
 | [],_=>aF _
 |_::_,0=>e9 _
 |_::r,i+1=>Nat.succ_le_succ (wF r i)
section
variable{X:Cx}{pins:List (ae×Obj)}{σ:St}{H:Hp}{s:aw}{l b:ae}{xs ys zs:List V}
theorem Inv.lset{Z its':List aj}{n:Nat}{f:Array aj->Array aj}{t':Nat}(I:Inv X pins σ H s)(W:H l=Z8 (.lst xs))
  (e:s.heap.get? l=Z8 {cls:=.type "list",data:=.seq Z.toArray n}) (Y:f Z.toArray=its'.toArray) (V:dv ys its') (hz:ys.length<=aG) :
  Inv X pins σ (upd H l (.lst ys)) {s with heap:=s.heap.update l (dQ f),toks:=t'}:=by
 have q:=PySem.IsL.update e f;rw[Y]at q;refine I.write (W ▸ trivial) (.inl rfl) (fun U u hb hu=>(cN s.heap (dQ f) (dB hb)).trans hu) {_,q} ?_;exact{hz,its',_,V,q}
theorem Inv.lnew{Z:List aj}{t':Nat}(I:Inv X pins σ H s)(Y:dv ys Z)(hz:ys.length<=aG) :
  Inv X pins σ (upd H s.heap.objs.size (.lst ys)) {s with heap:=s.heap.push {cls:=.type "list",data:=.seq Z.toArray},toks:=t'}:=
 I.laid (fun _ _ q=>aK _ q) (aF _) {hz,Z,0,Y,cA _ rfl}
theorem Inv.fresh(I:Inv X pins σ H s):H s.heap.objs.size=Z7:=I.hok.fresh (aF _)
theorem Inv.lstM(I:Inv X pins σ H s)(Y:H l=Z8 (.lst xs)):xs.length<=aG/\∃(Z:List aj) (n:Nat),dv xs Z/\xs.length=Z.length/\s.heap.get? l=Z8 {cls:=.type "list",data:=.seq Z.toArray n}:=by
 obtain⟨z,Z,n,r,e⟩:=I.hok l _ Y;exact⟨z,Z,n,r,r.length,e⟩
end
section
variable{X:Cx}
inductive AppI(x:V)(vs:List V)(H:Hp)(Q:VK):Prop where
 |mk(l:ae)(xs:List V)(y:V)(hx:x=.ref l)(hv:vs=[y])(h:H l=Z8 (.lst xs))(n:xs.length<aG)(q:Q .non (upd H l (.lst (xs++[y])))):AppI x vs H Q
def IF:V->List V->Hp->VK->Prop:=fun x vs H Q=>AppI x vs H Q
theorem dI:MtM X "list.append" IF:=by
 intro pins s σ H x vs v R Q I V U h;obtain⟨l,xs,y,rfl,rfl,Y,hz,q⟩:=h;subst V;obtain⟨u,rfl,W⟩:=U.one;obtain⟨z,Z,n,r,O,e⟩:=I.lstM Y;refine oz F.slot_list_append {_,e,Z9} F.entry_list_append (F.args_list_append_2 _ _) (PySem.list_append l Z.toArray n u (by rw[aJ];lia)) {e,{.non,_,I.lset (its':=Z++[u]) Y e (by simp) (r.append (.cons W .nil)) ?_,Z9,q}};rw[aB,Ay]
 lia
def rPop:V->List V->Hp->VK->Prop:=fun x vs H Q=>∃l xs y,x=.ref l/\vs=[]/\H l=Z8 (.lst xs)/\xs[xs.length-1]?=Z8 y/\Q y (upd H l (.lst xs.dropLast))
theorem EW:MtM X "list.pop" rPop:=by
 intro pins s σ H x vs v M Q I R O h;refine Z0 fun G V=>?_;obtain⟨l,xs,y,rfl,rfl,W,hy,q⟩:=h;subst R;have Y:=O.zero;subst Y;obtain⟨z,Z,n,r,J,e⟩:=I.lstM W;obtain⟨u,hu,U⟩:=r.get hy;refine V (oz F.slot_list_pop {_,e,Z9} F.entry_list_pop (F.args_list_pop_1 _) (MeetsSeq.list_pop_last l Z.toArray n u (by simp_all) (by rw[aJ];lia)) {e,{y,_,I.lset (its':=Z.dropLast) W e ?_ r.dropLast ?_,U,q}})
 ·simp_all
 ·rw[kR]
  lia
def Mf:V->List V->Hp->VK->Prop:=fun x vs H Q=>∃l xs i k y,x=.ref l/\vs=[.int i]/\H l=Z8 (.lst xs)/\-(2^63)<=i/\i<2^63/\seqIndex? i xs.length=Z8 k/\xs[k]?=Z8 y/\Q y (upd H l (.lst (xs.eraseIdx k)))
theorem yW:MtM X "list.pop" Mf:=by
 intro pins s σ H x vs v J Q I O M h;refine Z0 fun G V=>?_;obtain⟨l,xs,i,k,y,rfl,rfl,W,h1,h2,hk,hy,q⟩:=h;subst O;obtain⟨u,rfl,U⟩:=M.one;obtain⟨t,rfl⟩:=U;obtain⟨z,Z,n,r,R,e⟩:=I.lstM W;obtain⟨w,hw,Y⟩:=r.get hy;refine V (oz F.slot_list_pop {_,e,Z9} F.entry_list_pop (F.args_list_pop_2 _ _)
  (MeetsSeq.list_pop_at l Z.toArray n i t k w (fitsIndex_both h1 h2) (by rw[aJ,<- R];exact hk) (by rw[<- Array.getElem?_toList];exact hw) (by rw[aJ];lia)) {e,?_})
 refine{y,_,I.lset (its':=Z.eraseIdx k) W e ?_ (r.eraseIdx k) ?_,Y,q}
 ·simp_all
 ·have:=wF xs k
  lia
inductive CatI(x y:V)(H:Hp)(Q:VK):Prop where
 |mk(l b:ae)(xs zs:List V)(hx:x=.ref l)(hy:y=.ref b)(h:H l=Z8 (.lst xs))(g:H b=Z8 (.lst zs))(n:xs.length+zs.length<=aG)(q:∀p,H p=Z7->Q (.ref p) (upd H p (.lst (xs++zs)))):CatI x y H Q
def rCat:R2:=fun x y H Q=>CatI x y H Q
theorem xA:OpR X (iK .Add) rCat:=by
 intro pins s σ H x y v u Q I O W h;refine Z0 fun g U=>?_;obtain⟨l,b,xs,zs,rfl,rfl,E,G,hz,q⟩:=h;subst O;subst W;obtain⟨z,Y,n,r,D,e⟩:=I.lstM E;obtain⟨B,Z,t,M,V,R⟩:=I.lstM G;refine U (PySem.P.add_list e R ?_ (by rw[aJ,aJ];lia));have J:Y.toArray++Z.toArray=(Y++Z).toArray:=by simp
 rw[J];exact{.ref _,_,I.lnew (t':=s.toks) (r.append M) (by rw[aB];lia),Z9,q _ I.fresh}
end
section
variable{prog:aQ}{w:bU}{A:b8}{E:aj->aw->Prop}{s:aw}
end
section
variable{X:Cx}
end
end L2
namespace Att
open PySem PySem.W PySem.Calls PyProof.Rows
theorem ints_of_wellAll{P:Params}{h:cG}:∀(ns:List Int) (vs:List aj),WellAll P h vs (ns.map WData.int)->gp vs ns:=by
 intro ns
 induction ns with
 |nil=>
  intro vs w
  cases w;exact .nil
 |cons n ns Z=>
  intro vs w
  cases w with
  |cons a b=>
   cases a;exact .cons _ _ (Z _ b)
theorem script_of{l:OpenLaw}{n:Nat}(I:l.most=Z8 n){P:Params}{h:cG}{args:List WData}{Z:List aj}
  (Y:l.row.toRowW.claim.pre args=true) (O:WellAll P h Z args) :
  ∃a vs ns,Z=[Value.ref a]/\args=[WData.list (ns.map WData.int)]/\h.get? a=Z8 {cls:=.type "list",data:=.seq vs.toArray}/\gp vs ns/\ns.length<=n:=by
 obtain⟨d,r,rfl,h1,h2⟩:=hasAllW_cons ((pre_splitW Y).1);obtain rfl:=hasAllW_nil h2;obtain⟨xs,rfl,J⟩:=hasW_list h1;obtain⟨ns,rfl⟩:=items_int J;have W:ns.length<=n:=by
  have R:(WTm.not (.lt (.lit (.int (n:Int))) (.len (.arg 0)))).holds [] {args:=[.list (ns.map .int)]}=true:=by
   have R:=(holds_andW ((pre_splitW Y).2)).1;rw[I]at R;exact R
  have U:=condW_of R (w_not (w_lt w_lit (w_len_list (w_arg rfl))));rw[ai]at U;refine Nat.le_of_not_lt fun q=>?_
  first
   |(rw[decide_eq_true q']at U;exact absurd U (by decide))
   |(simp at U;lia)
 cases O with
 |cons E M=>
  cases M
  cases E with
  |list G V=>exact{_,_,ns,Z9,Z9,G,ints_of_wellAll ns _ V,W}
theorem post_true(l:OpenLaw)(args:List WData):l.row.toRowW.claim.post args (.bool true) args=true:=
 postW_of
  (show WShape.has [] (.bool true) .bool=true by first|rfl|decide|simp[WShape.armsAll])
  (w_eq_bool (w_res rfl) w_lit) rfl
section
variable{prog:aQ}{w:bU}{A:b8}{E:aj->aw->Prop}{s:aw}{K:Frag}
end
end Att
namespace L2
open PySem PySem.Spec PyProof.Rows
theorem wG:∀{vs:List aj} {ns:List Int},gp vs ns->dv (ns.map V.int) vs
 |_,_,.nil=>.nil
 |_,_,.cons n t h=>.cons ⟨t,Z9⟩ (wG h)
def Only(H:Hp):Prop:=∀b,H b=Z7\/∃o xs,H b=Z8 (.frz o (.lst xs))
theorem EX{P:aQ}{w:bU}{K:af}{mg g:Str->Option aj}{CX:CXT}{k:Nat}{t a:ae}{fd:cm}{x:Str}{sp:Sp}{Z:aw}{vs:List aj}{ns:List Int}
  (KX:K.In Z.heap) (E:Z.heap.Ns cv mg) (hb:Z.heap.Ns LQ g) (cc:∀x:Str,x≠"__name__"->g x=eB x) (O:Z.heap.NoLimit) (hg:Z.gens=#[])
  (ha:Z.heap.get? a=Z8 {cls:=.type "list",data:=.seq vs.toArray}) (hi:gp vs ns) (hl:ns.length<=aG) (hr:e8 k z9)
  (F:∀base:cG,K.In base->base.Ns cv mg->cg P w K mg base CX k t fd [x] sp) (R:∀(s:aw) (u:aj),sZ s fd {[u],[]} [(x,u)])
  (f:∀H:Hp,Only H->SqL K H a (ns.map V.int)->sp [.ref a] H (fun v _=>v=.bl true) fun _ _ _=>False)
  (cb:∀H e s',CX [] H Z (fun _ _ _=>False) e s'->False) :
  mi (bR P w) z9 (.call (.ref t) {[.ref a],[]}) (fun r s'=>r=.ok (.ret (.bool true))/\OldK Z.heap s'.heap/\s'.os=Z.os/\o6 s'.gens) Z:=by
 have rv:=wG hi;have U:∀H:Hp,Only H->SqL K H a (ns.map V.int)->HOk P w H Z.heap->(∀b,H b≠Z7->b=a)->(H a≠Z7->K.lookup a=Z7) ->
   mi (bR P w) z9 (.call (.ref t) {[.ref a],[]}) (fun r s'=>r=.ok (.ret (.bool true))/\OldK Z.heap s'.heap/\s'.os=Z.os/\o6 s'.gens) Z:=by
  intro H hO hS J hA hK;have Y:∀{b:ae} {o:Obj},Z.heap.get? b=Z8 o->H b=Z7->(Cs Z.heap H).get? b=Z8 o:=fun e n=>Eo e n;have ca:∀{b:ae} {o:Obj} {es:Array DictEntry} {B:Nat},Z.heap.get? b=Z8 o->o.data=.dict es B->H b=Z7:=fun {b o es B} e d=>by
   cases q:H b with
   |none=>rfl
   |some u=>
    have e':=hA b (by rw[q];simp);subst e';rw[ha]at e;cases e
    cases (d)
  have W:∀{b:ae} {m:Str->Option aj},Z.heap.Ns b m->(Cs Z.heap H).Ns b m:=fun {b m} ⟨o,es,B,e,d,r⟩=>{o,es,B,Y e (ca e d),d,r};have G:=fun b o e=>Y (KX b o e) (by
   cases q:H b with
   |none=>rfl
   |some u=>
    have e':=hA b (by rw[q];simp);subst e';rw[hK (by rw[q];simp)]at e;cases e)
  refine ng ((F _ G (W E)).run z9 [] Z H {[.ref a],[]} [.ref a] [.ref a] _ _ hr ({Z9,({G,W E,{g,W hb,cc},let ⟨mc,h1,h2⟩:=O;{mc,W h1,h2}}),fun b o e=>Ii e,Nat.le_of_eq (Ct _ _),trivial,fun b hb=>absurd (show b∈([]:List ae) from hb) (by simp),J,.of_eq hg}) (R Z (.ref a)) (.cons rfl .nil) (f H hO hS)) fun r s' h=>?_
  cases r with
  |error e=>exact (cb H e s' h).elim
  |ok fl=>
   cases fl with
   |next=>exact df h
   |brk=>exact df h
   |cont=>exact df h
   |ret u=>
    obtain⟨v,H',os,M,un,I,r',q⟩:=h;subst (q);obtain rfl:u=Value.bool true:=r';refine{Z9,OldK.of_keep fun b o e=>?_,os,M}
    cases q:H b with
    |none=>exact un.keep b o e q (by intro z;exact absurd (show b∈([]:List ae) from z) (by simp)) (by simp)
    |some u=>
     rcases hO b with z|⟨ob,xs,z⟩
     ·rw[q]at z;cases z
     ·have z2:=un.frzs b ob _ z;obtain⟨e1,_⟩:=J b _ z;obtain⟨e2,_⟩:=I b _ z2;rw[e]at e1;cases e1;exact e2
 cases hk:K.lookup a with
 |some o=>
  have e:=KX a o hk;rw[ha]at e;injection e with e;subst e;refine U (fun _=>Z7) (fun _=>.inl rfl) (.inr {_,vs.toArray,_,hk,Z9,Z9,Z9,by rw[aJ,(hi.length)];exact hl,by simpa using rv}) (fun b u z=>by have D:(Z7:Option HO)=Z8 u:=z;cases D) (fun b z=>absurd rfl z) fun z=>absurd rfl z
 |none=>
  refine U (fun b=>if b=a then Z8 (.frz {cls:=.type "list",data:=.seq vs.toArray} (.lst (ns.map V.int))) else Z7) (fun b=>?_) (.inl (.inr {{cls:=.type "list",data:=.seq vs.toArray},if_pos rfl})) (fun b u z=>?_) (fun b z=>?_) fun _=>hk
  ·by_cases hb:b=a
   ·exact .inr {_,_,if_pos hb}
   ·exact .inl (if_neg hb)
  ·by_cases hb:b=a
   ·have D:=(if_pos hb).symm.trans z;injection D with D;subst D;subst hb;exact{ha,by rw[ai];exact hl,vs,_,rv,ha}
   ·simp_all
  ·by_cases hb:b=a
   ·exact hb
   ·exact absurd (if_neg hb) z
def gN(s:c9)(j:Nat):c9:=match s with
 |.ClassDef _ _ _ Z _ _ _ _ _ _ _=>Z.getD j (.Pass {0,0,0,0})
 |_=>.Pass {0,0,0,0}
def lC(s:c9):Arguments:=match s with
 |.FunctionDef _ a _ _ _ _ _ _ _ _=>a
 |_=>{posonlyargs:=[],args:=[],vararg:=Z7,kwonlyargs:=[],kw_defaults:=[],kwarg:=Z7,defaults:=[]}
def jz(s:c9):List c9:=match s with
 |.FunctionDef _ _ b _ _ _ _ _ _ _=>b
 |_=>[]
def aT(s:c9):jS:=match s with
 |.FunctionDef _ _ _ _ _ _ sc _ _ _=>sc
 |_=>{kind:=.function,names:=[],isGenerator:=false,isCoroutine:=false}
abbrev CX0:CXT:=fun _ _ _ _ _ _=>False
abbrev E0:XK:=fun _ _ _=>False
theorem jM{X:Cx}:mX CX0 X E0:=fun _ _ _ _ _ _ _ h=>h.elim
structure Fun(K:af)(x qual:Str)(st:c9)(f:ae)(fd:cm):Prop where
 ex:∃(oc:aj) (od:Option ae) (kV doc pm:aj) (an:Option ae) (cdv ct:aj) (osl:Array (Option aj)),
  fd=fg x qual (lC st) (jz st) (aT st) .none kV doc pm an cdv ct/\K.lookup f=Z8 {oc,od,.func fd,osl}/\jL K cdv qual=true
 kp:gH K (.ref f)=true
section
variable{P:aQ}{w:bU}{K:af}{mg:Str->Option aj}{base:cG}
theorem Fun.ok{x Z:Str}{st:c9}{f:ae}{fd:cm}{N ps:List Str}{k:Nat}{sp:Sp}(F:Fun K x Z st f fd)(S:bX N ps (aT st))(len:∀vs H Q E,sp vs H Q E->vs.length=ps.length)
  (W:∀(Y:aj) (A:b8) (outer:List Env) (s:aw) (H:Hp) (vs:List V) (Q:VK) (E:XK),e8 k (A.deeper (sE Z (aT st) s.heap.objs.size f Y))->sp vs H Q E ->
   ∃t,PSs (sD CX0 P w K mg base N Z (aT st) f Y A outer s H E).nox (jz st) t/\t {nx:=fun _ H'=>Q .non H',rt:=Q} (start N vs) H):cg P w K mg base CX0 (k+1) f fd ps sp:=by
 obtain⟨D,od,kV,O,G,B,Y,ct,M,rfl,J,R⟩:=F.ex;refine KA J R S len fun A outer s H vs Q E I U=>?_;obtain⟨t,h,q⟩:=W Y A outer s H vs Q E I U;exact⟨t,h.nox,q⟩
theorem Fun.binds{x Z:Str}{st:c9}{f:ae}{fd:cm}{ps:List Str}(F:Fun K x Z st f fd)
  (h:∀(kV Y V:aj) (R:Option ae) (W ct:aj) (U:List aj),U.length=ps.length->An (fg x Z (lC st) (jz st) (aT st) .none kV Y V R W ct) {U,[]}=pure (ps.zip U)):Binds K fd ps []:=by
 obtain⟨J,od,kV,Y,V,R,W,ct,O,rfl,I,M⟩:=F.ex;exact .all (h kV Y V R W ct)
theorem EY{x Z:Str}{st:c9}{f:ae}{O:aj}{od R:Option ae}{V:Array (Option aj)}{kV W U Y ct:aj}(l:K.lookup f=Z8 {O,od,.func (fg x Z (lC st) (jz st) (aT st) .none kV W U R Y ct),V})
  (c:jL K Y Z=true) (k:gH K (.ref f)=true):Fun K x Z st f (fg x Z (lC st) (jz st) (aT st) .none kV W U R Y ct):={⟨O,od,kV,W,U,R,Y,ct,V,Z9,l,c⟩,k}
end
theorem kS{A:b8}{k:Nat}(Z:e8 k A):A.units+1<dY:=fY (gC (by decide:1<=64) _) Z.units
section
variable{X:Cx}
theorem pv(i:Nat){x:Str}{pos:Pos}(Y:X.N[i]?=Z8 x:=by rfl)(W:Vis X.env.scope x:=by first|exact Or.inl rfl|exact Or.inr (Or.inl rfl)|exact Or.inr (Or.inr rfl))(V:(x==("__debug__":Str))=false:=by decide)
  (Z:(x==("__classdict__":Str))=false:=by decide):PE X (.Name x pos) (qN i):=LR Y W V Z
end
theorem dP{A B:Prop}(h:B):if false=true then A else B:=by
 simp_all
theorem eM{A B:Prop}(h:A):if true=true then A else B:=h
theorem gr{c A B:Prop}[Decidable c](h1:c->A)(h2:¬c->B):if c then A else B:=by
 simp_all
def bN(H H':Hp):Prop:=∀b o,H b=Z8 o->H' b=Z8 o
theorem bN.refl(H:Hp):bN H H:=fun _ _ h=>h
theorem bN.trans{H H1 H2:Hp}(a:bN H H1)(b:bN H1 H2):bN H H2:=fun c o h=>b c o (a c o h)
theorem bN.free{H H':Hp}(e:bN H H'){l:ae}(h:H' l=Option.none):H l=Option.none:=by
 cases q:H l with
 |none=>rfl
 |some o=>
  rw[e l o q]at h
  cases h
section
variable{κ:Type}[DecidableEq κ]
def kP(kvs:List (κ×V))(k:κ):Option V:=(kvs.find? fun Z=>decide (Z.1=k)).map (·.2)
def jU(kvs:List (κ×V))(k:κ)(v:V):List (κ×V):=
 if (kvs.any fun Z=>decide (Z.1=k))=true then kvs.map (fun Z=>if Z.1=k then (Z.1,v) else Z) else kvs++[(k,v)]
theorem pG{p:κ×V}{r:List (κ×V)}{k:κ}(e:p.1=k):kP (p::r) k=Z8 p.2:=by simp[kP,e]
theorem pH{p:κ×V}{r:List (κ×V)}{k:κ}(e:¬p.1=k):kP (p::r) k=kP r k:=by simp[kP,e]
theorem kx(k:κ):∀kvs:List (κ×V),(kvs.any fun Z=>decide (Z.1=k))=(kP kvs k).isSome
 | []=>rfl
 |p::r=>by
  rw[kO]
  by_cases e:p.1=k
  ·simp only[pG e,decide_eq_true e,Bool.true_or,Option.isSome_some]
  ·rw[pH e,decide_eq_false e,Bool.false_or];exact kx k r
theorem pI(kvs:List (κ×V))(k:κ)(v:V):(jU kvs k v).length<=kvs.length+1:=by
 unfold jU
 split
 ·simp_all
 ·simp_all
theorem EZ{kvs:List (κ×V)}{k:κ}(v:V)(h:kP kvs k=Z7):jU kvs k v=kvs++[(k,v)]:=by
 unfold jU;rw[kx,h];exact if_neg (by decide)
theorem qA.isSome_eq{o:Option V}{u:Option aj}(r:qA o u):o.isSome=u.isSome:=by
 cases o with
 |none=>cases u with
  |none=>rfl
  |some _=>exact (r).elim
 |some _=>cases u with
  |none=>exact (r).elim
  |some _=>rfl
theorem KV.val{kvs:List (κ×V)}{vs:List (κ×aj)}(r:KV kvs vs)(k:κ):qA (kP kvs k) (nj vs k):=by
 induction r with
 |nil=>exact True.intro
 |@cons p q ps qs h t Y=>
  obtain⟨h1,h2⟩:=h
  by_cases e:p.1=k
  ·have Z:=h1.symm.trans e;have b:nj (q::qs) k=Z8 q.2:=by simp[nj,Z]
   rw[pG e,b];exact h2
  ·have Z:¬q.1=k:=fun z=>e (h1.trans z);have b:nj (q::qs) k=nj qs k:=by simp[nj,Z]
   rw[pH e,b];exact Y
theorem KV.any{kvs:List (κ×V)}{vs:List (κ×aj)}(r:KV kvs vs)(k:κ):(kvs.any fun Z=>decide (Z.1=k))=vs.any fun Z=>decide (Z.1=k):=by
 induction r with
 |nil=>rfl
 |cons h t Y=>rw[kO,kO,Y,h.1]
theorem KV.repl{kvs:List (κ×V)}{vs:List (κ×aj)}(r:KV kvs vs)(k:κ){y:V}{u:aj}(W:RelV y u) :
  KV (kvs.map fun Z=>if Z.1=k then (Z.1,y) else Z) (vs.map fun Z=>if Z.1=k then (Z.1,u) else Z):=by
 induction r with
 |nil=>exact .nil
 |@cons p q ps qs h t Y=>
  rw[cP,cP];refine .cons ?_ Y;obtain⟨h1,h2⟩:=h
  by_cases e:p.1=k
  ·rw[if_pos e,if_pos (h1.symm.trans e)];exact⟨h1,W⟩
  ·rw[if_neg e,if_neg (fun z=>e (h1.trans z))];exact⟨h1,h2⟩
theorem KV.put{kvs:List (κ×V)}{vs:List (κ×aj)}(r:KV kvs vs)(k:κ){y:V}{u:aj}(Z:RelV y u):KV (jU kvs k y) (xB vs k u):=by
 unfold jU xB;rw[r.any k]
 by_cases e:(vs.any fun Y=>decide (Y.1=k))=true
 ·rw[if_pos e,if_pos e];exact r.repl k Z
 ·rw[if_neg e,if_neg e];exact cS r ⟨Z9,Z⟩
theorem KV.length{kvs:List (κ×V)}{vs:List (κ×aj)}(r:KV kvs vs):kvs.length=vs.length:=aM r
end
theorem yX{P:aQ}{w:bU}{k:Key}{u:aj}(r:RelV (kV k) u):(fV P w).is k u=true:=by
 cases k with
 |inl i=>obtain⟨t,e⟩:=(r);subst e;exact yP P w i t
 |inr x=>obtain⟨t,e⟩:=(r);subst e;exact yQ P w x t
theorem wH{P:aQ}{w:bU}:∀{ks:List Key} {Z:List aj},dv (ks.map kV) Z->ItemsAre (fV P w) ks Z
 | [],_,r=>by rw[Of]at r;cases r;exact .nil
 |k::ks,_,r=>by
  rw[cP]at r
  cases r with
  |cons h t=>exact .cons (yX h) (wH t)
abbrev KT(H:Hp):List (List Key×V)->List (List Key×ae×aj)->Prop:=aO fun p q=>p.1=q.1/\H q.2.1=Z8 (.tup (p.1.map kV))/\RelV p.2 q.2.2
theorem KT.val{H:Hp}{kvs:List (List Key×V)}{xs:List (List Key×ae×aj)}(r:KT H kvs xs)(k:List Key):qA (kP kvs k) ((Eh xs k).map (·.2)):=by
 induction r with
 |nil=>exact True.intro
 |@cons p q ps qs h t Y=>
  obtain⟨h1,_,h2⟩:=h
  by_cases e:p.1=k
  ·have Z:=h1.symm.trans e;have b:Eh (q::qs) k=Z8 q.2:=by simp[Eh,Z]
   rw[pG e,b];exact h2
  ·have Z:¬q.1=k:=fun z=>e (h1.trans z);have b:Eh (q::qs) k=Eh qs k:=by simp[Eh,Z]
   rw[pH e,b];exact Y
theorem KT.repl{H:Hp}{kvs:List (List Key×V)}{xs:List (List Key×ae×aj)}(r:KT H kvs xs)(k:List Key){y:V}{u:aj}(U:RelV y u) :
  KT H (kvs.map fun Z=>if Z.1=k then (Z.1,y) else Z) (xs.map (putAt k u)):=by
 induction r with
 |nil=>exact .nil
 |@cons p q ps qs h t W=>
  rw[cP,cP];refine .cons ?_ W;obtain⟨h1,h2,Y⟩:=h;unfold putAt
  by_cases e:p.1=k
  ·rw[if_pos e,if_pos (h1.symm.trans e)];exact⟨h1,h2,U⟩
  ·rw[if_neg e,if_neg (fun z=>e (h1.trans z))];exact⟨h1,h2,Y⟩
theorem KT.put{H:Hp}{kvs:List (List Key×V)}{xs:List (List Key×ae×aj)}(r:KT H kvs xs)(k:List Key){b:ae}{y:V}{u:aj}(hb:H b=Z8 (.tup (k.map kV)))(Z:RelV y u) :
  KT H (jU kvs k y) (storedH xs k b u):=by
 have e:(kvs.any fun Y=>decide (Y.1=k))=(Eh xs k).isSome:=by
  rw[kx,(r.val k).isSome_eq,r9]
 unfold jU storedH;rw[e]
 by_cases q:(Eh xs k).isSome=true
 ·rw[if_pos q,if_pos q];exact r.repl k Z
 ·rw[if_neg q,if_neg q];exact cS r ⟨Z9,hb,Z⟩
theorem KT.keeps{H H':Hp}{kvs:List (List Key×V)}{xs:List (List Key×ae×aj)}(r:KT H kvs xs)(Z:∀b ys,H b=Z8 (.tup ys)->H' b=Z8 (.tup ys)):KT H' kvs xs:=
 Paired.mapP r fun _ _ z=>{z.1,Z _ _ z.2.1,z.2.2}
section
variable{P:aQ}{w:bU}{H:Hp}{h:cG}{a:ae}
theorem KB{u:HO}(ok:HOk P w H h)(e:Rd H a u):hV P w H h a u:=e.ok ok
theorem Bq{kvs:List (Key×V)}(ok:HOk P w H h)(e:Rd H a (.dK kvs)):kvs.length<=aG/\(a==dZ)=false/\∃vs,KV kvs vs/\h.DictOf (fV P w) a vs:=
 show hV P w H h a (.dK kvs) from KB ok e
theorem KC{kvs:List (Key×V)}(ok:HOk P w H h)(e:H a=Z8 (.dK kvs)):kvs.length<=aG/\(a==dZ)=false/\∃vs,KV kvs vs/\h.DictOf (fV P w) a vs:=Bq ok (.inl e)
theorem xC{ks:List Key}(ok:HOk P w H h)(e:H a=Z8 (.tup (ks.map kV))):(xn (fV P w)).is h ks a:=by
 obtain⟨_,Z,r,o,h1,h2,n,Y⟩:=(ok a _ e);exact{o,Z.toArray,n,h1,h2,Y,by simpa using wH r}
theorem Br{kvs:List (List Key×V)}(ok:HOk P w H h)(e:Rd H a (.dT kvs)):kvs.length<=aG/\(a==dZ)=false /\
  ∃xs,KT H kvs xs/\h.DictOfH (xn (fV P w)) a xs:=by
 refine Z0 fun M Z=>?_;obtain⟨z,y,xs,r,o,es,R,h1,h2,Y,O,W⟩:=(KB ok e);refine Z ({z,y,xs,r,o,es,R,h1,h2,Y,O,fun x hx=>?_,W});have all:∀{l:List (List Key×V)} {m:List (List Key×ae×aj)},KT H l m->∀x∈m,(xn (fV P w)).is h x.1 x.2.1:=by
  intro l m q
  induction q with
  |nil=>intro x hx;exact nomatch hx
  |@cons p q ps qs hq t U=>
   intro x hx
   rcases aE.mp hx with e|hx
   ·subst e;exact xC ok (hq.1 ▸ hq.2.1)
   ·exact U x hx
 exact all r x hx
theorem dt_of{kvs:List (List Key×V)}(ok:HOk P w H h)(e:H a=Z8 (.dT kvs)):kvs.length<=aG/\(a==dZ)=false /\
  ∃xs,KT H kvs xs/\h.DictOfH (xn (fV P w)) a xs:=Br ok (.inl e)
end
def nr(H:Hp)(a:ae)(y:V)(r:Option V):Prop:=
 (∃kvs k,Rd H a (.dK kvs)/\y=kV k/\r=kP kvs k)\/∃kvs k b,Rd H a (.dT kvs)/\y=.ref b/\H b=Z8 (.tup (k.map kV))/\r=kP kvs k
def pJ(H:Hp)(a:ae)(y v:V)(H':Hp):Prop:=
 (∃kvs k,H a=Z8 (.dK kvs)/\y=kV k/\kvs.length<aG/\H'=upd H a (.dK (jU kvs k v))) \/
 ∃kvs k b,H a=Z8 (.dT kvs)/\y=.ref b/\H b=Z8 (.tup (k.map kV))/\kvs.length<aG/\H'=upd H a (.dT (jU kvs k v))
theorem nr.k{H:Hp}{a:ae}{kvs:List (Key×V)}{k:Key}(e:H a=Z8 (.dK kvs)):nr H a (kV k) (kP kvs k):=.inl {kvs,k,.inl e,Z9,Z9}
theorem pJ.k{H:Hp}{a:ae}{kvs:List (Key×V)}{k:Key}{v:V}(e:H a=Z8 (.dK kvs))(Z:kvs.length<aG):pJ H a (kV k) v (upd H a (.dK (jU kvs k v))):=.inl ⟨kvs,k,e,Z9,Z,Z9⟩
section
variable{X:Cx}{pins:List (ae×Obj)}{σ:St}{H:Hp}{s:aw}{a:ae}{y v:V}{u r:aj}{o:Option V}{A:b8}{E:aj->aw->Prop}
theorem Inv.big(I:Inv X pins σ H s):dZ<s.heap.objs.size:=pK (by decide) ((I.mod.glob.keeps I.bk).lt)
theorem CK{Q:aj->aw->Prop}(hu:A.units+1<dY)(I:Inv X pins σ H s)(g:nr H a y (Z8 v))(R:RelV y u)(h:∀W s',Inv X pins σ H s'->RelV v W->Q W s') :
  bQ (bR X.prog X.w) A (vG (.ref a) u) Q E s:=by
 rcases g with⟨kvs,k,e,U,l⟩|⟨kvs,k,b,e,U,O,l⟩
 ·subst U;obtain⟨z,M,vs,Z,dd⟩:=Bq I.hok e;obtain⟨W,hw,Y⟩:=qA.some_of (l ▸ Z.val k);exact wpAny_getItem_of (yX R) dd.mapOf hw (h W _ (I.tok _) Y)
 ·subst U
  cases (R);obtain⟨z,M,xs,Z,dd⟩:=Br I.hok e;obtain⟨W,hw,Y⟩:=qA.some_of (l ▸ Z.val k);obtain⟨p,hp,V⟩:=Option.map_eq_some_iff.mp hw;refine wpAny_getItem_heap (uK hu) (xC I.hok O) dd hp ?_;rw[V];exact h W _ (I.tok _) Y
theorem d_in{Q:aj->aw->Prop}(hu:A.units+1<dY)(I:Inv X pins σ H s)(g:nr H a y o)(V:RelV y u)(h:∀s',Inv X pins σ H s'->Q (.bool o.isSome) s') :
  bQ (bR X.prog X.w) A (eE .In u (.ref a)) Q E s:=by
 rcases g with⟨kvs,k,e,Y,l⟩|⟨kvs,k,b,e,Y,U,l⟩
 ·subst Y;obtain⟨z,W,vs,Z,dd⟩:=Bq I.hok e;refine wpAny_in_of (yX V) W dd.mapOf ?_;rw[<- (Z.val k).isSome_eq,<- l];exact h _ (I.tok _)
 ·subst Y
  cases (V);obtain⟨z,W,xs,Z,dd⟩:=Br I.hok e;refine wpAny_in_heap (uK hu) (xC I.hok U) W dd ?_;have q:=(Z.val k).isSome_eq;rw[r9]at q;rw[<- q,<- l];exact h _ (I.tok _)
theorem xE{h':cG}{t':Nat}{Z:HO}(I:Inv X pins σ H s)(Y:Mut (H a))(hs:sW a s.heap h')(W:∃q,h'.get? a=Z8 q)(new:hV X.prog X.w (upd H a Z) h' a Z) :
  Inv X pins σ (upd H a Z) {s with heap:=h',toks:=t'}:=
 I.write Y (.inl rfl) (fun b q hb z=>(hs.2 b hb).trans z) W new
theorem uL{P:aQ}{w:bU}{H':Hp}{h':cG}{kvs:List (Key×V)}{vs:List (Key×aj)}(z:kvs.length<=aG)(Y:(a==dZ)=false)(Z:KV kvs vs)(dd:h'.DictOf (fV P w) a vs) :
  hV P w H' h' a (.dK kvs):=⟨z,Y,vs,Z,dd⟩
theorem CO{H':Hp}{Q:Unit->aw->Prop}(hu:A.units+1<dY)(I:Inv X pins σ H s)(g:pJ H a y v H')(R:RelV y u)(J:RelV v r)(h:∀s',Inv X pins σ H' s'->Q () s') :
  bQ (bR X.prog X.w) A (setItem (.ref a) u r) Q E s:=by
 rcases g with⟨kvs,k,e,V,l,W⟩|⟨kvs,k,b,e,V,O,l,W⟩
 ·subst V W;obtain⟨z,U,vs,Z,dd⟩:=KC I.hok e;have hz:vs.length<=aG:=by rw[<- Z.length];exact z
  exact wpAny_setItem_pairs (yX R) dd fun h' Y hs=>h _ (xE I (e ▸ True.intro) hs (let ⟨q,_,_,hq,_⟩:=Y;⟨q,hq⟩) (uL (by have:=pI kvs k v;lia) U (Z.put k J) Y))
 ·subst V W
  cases (R);obtain⟨z,U,xs,Z,dd⟩:=dt_of I.hok e;have hz:xs.length<=aG:=by rw[<- aM Z];exact z
  refine wpAny_setItem_heap (hsz:=hz) (uK hu) (xC I.hok O) dd fun h' Y hs=>h _ (Z0 fun Gz G=>?_);obtain⟨q,es,t,hq,h2,D,f,_,B⟩:=Y;refine G (xE I (e ▸ True.intro) hs ⟨q,hq⟩ {(by have:=pI kvs k v;lia),U,_,(Z.put k O J).keeps fun c ys M=>?_,q,es,t,hq,h2,D,f,B});rw[aW (jD M e (fun z=>nomatch z))];exact M
end
section
variable{X:Cx}{pins:List (ae×Obj)}{σ:St}{H:Hp}{s:aw}{a:ae}{kvs:List (Key×V)}{k:Key}{u:aj}{A:b8}{E:aj->aw->Prop}
theorem IG{Q:aj->aw->Prop}(I:Inv X pins σ H s)(e:H a=Z8 (.dK kvs))(h:∀s',Inv X pins σ (upd H a (.dK [])) s'->Q .none s'):bQ (bR X.prog X.w) A (vD (.builtin "dict.clear") [.ref a]) Q E s:=by
 obtain⟨z,W,vs,Y,dd⟩:=KC I.hok e;refine nv wI dd.typeIs PySem.F.entry_dict_clear (PySem.F.args_dict_clear_1 _) (meets_dict_clear (fV X.prog X.w) a) {vs,dd,by rw[<- Y.length];exact z,fun h' Z hs=>h _ ?_};have V:∃q,h'.get? a=Z8 q:=let ⟨q,_,_,hq,_⟩:=Z;⟨q,hq⟩;exact xE (t':=s.toks) I (by rw[e];exact True.intro) hs V (uL (bE _) W .nil Z)
end
def NoSl(i:c8):Prop:=∀Z Y,yI i false Z Y=operate [Z,Y] (vG Z Y)
theorem IH{prog:aQ}{w:bU}{A:b8}{E:aj->aw->Prop}{s:aw}{env:Env}{value slice:c8}{pos:Pos}{T id:String}{Q:aj->aw->Prop}
  (U:As (.type T) "__getitem__"=pure (Z8 (.builtin id))) (hs:NoSl slice)
  (h:bQ (bR prog w) A (gc value env) (fun o W=>bQ (bR prog w) A (gc slice env) (fun i Z=>Z.TypeIs o T/\bQ (bR prog w) A (vG o i) Q E Z) E W) E s) :
  bQ (bR prog w) A (gc (.Subscript value slice pos) env) Q E s:=by
 refine Au (eJ h (fun o W V=>eJ V (fun i Z Y=>?_) fun _ _ x=>x) fun _ _ x=>x);obtain⟨R,Y⟩:=Y;refine au (au (wpAny_specialOf R U ?_));have fin:bQ (bR prog w) A (yI slice false o i) (fun r s₃=>bQ (bR prog w) A (letTemporaryGo value o r >>= fun _=>pure r) Q E s₃) E Z:=by
  rw[hs o i];exact wpAny_operating (eJ Y (fun r s₃ h₃=>au (wpAny_letTemporaryGo (bK h₃))) fun _ _ x=>x)
 first
  |exact bK (au fin)
  |exact au (bK (au fin))
  |exact au fin
theorem yY{X:Cx}{pins:List (ae×Obj)}{σ:St}{H:Hp}{s:aw}{a:ae}{y:V}{o:Option V}(I:Inv X pins σ H s)(g:nr H a y o):s.TypeIs (.ref a) "dict":=by
 rcases g with⟨kvs,k,e,_,_⟩|⟨kvs,k,b,e,_,_,_⟩
 ·obtain⟨_,_,vs,_,dd⟩:=Bq I.hok e;exact dd.typeIs
 ·obtain⟨_,_,xs,_,dd⟩:=Br I.hok e;exact dd.typeIs
inductive DGI(x y:V)(H:Hp)(Q:VK):Prop where
 |mk(a:ae)(v:V)(hx:x=.ref a)(d:nr H a y (Z8 v))(q:Q v H):DGI x y H Q
def tDGet(td ty:TE):TE:=fun σ H Q=>td σ H fun x H1=>ty σ H1 fun y H2=>DGI x y H2 Q
def tDIn(ty td:TE):TE:=fun σ H Q=>ty σ H fun y H1=>td σ H1 fun x H2=>∃a o,x=.ref a/\nr H2 a y o/\Q (.bl o.isSome) H2
def sDPut(td ty tv:TE):TS:=fun D σ H=>tv σ H fun v H1=>td σ H1 fun x H2=>ty σ H2 fun y Y=>∃a Z,x=.ref a/\pJ Y a y v Z/\D.nx σ Z
section
variable{X:Cx}{o i e value:c8}{pos pos' tpos:Pos}{td ty tv:TE}
theorem iO(hu:X.A.units+1<dY)(G:PE X o td)(hi:PE X i ty)(hs:NoSl i:=by intro _ _;rfl):PE X (.Subscript o i pos) (tDGet td ty):=by
 intro pins s σ H Q I h;refine IH PySem.F.slot_dict_getitem.lookup hs (thn (G pins s σ H _ I h) fun u W ⟨x,H1,E,M,R⟩=>thn (hi pins W σ H1 _ E R) fun B s2 O=>?_);obtain⟨y,H2,Y,U,a,v,ex,g,V⟩:=O;subst ex;obtain rfl:u=Value.ref a:=M;exact{yY Y g,CK hu Y g U fun D z J Z=>⟨v,H2,J,Z,V⟩}
theorem E1(hu:X.A.units+1<dY)(hi:PE X i ty)(G:PE X o td):PC X .In i o (tDIn ty td):=by
 intro pins s σ H Q I h;refine thn (hi pins s σ H _ I h) fun D Z ⟨y,H1,E,W,U⟩=>thn (G pins Z σ H1 _ E U) fun u s2 R=>?_;obtain⟨x,H2,V,M,a,O,ex,g,Y⟩:=R;subst ex;obtain rfl:u=Value.ref a:=M;exact d_in hu V g W fun B J=>{.bl O.isSome,H2,J,Z9,Y}
theorem i9(hu:X.A.units+1<dY)(G:PE X o td)(hi:PE X i ty)(t:PE X value tv)(hs:qB value (Z8 (.Subscript o i pos')) pos.line X.env=pure false) :
  PS X (.Assign [.Subscript o i pos'] value pos) (sDPut td ty tv):=by
 intro pins s σ H D I h;refine wpAny_Assign_Subscript (thn (t pins s σ H _ I h) fun r Z ⟨v,H1,E,R,U⟩=>thn (G pins Z σ H1 _ E U) fun u s2 ⟨x,H2,V,M,Y⟩=>thn (hi pins s2 σ H2 _ V Y) fun iv s3 ⟨y,H3,J,W,a,B,ex,g,z⟩=>?_) hs;subst ex;obtain rfl:u=Value.ref a:=M;exact CO hu J g W R fun f O=>⟨σ,B,O,z⟩
end
theorem E2{P:aQ}{w:bU}{H:Hp}(h:cG)(hb:dZ<h.objs.size):hV P w H (h.push {cls:=.type "dict",data:=.dict #[]}) h.objs.size (.dK []):=
 {bE _,beq_eq_false_iff_ne.mpr (dB (aR hb)),[],.nil,Aa h}
def Mg:TE:=fun _ H Q=>∀p,H p=Z7->Q (.ref p) (upd H p (.dK []))
section
variable{X:Cx}{pos:Pos}
theorem lO:PE X (.Dict [] [] pos) Mg:=fun pins s σ H Q I h=>
 wpAny_Dict_empty {.ref s.heap.objs.size,_,I.laid (t':=s.toks) (fun _ _ q=>aK _ q) (aF _) (E2 s.heap I.big),Z9,h _ (I.hok.fresh (aF _))}
end
section
variable{X:Cx}{pins:List (ae×Obj)}{σ:St}{H:Hp}{s:aw}{a:ae}{y d:V}{u r:aj}{o:Option V}{A:b8}{E:aj->aw->Prop}
end
section
variable{X:Cx}{o e f:c8}{apos cpos:Pos}{td ty tx:TE}
end
section
variable{X:Cx}{pins:List (ae×Obj)}{σ:St}{H:Hp}{s:aw}{a:ae}{kvs:List (Key×V)}{A:b8}{E:aj->aw->Prop}
end
section
variable{X:Cx}{pins:List (ae×Obj)}{σ:St}{H:Hp}{s:aw}{a:ae}{y:V}{u:aj}{A:b8}{E:aj->aw->Prop}
end
section
variable{X:Cx}
end
section
variable{κ:Type}[DecidableEq κ]
theorem II{kvs:List (κ×V)}{k:κ}{v:V}(h:kP kvs k=Z8 v):k∈kvs.map (·.1):=by
 have q:(kvs.any fun Z=>decide (Z.1=k))=true:=by
  rw[kx,h]
  all_goals rfl
 obtain⟨p,hp,e⟩:=List.any_eq_true.mp q;exact cD.mpr {p,hp,of_decide_eq_true e}
theorem Bs:∀{l:List κ} {k:κ},l.Nodup->¬k∈l->(l++[k]).Nodup
 | [],k,_,_=>by simp
 |a::r,k,h,hk=>by
  obtain⟨h1,h2⟩:=cu.mp h;refine cu.mpr {fun m=>?_,Bs h2 fun m=>hk (aE.mpr (Or.inr m))}
  rcases bY.mp m with q|q
  ·exact h1 q
  ·exact hk (aE.mpr (Or.inl (aD.mp q).symm))
end
end L2
set_option maxHeartbeats 4000000
namespace L2
open PySem PySem.Spec PyProof.Rows
theorem hV.has{P:aQ}{w:bU}{H:Hp}{h:cG}{a:ae}{o:HO}(x:hV P w H h a o):∃Z,h.get? a=Z8 Z:=by
 cases o with
 |lst xs=>obtain⟨_,_,_,_,e⟩:=x;exact{_,e}
 |tup xs=>obtain⟨_,_,_,Z,e,_⟩:=x;exact{_,e}
 |dK kvs=>obtain⟨_,_,_,_,o,_,_,e,_⟩:=x;exact{_,e}
 |dT kvs=>obtain⟨_,_,_,_,o,_,_,e,_⟩:=x;exact{_,e}
 |set S n=>obtain⟨o,_,_,_,e,_⟩:=x;exact{_,e}
 |ins C dx fs=>obtain⟨_,_,_,e,_⟩:=x;exact{_,e}
 |own y=>exact x
 |xd fs=>obtain⟨_,⟨_,_,_,e,_⟩,_⟩:=x;exact{_,e}
 |rng lo hi=>obtain⟨_,_,_,e⟩:=x;exact{_,e}
 |frz Z u=>obtain⟨e,_⟩:=x;exact{_,e}
 |tbl ps=>exact{_,(x)}
 |met f y=>exact{_,(x)}
 |ext φ=>obtain⟨_,e,_⟩:=x;exact e
theorem HOk.has{P:aQ}{w:bU}{H:Hp}{h:cG}(x:HOk P w H h){b:ae}(n:H b≠Z7):∃Z,h.get? b=Z8 Z:=by
 cases z:H b with
 |none=>exact absurd z n
 |some u=>exact (x b u z).has
def FlD(B:cG)(l:List Env)(e:ae)(cls fl:aj)(h:cG):Prop:=
 B.StaysIn h/\B.get? e=Z7/\h.FunFrames B l/\∃Z vs T Y W,h.get? e=Z8 Z/\Z.cls=cls/\Z.dict=Z7/\Z.data=.fields vs/\vs[1]?=Z8 (.ref T)/\B.get? T=Z7/\T≠e/\h.get? T=Z8 Y/\Y.data=.fields W/\W[3]?=Z8 fl
theorem CQ(o:Obj)(f:Array aj->Array aj):(o.mapFields f).dict=o.dict:=by
 obtain⟨c,d,Z,sl⟩:=o
 cases Z<;>rfl
section
variable{M:Ij}{A:b8}{E:aj->aw->Prop}{s:aw}{B:cG}{env:Env}{outer l:List Env}{L e:ae}{cls fl:aj}{Q:Unit->aw->Prop}
theorem yZ{W:Obj}{vs:Array aj}{Z:aj}{nx:Bool}(D:A.frames=Z8 (env::outer))(U:s.heap.FunFrames B (env::outer))(hf:env.frame=Z8 L)(R:s.heap.get? e=Z8 W)(hB:B.StaysIn s.heap)(hn:B.get? e=Z7)
  (Y:W.data=.fields vs) (hz:1<vs.size) (G:W.dict=Z7) (k:∀h',FlD B (env::outer) e W.cls (uB L) h'->s.heap.UpToSlots h'->Q () {s with heap:=h'}) :
  bQ M A (do let a <- frameOf env;let pl <- entryPlaceOf L nx;let b <- EntryCells.newEntry Z a .none (uB L) .none pl;setField (.ref e) 1 b) Q E s:=by
 have ef:e∉(env::outer).filterMap (·.frame):=fun I=>by
  obtain⟨_,o,O,q⟩:=U.mem I;rw[R]at O;injection O with O;subst O;exact q vs Y
 refine au (wpAny_frameOf_fun D U hf fun h1 V=>au (wpAny_entryPlaceOf fun pl J=>au (vK ?_ (J.sizeOk5 _ _ _ _ _))));have g:=(V.2.1 e ef).trans R;have b1:B.StaysIn h1:=fun b o z=>(V.2.1 b fun I=>by rw[(U.mem I).1]at z;cases z).trans (hB b o z);have ne:=pj (aS g);generalize hob:({cls:=.type "traceback",dict:=Z7,data:=.fields ([Z,.ref L,.none,uB L,.none]++(if pl.isEmpty then cT 6 Value.none else pl)).toArray}:Obj)=ob;have t:(h1.push ob).get? e=Z8 W:=aK _ g;refine Az t Y hz (k _ ?_ ?_)
 ·have f:=sI Y (·.setIfInBounds 1 (Value.ref h1.objs.size));have keep:∀b o,b≠e->h1.get? b=Z8 o->((h1.push ob).update e (y7 (·.setIfInBounds 1 (Value.ref h1.objs.size)))).get? b=Z8 o:=fun b o q z=>by
   rw[cN _ _ (dB q)];exact aK _ z
  refine{fun b o z=>keep b o (fun q=>by rw[q,hn]at z;cases z) (b1 b o z),hn,U.of_keeps fun b o z q=>?_,_,_,h1.objs.size,ob,_,iQ _ t (Bt f),Obj.cls_mapFields _ _,(CQ _ _).trans G,f,by simp[hz],b1.fresh,ne,?_,by rw[<- hob],?_}
  ·obtain⟨sl,w⟩:=V.2.2 b o z;exact{_,keep b _ (fun y=>by rw[y,R]at z;cases z;exact q vs Y) w,Z9}
  ·rw[cN _ _ (dB ne)];exact (cA h1 (by rw[<- hob];rfl))
  ·simp_all
 ·intro b o z q;obtain⟨sl,w⟩:=V.2.2 b o z;refine{sl,?_};rw[cN _ _ (fun y=>by rw[<- y,R]at z;cases z;exact q vs Y)];exact aK _ w
theorem t8{T:ae}{Z:Obj}{W:Array aj}{h:cG}(V:h.get? T=Z8 Z)(Y:Z.data=.fields W){b:ae}{o:Obj}(hb:h.get? b=Z8 o)(q:∀vs,o.data≠.fields vs):b≠T:=by
 grind
theorem Bu(V:A.frames=Z8 (env::outer))(R:env.frame=Z8 L)(x:FlD B (env::outer) e cls .none s.heap)(k:∀h',FlD B (env::outer) e cls (uB L) h'->s.heap.UpToSlots h'->Q () {s with heap:=h'}) :
  bQ M A (noteFrame (.ref e) env) Q E s:=by
 refine Z0 fun Gz D=>?_;obtain⟨f,hn,I,oe,vs,T,oT,ts,J,rfl,W,O,h1,t,g,Z,dT,U⟩:=x;refine D ?_;unfold noteFrame;simp only[R];refine au (yK J O h1 (au (yK Z dT U (au (Az Z dT (mr.mp U).1 ?_)))));have Y:∀b,b≠T->(s.heap.update T (y7 (·.setIfInBounds 3 Value.none))).get? b=s.heap.get? b:=fun b hb=>cN _ _ (dB hb);refine yZ V (I.of_keeps fun b o z q=>{o,(Y b (t8 Z dT z q)).trans z,Z9}) R ((Y e (dB g)).trans J)
  (fun b o z=>(Y b fun y=>by rw[y,t]at z;cases z).trans (f b o z)) hn O (mr.mp h1).1 W fun h' G y2=>k h' G fun b o z q=>y2 b o ((Y b (t8 Z dT z q)).trans z) q
theorem rG(x:FlD B l e cls fl s.heap)(k:∀h',FlD B l e cls .none h'->s.heap.UpToSlots h'->Q () {s with heap:=h'}):bQ M A (setFlight (.ref e) Z7) Q E s:=by
 refine Z0 fun Gz I=>?_;obtain⟨g,t,D,oe,vs,T,oT,ts,R,hc,W,J,h1,U,O,Z,dT,G⟩:=x;refine I ?_;have V:=(mr.mp G).1;have Y:∀b,b≠T->(s.heap.update T (y7 (·.setIfInBounds 3 ((Z7:Option ae).elim Value.none fun f=>uB f)))).get? b=s.heap.get? b:=fun b hb=>cN _ _ (dB hb);refine au (yK R J h1 (Az Z dT V (k _ {fun b o z=>(Y b fun y=>by rw[y,U]at z;cases z).trans (g b o z),t,D.of_keeps fun b o z q=>{o,(Y b (t8 Z dT z q)).trans z,Z9},oe,vs,T,_,_,(Y e (dB O)).trans R,hc,W,J,h1,U,O,iQ _ Z (Bt (sI dT _)),sI dT _,by simp[V]}
  fun b o z q=>{o.slots,(Y b (t8 Z dT z q)).trans z})))
theorem FlD.tail(x:FlD B (env::outer) e cls fl s.heap):FlD B outer e cls fl s.heap:=by
 obtain⟨a,b,⟨_,_,c⟩,d⟩:=x;exact⟨a,b,c,d⟩
theorem FlD.there{h:cG}(x:FlD B l e cls fl h):∃Z,h.get? e=Z8 Z/\Z.cls=cls:=by
 obtain⟨_,_,_,W,_,_,_,_,Y,hc,_⟩:=x;exact⟨W,Y,hc⟩
theorem CT(Z:A.frames=Z8 (env::outer))(Y:env.frame=Z8 L)(x:FlD B (env::outer) e cls .none s.heap)(k:∀h',FlD B outer e cls .none h'->s.heap.UpToSlots h'->Q () {s with heap:=h'}):bQ M A (EN env (.ref e)) Q E s:=by
 refine au (Bu Z Y x fun h1 x1 u1=>rG x1 fun h2 W u2=>k h2 (FlD.tail (s:={s with heap:=h2}) W) (u1.trans u2))
theorem IJ{h:cG}{args:List aj}(Z:A.frames=Z8 (env::outer))(W:env.frame=Z8 L)(V:B.StaysIn h)(O:h.FunFrames B (env::outer))(x:KD h s.heap e cls args)
  (k:∀h',FlD B outer e cls .none h'->s.heap.UpToSlots h'->Q () {s with heap:=h'}):bQ M A (EN env (.ref e)) Q E s:=by
 obtain⟨t,Y,R,J⟩:=x.there;have en:B.get? e=Z7:=by
  cases q:B.get? e with
  |none=>rfl
  |some o=>have z:=V e o q;rw[x.new]at z;cases z
 unfold EN noteFrame;simp only[W];exact au (au (yK Y rfl rfl (yZ Z (O.of_keeps fun b o z _=>{o,x.keeps b o z,Z9}) W Y (fun b o z=>x.keeps b o (V b o z)) en rfl (show 1<6 by decide) rfl fun h1 x1 u1=>rG x1 fun h2 U u2=>k h2 (FlD.tail (s:={s with heap:=h2}) U) (u1.trans u2))))
end
def Fly(B:cG)(Z:List Env)(Y C:ae)(h:cG):Prop:=FlD B Z Y (.ref C) .none h
def CXo(P:aQ)(w:bU):CXT:=fun outer H s E e s'=>
 ∃(Z C:ae) (H':Hp) (B:cG),e=.ref Z/\E (.ref C) Z7 H'/\s'.os=s.os/\o6 s'.gens/\Un (frs outer) [] H H' s.heap s'.heap/\HOk P w H' s'.heap/\Fly B outer Z C s'.heap /\
  ∀b o,(H' b≠Z7\/∃o',s.heap.get? b=Z8 o')->b∉frs outer->s'.heap.get? b=Z8 o->B.get? b=Z8 o
theorem Un.left{fs Y:List ae}{H₀ H:Hp}{Z h h' B:cG}(u:Un fs [] H₀ H Z h)(O:B.StaysIn h')(W:∀b o,(H b≠Z7\/∃o',Z.get? b=Z8 o')->b∉Y->h.get? b=Z8 o->B.get? b=Z8 o)
  (V:∀b o,Z.get? b=Z8 o->b∈Y->b∈fs) (sl:∀b∈fs,∀o,h.get? b=Z8 o->∃sl,h'.get? b=Z8 {o with slots:=sl}):Un fs [] H₀ H Z h' where
 keep:=fun b o e n hb hx=>O b o (W b o (.inr ⟨o,e⟩) (fun z=>hb (V b o e z)) (u.keep b o e n hb hx))
 slot:=fun b o e n hb hx=>by
  obtain⟨J,M⟩:=u.slot b o e n hb hx;obtain⟨s2,U⟩:=sl b hb _ M;exact⟨s2,U⟩
 free:=u.free
 there:=fun b o e hx=>by
  obtain⟨o',R⟩:=u.there b o e hx
  by_cases hb:b∈Y
  ·obtain⟨s2,U⟩:=sl b (V b o e hb) _ R;exact{_,U}
  ·exact{o',O b o' (W b o' (.inr ⟨o,e⟩) hb R)}
 tups:=u.tups
 frzs:=u.frzs
 tbls:=u.tbls
theorem HOk.left{P:aQ}{w:bU}{H:Hp}{h h' B:cG}(ok:HOk P w H h)(Y:B.StaysIn h')(Z:∀b o,H b≠Z7->h.get? b=Z8 o->B.get? b=Z8 o):HOk P w H h':=fun a o e=>
 (ok a o e).stay (fun b u hb q=>Y b u (Z b u (by
  rcases hb with z|z
  ·rw[z,e];simp
  ·rw[z];simp) q)) (fun _ q=>q) (fun _ _ q=>q)
section
variable{X:Cx}{pins:List (ae×Obj)}{σ:St}{H:Hp}{s:aw}{E E':XK}
theorem Inv.oldfs(I:Inv X pins σ H s):∀b o,X.s₀.heap.get? b=Z8 o->b∈frs X.stack->b∈X.fs:=fun b o e hb=>by
 rcases aE.mp (I.stkSub b hb) with z|z
 ·exact absurd (bT (aS e) I.ok.above) (z ▸ gK _)
 ·exact z
theorem Inv.ntr(I:Inv X pins σ H s):∀b,H b≠Z7->b∉frs X.stack:=fun b Z z=>Z (I.stkFree b z)
theorem Inv.slotsOf(I:Inv X pins σ H s){h':cG}(sm:s.heap.UpToSlots h'):∀b∈X.fs,∀o,s.heap.get? b=Z8 o->∃sl,h'.get? b=Z8 {o with slots:=sl}:=fun b hb o e=>by
 obtain⟨_,o',Z,Y⟩:=I.funs.mem hb;rw[e]at Z;injection Z with Z;subst Z;exact sm b o e Y
structure tj(X:Cx)(E:XK):Prop where
 stk:X.stack=X.env::X.outer
 fr:X.env.frame=Z8 X.env.locals
 ex:X.ex=[]
 xe:X.xe=fun e s'=>bQ (bR X.prog X.w) X.A (EN X.env e) (fun _ s''=>CXo X.prog X.w X.outer X.H₀ X.s₀ E e s'') (fun e' s''=>CXo X.prog X.w X.outer X.H₀ X.s₀ E e' s'') s'
theorem dU{P:aQ}{w:bU}{K:af}{mg:Str->Option aj}{base:cG}{N:List Str}{Y:Str}{Z:jS}{f:ae}{W:aj}{A:b8}{outer:List Env} :
  tj (sD (CXo P w) P w K mg base N Y Z f W A outer s H E) E:=⟨Z9,Z9,Z9,Z9⟩
theorem tj.raises(hb:tj X E)(I:Inv X pins σ H s){h':cG}{e C:ae}{vs:List aj}(hx:KD s.heap h' e (.ref C) vs)(q:E (.ref C) Z7 H):X.xe (.ref e) {s with heap:=h'}:=by
 rw[hb.xe];have fl:s.heap.FunFrames (tK s.heap (frs X.stack)) (X.env::X.outer):=by
  have z:=PySem.W.funFrames_hide I.stack (fun env J a ha=>rZ.mpr ⟨env,J,ha⟩);rw[hb.stk]at z |-;exact z
 have U:Un X.fs [] X.H₀ H X.s₀.heap s.heap:=by
  have z:=I.base;rw[hb.ex]at z;exact z
 have Z:∀b o,b∉frs X.stack->s.heap.get? b=Z8 o->(tK s.heap (frs X.stack)).get? b=Z8 o:=fun b o n e=>zY _ e n;refine IJ (by rw[I.ok.frames,hb.stk]) hb.fr (fun b o z=>Ab _ z) fl hx fun M x1 G=>{e,C,H,_,Z9,q,I.os,I.bare,U.left x1.1 (fun b o _ n e=>Z b o n e) I.oldfs (I.slotsOf ((Og hx.keeps).trans G)),I.hok.left x1.1 (fun b o n e=>Z b o (I.ntr b n) e),x1,?_};intro b o c n D;have R:b∉frs X.stack:=by
  rcases c with c|⟨o',c⟩
  ·exact I.ntr b c
  ·exact fun z=>n (I.oldfs b o' c z)
 obtain⟨Y,O⟩:∃Y,s.heap.get? b=Z8 Y:=by
  rcases c with c|⟨o',c⟩
  ·exact I.hok.has c
  ·exact U.there b o' c (by simp)
 have e3:=x1.1 b Y (Z b Y R O);have V:=D;rw[e3]at V;injection V with V;subst V;exact Z b _ R O
theorem tj.passes(hb:tj X E)(g:∀c d H,E' c d H->E c d H):mX (CXo X.prog X.w) X E':=fun pins σ H s e s' I h=>by
 obtain⟨D,C,H',B,rfl,q,os,Y,un,O,fl,R⟩:=h;have J:=I.call' os un O Y (fun b z=>absurd z (by simp));rw[hb.xe];have M:Un X.fs [] X.H₀ H' X.s₀.heap s'.heap:=by
  have z:=J.base;rw[hb.ex]at z;exact z
 have ui:Un X.fs [] X.H₀ H X.s₀.heap s.heap:=by
  have z:=I.base;rw[hb.ex]at z;exact z
 have Z:∀b o,(H' b≠Z7\/∃o',X.s₀.heap.get? b=Z8 o')->b∉frs X.stack->s'.heap.get? b=Z8 o->B.get? b=Z8 o:=fun b o c n e=>
  R b o (c.imp_right fun⟨o',z⟩=>ui.there b o' z (by simp)) n e
 have U:FlD B (X.env::X.outer) D (.ref C) .none s'.heap:=by
  rw[<- hb.stk];exact fl
 refine CT (by rw[I.ok.frames,hb.stk]) hb.fr U fun bh x1 f=>{D,C,H',B,Z9,g _ _ _ q,J.os,J.bare,M.left x1.1 Z J.oldfs (J.slotsOf f),J.hok.left x1.1 (fun b o n e=>Z b o (.inl n) (J.ntr b n) e),x1,?_};intro b o c n e1;have t:b∉frs X.stack:=by
  rcases c with c|⟨o',c⟩
  ·exact J.ntr b c
  ·exact fun z=>n (J.oldfs b o' c z)
 obtain⟨W,G⟩:∃W,s'.heap.get? b=Z8 W:=by
  rcases c with c|⟨o',c⟩
  ·exact J.hok.has c
  ·exact M.there b o' c (by simp)
 have e3:=x1.1 b W (Z b W c t G);have V:=e1;rw[e3]at V;injection V with V;subst V;exact Z b _ c t G
end
section
variable{X:Cx}{E:XK}{x:Str}{C:ae}{np cpos pos:Pos}{e₀:c8}{rest:List c8}{ta:TA}{K:af}{h:cG}
theorem IK{R:List aj}{Z:String}(X:K.In h)(q:dN K C R Z=true) :
  ∃O N nm q bs hdct sn sub ab col dd k0 k1 k2 k3 k5 J,h.get? C=Z8 (excClassObj nm q C N bs O hdct sn sub ab col dd k0 k1 k2 k3 k5 Z)/\h.Ns N J/\J "__init__"=Z7/\OwnTail h R O:=by
 unfold dN at q
 split at q
 ·rename_i dd cd sl ho
  split at q
  ·rename_i C' O k0 k1 k2 k3 n k5 hm hs
   simp at q;refine Z0 fun z I=>?_;obtain⟨⟨⟨⟨⟨rfl,rfl⟩,Y⟩,D⟩,V⟩,U⟩:=q;obtain⟨nm,bs,E,ns,qn,B,sn,sub,ab,col,G⟩:=cd;refine I ?_;dsimp only at hm Y V U;subst hm Y;have e:sl=#[k0,k1,k2,k3,Z8 (.builtin n),k5]:=by
    obtain⟨l⟩:=sl;have M:l=[k0,k1,k2,k3,Z8 (.builtin n),k5]:=hs;rw[M]
   subst e;exact{O,ns,nm,qn,bs,B,sn,sub,ab,col,dd,k0,k1,k2,k3,k5,_,X _ _ ho,.of_isNs (PySem.W.isNs_of_in X V),PySem.W.nsMap_none_of_in X V U,PySem.W.tail_of_in X D}
  ·exfalso
   cases q
 ·exfalso
  cases q
def rH:List aj:=[.type "ValueError",.type "Exception",.type "BaseException",.type "object"]
def Mh(C:ae)(E:XK)(ta:TA):TS:=fun _ σ H=>ta σ H fun vs H1=>vs.length<=aG/\E (.ref C) Z7 H1
theorem lQ(hb:tj X E)(hc:X.calm=true)(J:Gl X x)(V:X.mg x=Z8 (.ref C))(hx:dN X.K C rH "ValueError.__new__"=true)(ha:PA X (e₀::rest) ta)
  (g:(x==("__debug__":Str))=false:=by decide) (R:cO (e₀::rest) X.env=(false,gc e₀ X.env)::cO rest X.env:=by rfl) (U:(jk cpos (cO rest X.env)).any (·.1)=false:=by rfl) :
  PS X (.Raise (Z8 (.Call (.Name x np) (e₀::rest) [] cpos)) Z7 pos) (Mh C E ta):=by
 intro pins s σ H D I h;refine Z0 fun O W=>?_;obtain⟨f,N,nm,q,bs,hdct,sn,sub,ab,col,dd,k0,k1,k2,k3,k5,mN,B,t,Y,T⟩:=IK I.ok.mod.kin hx;refine W (wpAny_Raise_call_subT (nm:=nm) (q:=q) (N:=N) (bs:=bs) (hdct:=hdct) (sn:=sn) (sub:=sub) (ab:=ab) (col:=col) (dd:=dd) (k0:=k0) (k1:=k1) (k2:=k2) (k3:=k3) (k5:=k5)
  F.excBase_ValueError (T.hasType (F.excBase_ValueError.hasBase)) (I.ok.hd hc) (by rw[R];show (false||(jk cpos (cO rest X.env)).any (·.1))=false;rw[U];rfl) Y (p8 I J V {Z9,?_} g))
 have h1:=ha cpos pins s σ H _ I h;rw[R]at h1 |-;refine Ax (eJ h1 (fun us s2 z=>Z0 fun O W=>?_) fun _ _ y=>y);obtain⟨vs,H1,Z,r,G,M⟩:=z;exact W ({Z9,by rw[<- r.length];exact G,Z.bk _ _ B,t.keeps Z.bk,T.keeps Z.bk,fun h' e V=>hb.raises Z V M})
end
section
variable{X:Cx}{pins:List (ae×Obj)}{σ:St}{H:Hp}{s:aw}{T:ae->St->Hp->Prop}
def xH(X:Cx)(pins:List (ae×Obj))(H:Hp)(B h:cG):Prop:=
 ∀b o,(H b≠Z7\/(b∉X.ex/\∃o',X.s₀.heap.get? b=Z8 o')\/∃p∈X.pn++pins,p.1=b)->b∉frs X.stack->h.get? b=Z8 o->B.get? b=Z8 o
def tryW(X:Cx)(pins:List (ae×Obj))(T:ae->St->Hp->Prop):aj->aw->Prop:=fun e s'=>
 ∃Z C B σ H,e=.ref Z/\Inv X pins σ H s'/\Fly B X.stack Z C s'.heap/\xH X pins H B s'.heap/\T C σ H
abbrev Cx.tr(X:Cx)(pins:List (ae×Obj))(T:ae->St->Hp->Prop):Cx:={X with xe:=tryW X pins T,pn:=X.pn++pins}
theorem Inv.tr(I:Inv X pins σ H s)(T:ae->St->Hp->Prop):Inv (X.tr pins T) [] σ H s:=
 ⟨⟨I.ok.mod,I.ok.kind,I.ok.glob,I.ok.blt,I.ok.above,I.ok.inj,I.ok.has,I.ok.cab,I.ok.hd,I.ok.frames,I.ok.stk,I.ok.exf,I.ok.bs,I.ok.bsz,I.ok.noex,I.ok.exfs,I.ok.funs,I.ok.frf⟩,I.os,I.bare,I.base,I.loc,I.cell,I.free,I.freeC,
  fun p hp=>I.pin p (by simpa using hp),I.hok,I.len⟩
theorem Inv.untr{Z:List (ae×Obj)}(I:Inv (X.tr pins T) Z σ H s):Inv X pins σ H s:=
 ⟨⟨I.ok.mod,I.ok.kind,I.ok.glob,I.ok.blt,I.ok.above,I.ok.inj,I.ok.has,I.ok.cab,I.ok.hd,I.ok.frames,I.ok.stk,I.ok.exf,I.ok.bs,I.ok.bsz,I.ok.noex,I.ok.exfs,I.ok.funs,I.ok.frf⟩,I.os,I.bare,I.base,I.loc,I.cell,I.free,I.freeC,
  fun p hp=>I.pin p (dD _ hp),I.hok,I.len⟩
theorem Bv{h h':cG}{c:ae}{v:Option aj}(x:h.IsCell c v)(sm:h.UpToSlots h'):h'.IsCell c v:=by
 obtain⟨o,Y,Z⟩:=x;obtain⟨sl,e⟩:=sm c o Y (fun vs q=>by rw[Z]at q;cases q);exact{_,e,Z}
theorem Inv.landed{B h':cG}(I:Inv X pins σ H s)(W:B.StaysIn h')(Z:xH X pins H B s.heap)(sm:s.heap.UpToSlots h'):Inv X pins σ H {s with heap:=h'}:=by
 refine{I.ok,I.os,I.bare,{fun b o e n hb hx=>?_,fun b o e n hb hx=>?_,I.base.free,fun b o e hx=>?_,I.base.tups,I.base.frzs,I.base.tbls},?_,fun x c e=>?_,I.free,I.freeC,fun p hp=>?_,I.hok.left W (fun b o n e=>Z b o (.inl n) (I.ntr b n) e),I.len}
 ·exact W b o (Z b o (.inr (.inl ⟨hx,o,e⟩)) (fun z=>hb (I.oldfs b o e z)) (I.base.keep b o e n hb hx))
 ·obtain⟨M,V⟩:=I.base.slot b o e n hb hx;obtain⟨s2,Y⟩:=I.slotsOf sm b hb _ V;exact⟨s2,Y⟩
 ·obtain⟨o',U⟩:=I.base.there b o e hx
  by_cases hb:b∈frs X.stack
  ·obtain⟨s2,Y⟩:=I.slotsOf sm b (I.oldfs b o e hb) _ U;exact{_,Y}
  ·exact{o',W b o' (Z b o' (.inr (.inl ⟨hx,o,e⟩)) hb U)}
 ·obtain⟨m,O,R⟩:=I.loc;refine{m,sm.ns O,fun i x v V Y e3=>?_};obtain⟨u,r,l⟩:=R i x v V Y e3;refine{u,r,?_}
  rcases l with l|⟨k,c,e,l⟩
  ·exact .inl l
  ·exact .inr {k,c,e,Bv l sm}
 ·obtain⟨v,q⟩:=I.cell x c e;exact{v,Bv q sm}
 ·obtain⟨e,n,l,f,d⟩:=I.pin p hp;exact{W _ _ (Z p.1 p.2 (.inr (.inr ⟨p,hp,Z9⟩)) (fun z=>(aE.mp (I.stkSub _ z)).elim l f) e),n,l,f,d}
theorem xH.land{B h':cG}(I:Inv X pins σ H s)(U:B.StaysIn h')(Z:xH X pins H B s.heap):xH X pins H B h':=fun b o c n e=>by
 obtain⟨Y,V⟩:∃Y,s.heap.get? b=Z8 Y:=by
  rcases c with c|⟨hx,o',c⟩|⟨p,hp,rfl⟩
  ·exact I.hok.has c
  ·exact I.base.there b o' c hx
  ·exact{_,(I.pin p hp).1}
 have W:=U b Y (Z b Y c n V);rw[e]at W;injection W with W;subst W;exact Z b _ c n V
abbrev Cx.hdl(X:Cx)(Z:ae):Cx:={X with A:=X.A.mark (Z8 (.ref Z)),calm:=false,xe:=fun _ _=>False}
theorem Inv.hdl(I:Inv X pins σ H s)(Z:ae):Inv (X.hdl Z) pins σ H s:=
 ⟨{I.ok.mod,I.ok.kind,I.ok.glob,I.ok.blt,I.ok.above,I.ok.inj,I.ok.has,I.ok.cab,fun z=>t9 z,I.ok.frames,I.ok.stk,I.ok.exf,I.ok.bs,I.ok.bsz,I.ok.noex,I.ok.exfs,I.ok.funs,I.ok.frf},I.os,I.bare,I.base,I.loc,I.cell,I.free,I.freeC,
  I.pin,I.hok,I.len⟩
theorem Inv.unhdl{Z:ae}(ok:X.Ok)(I:Inv (X.hdl Z) pins σ H s):Inv X pins σ H s:=⟨ok,I.os,I.bare,I.base,I.loc,I.cell,I.free,I.freeC,I.pin,I.hok,I.len⟩
abbrev TH:=ae->TS
def PHs(X:Cx)(hs:List ua)(th:TH):Prop:=
 ∀(pins:List (ae×Obj)) (s:aw) (σ:St) (H:Hp) (D:kK) (Z C:ae) (B:cG),Inv X pins σ H s->Fly B X.stack Z C s.heap->xH X pins H B s.heap->th C D σ H ->
  bQ (bR X.prog X.w) X.A (handleBy (.ref Z) X.env hs) (SP X pins D) X.xe s
def thNil:TH:=fun _ _ _ _=>False
theorem IL:PHs X [] thNil:=fun _ _ _ _ _ _ _ _ _ _ _ h=>h.elim
def Bw(CX:CXT)(X:Cx)(E:St->XK):Prop:=∀(pins:List (ae×Obj)) (σ:St) (H:Hp) (s:aw) (e:aj) (s':aw),Inv X pins σ H s->CX X.stack H s (E σ) e s'->X.xe e s'
def tryE(T:ae->St->Hp->Prop):St->XK:=fun σ c _ H=>∃C,c=.ref C/\T C σ H
theorem AA:Bw (CXo X.prog X.w) (X.tr pins T) (tryE T):=fun Y σ H s e s' I h=>by
 obtain⟨J,C,H',B,rfl,⟨G,V,q⟩,M,Z,un,U,fl,W⟩:=h;injection V with V;subst V;refine{J,C,B,σ,H',Z9,(I.call' M un U Z (fun b z=>absurd z (by simp))).untr,fl,fun b o c n e=>W b o ?_ n e,q}
 rcases c with c|⟨O,o',R⟩|⟨p,hp,rfl⟩
 ·exact .inl c
 ·exact .inr (I.base.there b o' R O)
 ·exact .inr {_,(I.pin p (dD _ hp)).1}
def Mj(sp:Sp)(E:St->XK)(t:TA):TE:=fun σ H Q=>t σ H fun vs H1=>sp vs H1 Q (E σ)
variable{CX:CXT}{k:Nat}{f:ae}{fd:cm}{ps:List Str}{sp:Sp}{E:St->XK}{x:Str}{p pos:Pos}{e:c8}{es:List c8}{t:TA}
theorem E3(F:cg X.prog X.w X.K X.mg X.base CX k f fd ps sp)(D:e8 k X.A)(O:Gl X x)(M:X.mg x=Z8 (.ref f))(hk:gH X.K (.ref f)=true)(hb:Binds X.K fd ps [])(hx:Bw CX X E)(ha:PA X (e::es) t)
  (U:(x==("__debug__":Str))=false:=by decide) (J:cO (e::es) X.env=(false,gc e X.env)::cO es X.env:=by rfl) (R:(jk pos (cO es X.env)).any (·.1)=false:=by rfl) :
  PE X (.Call (.Name x p) (e::es) [] pos) (Mj sp E t):=by
 intro pins s σ H Q I h;refine iS (p8 I O M (lJ I.ok.mod.kin hk (thn (ha pos pins s σ H _ I h) fun W V z=>?_) J R) U);obtain⟨vs,H1,Y,r,q⟩:=z;refine{Y.kIn,?_};have G:(W++[]).length=ps.length:=by
  rw[cB,<- r.length];exact F.len _ _ _ _ q
 have Z:=hb V W Y.kIn G;rw[cB]at Z;refine Ap (ng (F.run X.A X.stack V H1 {W,[]} W vs Q (E σ) D Y.env0 Z r q) fun r s' hq=>?_)
 cases r with
 |error e=>exact hx pins σ H1 V e s' Y hq
 |ok fl=>
  cases fl with
  |ret u=>exact Y.after hq
  |next=>exact df hq
  |brk=>exact df hq
  |cont=>exact df hq
end
theorem Fun.okX{P:aQ}{w:bU}{K:af}{mg:Str->Option aj}{base:cG}{x Z:Str}{st:c9}{f:ae}{fd:cm}{N ps:List Str}{k:Nat}{sp:Sp}(F:Fun K x Z st f fd)(S:bX N ps (aT st))(len:∀vs H Q E,sp vs H Q E->vs.length=ps.length)
  (W:∀(Y:aj) (A:b8) (outer:List Env) (s:aw) (H:Hp) (vs:List V) (Q:VK) (E:XK),e8 k (A.deeper (sE Z (aT st) s.heap.objs.size f Y))->sp vs H Q E ->
   ∃t,PSs (sD (CXo P w) P w K mg base N Z (aT st) f Y A outer s H E) (jz st) t/\t {nx:=fun _ H'=>Q .non H',rt:=Q} (start N vs) H):cg P w K mg base (CXo P w) (k+1) f fd ps sp:=by
 obtain⟨D,od,kV,O,G,B,Y,ct,M,rfl,J,R⟩:=F.ex;exact KA J R S len fun A outer s H vs Q E I U=>W Y A outer s H vs Q E I U
theorem xI{prog:aQ}{w:bU}{A:b8}{R:EJ->aw->Prop}{s:aw}{W Z O:c8}{V:List c8}{Y:jS}{pos:Pos}{it U:aj}{env:Env}(J:Nat->aw->Prop)
  (turn:∀n s,J n s->bQ (bR prog w) A (pyNext it) (fun r I=>match r with
   |none=>R (.ok .next) I
   |some v=>bQ (bR prog w) A (yS Z it v) (fun _ s2=>bQ (bR prog w) A (LZ Z env v) (fun _ E=>
     bQ (bR prog w) A (forIn V true fun c r=>if r=true then do let ok <- Ep c env (gc c env);pure (ForInStep.yield ok) else pure (ForInStep.yield r)) (fun ok M=>
      if ok=true then bQ (bR prog w) A (gc W env) (fun x D=>bQ (bR prog w) A (vD (.builtin "list.append") [U,x]) (fun _ B=>∃m,m<n/\J m B) (fun _ _=>False) D) (fun _ _=>False) M
      else ∃m,m<n/\J m M) (fun _ _=>False) E) (fun _ _=>False) s2) (fun _ _=>False) I) (fun _ _=>False) s)
  (n:Nat) (h:J n s):mi (bR prog w) A (.compLoop (.ListComp W [{Z,O,V,0}] Y pos) 0 it U env) R s:=by
 refine codeAny_loop rfl J (fun n s f=>wpAny_noted ?_) n h;rw[compTurn_list];refine au (Cv (au (eJ (turn n s f) (fun r I h1=>?_) fun _ _ z=>z.elim)))
 cases r with
 |none=>exact bK h1
 |some v=>
  refine au (eJ h1 (fun _ s2 h2=>au (eJ h2 (fun _ E t=>au (eJ t (fun ok M G=>?_) fun _ _ z=>z.elim)) fun _ _ z=>z.elim)) fun _ _ z=>z.elim)
  cases ok with
  |false=>exact bK ⟨Z9,G⟩
  |true=>
   exact au (au (eJ G (fun x D h5=>au (eJ h5 (fun _ B g=>bK (bK ⟨Z9,g⟩)) fun _ _ z=>z.elim)) fun _ _ z=>z.elim))
theorem y8{env:Env}:∀{names:List (Str×kM)} {x:Str},
  (names.map fun (n,k)=>if (k==NameKind.free&&env.scope.kind==.function&&env.kindOf n==Z8 .cell) then (n,NameKind.cell) else (n,k)).lookup x=Z8 .local->names.lookup x=Z8 .local
 | [],_,h=>by simp at h
 |(n,k)::r,x,h=>by
  have Z:=@y8 env r x;rw[cP]at h;dsimp only at h
  by_cases hc:(k==NameKind.free&&env.scope.kind==.function&&env.kindOf n==Z8 .cell)=true
  ·rw[if_pos hc]at h
   cases hx:x==n with
   |true=>simp[cM,hx]at h
   |false=>
    simp only[cM,hx]at h |-;exact Z h
  ·rw[if_neg hc]at h
   cases hx:x==n with
   |true=>
    simp only[cM,hx]at h |-;exact h
   |false=>
    simp only[cM,hx]at h |-;exact Z h
theorem xJ{env:Env}:∀{names:List (Str×kM)} {x:Str},
  ((names.map fun (n,k)=>if (k==NameKind.free&&env.scope.kind==.function&&env.kindOf n==Z8 .cell) then (n,NameKind.cell) else (n,k)).lookup x=Z8 .cell \/
   (names.map fun (n,k)=>if (k==NameKind.free&&env.scope.kind==.function&&env.kindOf n==Z8 .cell) then (n,NameKind.cell) else (n,k)).lookup x=Z8 .free)->names.lookup x=Z8 .cell\/names.lookup x=Z8 .free
 | [],_,h=>by simp at h
 |(n,k)::r,x,h=>by
  have Z:=@xJ env r x;rw[cP]at h;dsimp only at h
  by_cases hc:(k==NameKind.free&&env.scope.kind==.function&&env.kindOf n==Z8 .cell)=true
  ·rw[if_pos hc]at h;have hk:k=.free:=by simp_all
   cases hx:x==n with
   |true=>
    simp only[cM,hx];rw[hk];exact .inr rfl
   |false=>
    simp only[cM,hx]at h |-;exact Z h
  ·rw[if_neg hc]at h
   cases hx:x==n with
   |true=>
    simp only[cM,hx]at h |-;exact h
   |false=>
    simp only[cM,hx]at h |-;exact Z h
def pL(env:Env):List (Str×kM)->List (Str×ae)->List (Str×ae)
 | [],Z=>Z
 |(n,k)::r,Z=>pL env r (if k=.free then (match env.cells.lookup n with|some c=>(n,c)::Z|none=>Z) else Z)
theorem y9{env:Env}:∀(names:List (Str×kM)) (Z:List (Str×ae)),(∀y∈names,y.2=.free->∃c,env.cells.lookup y.1=Z8 c) ->
  (forIn names Z fun x r=>(do
   if (x.2==NameKind.free)=true then do
    let c <- cellOf env x.1
    pure (ForInStep.yield ((x.1,c)::r))
   else pure (ForInStep.yield r):Sem (ForInStep (List (Str×ae)))))=(pure (pL env names Z):Sem (List (Str×ae)))
 | [],Z,_=>rfl
 |(n,k)::r,Z,h=>by
  have V:=fun W=>y9 r W (fun y hy=>h y (aa _ hy));rw[List.forIn_cons]
  by_cases hk:k=.free
  ·subst hk;obtain⟨c,hc⟩:=h _ ax rfl;have U:cellOf env n=pure c:=by
    unfold cellOf;rw[show env.cells.lookup n=Z8 c from hc]
   have Y:pL env ((n,.free)::r) Z=pL env r ((n,c)::Z):=by
    show pL env r (if NameKind.free=.free then (match env.cells.lookup n with|some c=>(n,c)::Z|none=>Z) else Z)=_;rw[if_pos rfl,show env.cells.lookup n=Z8 c from hc]
   rw[Y,<- V];simp[U]
  ·have Y:pL env ((n,k)::r) Z=pL env r Z:=by
    show pL env r (if k=.free then _ else Z)=_;rw[if_neg hk]
   rw[Y,<- V];have e3:(k==NameKind.free)=false:=by simp_all
   simp[e3]
theorem za{env:Env}:∀{names:List (Str×kM)} {Y:List (Str×ae)} {n:Str} {c:ae},(∀n c,Y.lookup n=Z8 c->env.cells.lookup n=Z8 c)->(pL env names Y).lookup n=Z8 c->env.cells.lookup n=Z8 c
 | [],_,_,_,h,e=>h _ _ e
 |(m,k)::r,Y,n,c,h,e=>by
  refine za (names:=r) (fun V W Z=>?_) e
  by_cases hk:k=.free
  ·rw[if_pos hk]at Z
   cases hm:env.cells.lookup m with
   |none=>
    rw[hm]at Z;exact h _ _ Z
   |some d=>
    rw[hm]at Z;dsimp only at Z;rw[cM]at Z
    split at Z
    ·rename_i z
     rw[eq_of_beq z,hm];exact Z
    ·exact h _ _ Z
  ·rw[if_neg hk]at Z;exact h _ _ Z
theorem wJ{env:Env}:∀(names:List (Str×kM)) (Z:List (Str×ae)) (n:Str),(∃c,Z.lookup n=Z8 c)->∃c,(pL env names Z).lookup n=Z8 c
 | [],_,_,h=>h
 |(m,k)::r,Z,n,h=>by
  refine wJ r _ n ?_
  by_cases hk:k=.free
  ·rw[if_pos hk]
   cases hm:env.cells.lookup m with
   |none=>exact h
   |some d=>
    dsimp only;rw[cM]
    split
    ·exact{_,Z9}
    ·exact h
  ·rw[if_neg hk];exact h
theorem zb{env:Env}:∀{names:List (Str×kM)} {Z:List (Str×ae)} {n:Str},(n,NameKind.free)∈names->(∃c,env.cells.lookup n=Z8 c)->∃c,(pL env names Z).lookup n=Z8 c
 | [],_,_,h,_=>by cases h
 |(m,k)::r,Z,n,h,hc=>by
  rcases aE.mp h with e|e
  ·obtain⟨W,Y⟩:=Prod.mk.inj e;subst W Y;obtain⟨c,hc⟩:=hc;refine wJ r _ n {c,?_};rw[if_pos rfl,hc];rw[cM,beq_self_eq_true]
  ·exact zb (names:=r) e hc
structure iU(X:Cx)(scope:jS)(NN:List Str):Prop where
 nocell:∀y∈scope.names,y.2≠.cell
 kind:scope.kind=.function
 names:∀y∈scope.names,y.2=.local->scope.names.lookup y.1=Z8 .local
 far:∀y∈scope.names,y.2=.free->X.env.kindOf y.1=Z8 .cell\/X.env.kindOf y.1=Z8 .free
 len:NN.length=X.N.length
 apart:∀(i:Nat) (n:Str),NN[i]?=Z8 n->scope.names.lookup n≠Z8 .local/\(X.N[i]?=Z8 n\/scope.names.lookup n=Z7)
theorem iU.closed{X:Cx}{Z:jS}(W:∀y∈Z.names,y.2≠.free)(hc:∀y∈Z.names,y.2≠.cell)(hk:Z.kind=.function)(Y:∀y∈Z.names,y.2=.local->Z.names.lookup y.1=Z8 .local)
  (ha:∀n∈X.N,Z.names.lookup n≠Z8 .local):iU X Z X.N where
 nocell:=hc
 kind:=hk
 names:=Y
 far:=fun y hy e=>absurd e (W y hy)
 len:=rfl
 apart:=fun i n e=>{ha n (bJ e),.inl e}
theorem iU.open{X:Cx}{Z:jS}{NN N:List Str}{sc:jS}(U:X.N=N)(Y:X.env.scope=sc)(hc:∀y∈Z.names,y.2≠.cell)(hk:Z.kind=.function)(R:∀y∈Z.names,y.2=.local->Z.names.lookup y.1=Z8 .local)
  (O:∀y∈Z.names,y.2=.free->sc.names.lookup y.1=Z8 .cell) (W:NN.length=N.length) (ha:∀p∈NN.zip N,Z.names.lookup p.1≠Z8 .local/\(p.2=p.1\/Z.names.lookup p.1=Z7)):iU X Z NN where
 nocell:=hc
 kind:=hk
 names:=R
 far:=fun y hy e=>.inl (by have z:=O y hy e;rw[<- Y]at z;exact z)
 len:=by rw[U];exact W
 apart:=fun i n e=>by
  have lt:i<N.length:=by rw[<- W];exact (aC.mp e).1
  have V:=aI lt;have z:=ha (n,N[i]) (bJ (by rw[xK];exact⟨e,V⟩));refine{z.1,?_}
  rcases z.2 with z|z
  ·left
   rw[U,V];exact congrArg Z8 z
  ·exact .inr z
abbrev cxC(X:Cx)(Z:jS)(V:List Str)(fp:List ae)(W:aw)(Y:Hp)(C:ae):Cx:=
 {X with N:=V,s₀:=W,H₀:=Y,env:=compEnvC Z (pL X.env Z.names []) C X.env,outer:=X.stack,ex:=fp,fn:=fun _=>false,pn:=[],xe:=fun _ _=>False}
def PTs(X:Cx)(Z:List c8)(t:TT):Prop:=
 ∀(pins:List (ae×Obj)) (s:aw) (σ:St) (H:Hp) (Q:Bool->Hp->Prop),Inv X pins σ H s->t σ H Q ->
  bQ (bR X.prog X.w) X.A (forIn Z true fun c r=>if r=true then do let ok <- Ep c X.env (gc c X.env);pure (ForInStep.yield ok) else pure (ForInStep.yield r)) (TP X pins σ Q) X.xe s
def xM:TT:=fun _ H Q=>Q true H
theorem mI{X:Cx}:PTs X [] xM:=fun pins s σ H Q I h=>wpAny_tests_nil ⟨H,I,h⟩
theorem Bx{X:Cx}{c:c8}{t:TT}(h:PT X c t):PTs X [c] t:=fun pins s σ H Q I q=>wpAny_tests_one (h pins s σ H Q I q)
def uM(n:Nat)(M:TI)(g:TG)(tc:TT)(te:TE):TE:=fun σ H Q=>M σ H fun J H1=>∃W:Nat->Nat->List V->Hp->Prop,(∃m,W 0 m [] H1)/\∀i m ys H,W i m ys H->ys.length<aG /\
 ((J.stop i H/\∀p,H p=Z7->Q (.ref p) (upd H p (.lst ys))) \/
  (J.go i H/\∃N:List V->Hp->Prop,(∀Y H',N Y H'->∃U,U<m/\W (i+1) U Y H')/\∀x H',J.yld i H x H'->g x (cT n Z7++σ) H' fun Z H2=>Z.drop n=σ/\tc Z H2 fun b R=>
   if b=true then te Z R fun y O=>N (ys++[y]) O else N ys R))
section
variable{X:Cx}
theorem zc{σ Z:St}{n:Nat}(h:Z.drop n=σ)(i:Nat)(v:V)(e:(cT n Z7++σ)[i]?=Z8 (Z8 v)):Z[i]?=Z8 (Z8 v):=by
 by_cases hi:i<n
 ·rw[fu (by simpa using hi),oS,if_pos hi]at e
  cases dy e
 ·rw[dM (by simpa using hi),kr]at e;rw[<- h,Ei]at e;rw[show n+(i-n)=i by omega]at e;exact e
theorem zd{fG R t:c8}{gd:List c8}{Z:jS}{NN:List Str}{pos pos':Pos}{wi:TI}{g:TG}{tc:TT}{te:TE}{use:Option (aj->Sem Unit)}{Qv:aj->aw->Prop}(own:List Str)(ok:iU X Z NN)(hc:X.calm=true)(hi:PI X R t wi)
  (hg:∀fp E f C,PG (cxC X Z (own++NN) fp E f C) R g) (ht:∀fp E f C,PTs (cxC X Z (own++NN) fp E f C) gd tc) (he:∀fp E f C,PE (cxC X Z (own++NN) fp E f C) fG te)
  (hs:∀x,o8 t X.env x=pure x) {pins:List (ae×Obj)} {s:aw} {σ:St} {H:Hp} {Q:VK} (I:Inv X pins σ H s) (h:uM own.length wi g tc te σ H Q)
  (ft:∀(s4:aw) (C D:ae) (H':Hp) (m:Str->Option aj),s4.heap.Ns C m->Inv X pins σ H' s4->H' C=Z7->C≠X.env.locals->X.s₀.heap.objs.size<=C->(∀x c,X.env.cells.lookup x=Z8 c->c≠C)->(∀p∈X.pn++pins,p.1≠C)->Q (.ref D) H' ->
   compPost (bR X.prog X.w) X.A X.xe use Qv (.ref D) C (.ok .next) s4) :
  bQ (bR X.prog X.w) X.A (comprehension (.ListComp fG [{R,t,gd,0}] Z pos) Z X.env pos' (newList []) false (gc t X.env) use) Qv X.xe s:=by
 have eD:=fun y hy e=>I.ok.has _ (ok.far y hy e);have gq:closureFor Z X.env=pure (pL X.env Z.names []):=by
  unfold closureFor;rw[<- y9 Z.names [] eD];simp
 have Y:∀n c,(pL X.env Z.names []).lookup n=Z8 c->X.env.cells.lookup n=Z8 c:=fun n c e=>za (fun n c e=>by simp at e) e;have gM:∀n,(Z.names.lookup n=Z8 .cell\/Z.names.lookup n=Z8 .free)->(∃c,(pL X.env Z.names []).lookup n=Z8 c)/\(X.env.kindOf n=Z8 .cell\/X.env.kindOf n=Z8 .free):=fun n e=>by
  rcases e with e|e
  ·exact absurd rfl (ok.nocell _ (gx e))
  ·have m:=gx e;exact{zb m (eD _ m rfl),ok.far _ m rfl}
 refine wpAny_comprehension_free (use:=use) rfl hs gq ok.kind ok.names (thn (hi pins s σ H _ I h) fun xv s1 h1=>thn h1 fun ej s2 h2=>Z0 fun Gz gz=>?_);obtain⟨it,fp,tn,J,H2,e,M,T,fz,f2,W,⟨m0,w0⟩,turn⟩:=h2;subst e;refine gz ?_;have gw:∀b∈fp,b<s2.heap.objs.size:=fun b hb=>by
  obtain⟨o,e,_⟩:=T.obj _ _ fz b hb;exact aS e
 refine vK (wpAny_newFunctionEnv ok.nocell (by intro y hy;simp at hy) (fun h1 fa ge=>?_) ok.kind);generalize hP:s2.heap.push {cls:=.type "list",dict:=Z7,data:=.seq ([]:List aj).toArray}=P at fa ge |-;have hC:P.objs.size=s2.heap.objs.size+1:=by rw[<- hP,mE]
 have eH:s2.heap.objs.size≠P.objs.size:=by rw[hC];exact aR (jv _)
 have hf:s2.heap.objs.size<=P.objs.size:=by rw[hC];exact e9 _
 have old:=fun b o e=>
  ge.extBut b o (by rw[hC];exact aR (gv (aS e))) (aK _ (hP ▸ aK _ e))
 have fy:(cxC X Z (own++NN) fp s2 H2 P.objs.size).Ok:=by
  refine⟨I.ok.mod,ok.kind,I.ok.glob,I.ok.blt,by show s2.heap.objs.size<=P.objs.size;omega,fun y z c a b=>I.ok.inj y z c (Y _ _ a) (Y _ _ b),fun y hy=>(gM y (xJ hy)).1,fun y c z _=>t9 z,I.ok.hd,I.ok.frames,.inl rfl,
   fun b hb=>{fun z=>?_,fun y c e=>(f2 b hb).2.2.2.2.1 y c (Y _ _ e)},M.bs,cR I.ok.bsz M.sz,fun b o e hb=>?_,fun b hb z=>?_,M.stack,M.stkFree⟩
  ·exact aR (bT (gw b hb) hf) z
  ·rcases (f2 b hb).2.2.2.1 with q|q
   ·exact I.ok.noex b o e q
   ·exact absurd (bT (aS e) (cR I.ok.bsz q)) (gK _)
  ·rcases aE.mp (M.stkSub b z) with q|q
   ·exact (f2 b hb).2.1 q
   ·exact (f2 b hb).2.2.1 q
 have fpOk:∀{H':Hp} {o:Obj},(∀b∈fp,H' b=Z7)->∀b∈fp,xp (cxC X Z (own++NN) fp s2 H2 P.objs.size) [(s2.heap.objs.size,o)] H' b:=fun {H' o} hn b hb=>by
  have lt:=gw b hb;refine{hn b hb,fun z=>?_,fun z=>fy.exfs b hb z,.inl hb,fun y c e=>(fy.exf b hb).2 y c e,fun p hp z=>?_}
  ·exact aR (bT lt hf) z
  ·have gg:p=(s2.heap.objs.size,o):=by simpa using hp
   subst gg;exact aR lt (Eq.symm z)
 have gn:∀y c,(pL X.env Z.names []).lookup y=Z8 c->c<s2.heap.objs.size:=fun y c e=>by
  obtain⟨v,q⟩:=M.cell y c (Y _ _ e);exact q.lt
 have start:Inv (cxC X Z (own++NN) fp s2 H2 P.objs.size) [] (cT own.length Z7++σ) H2 {s2 with heap:=h1,toks:=s2.toks+([]:List (Str×aj)).length}:=by
  refine{fy,Z9,M.bare,Un.kept old,{_,fa,fun i y v e1 e2 e3=>?_},fun y c e=>?_,M.hok.fresh (by show s2.heap.objs.size<=P.objs.size;omega),fun y c e=>M.freeC y c (Y _ _ e),fun p hp=>absurd (show p∈([]:List (ae×Obj)) from by simpa using hp) (by simp),M.hok.kept old,?_}
  ·by_cases hi:i<own.length
   ·rw[fu (by simpa using hi),oS,if_pos hi]at e2;exfalso
    cases dy e2
   ·have eo:NN[i-own.length]?=Z8 y:=by
     have z:=e1;rw[dM (by lia)]at z;exact z
    rw[dM (by simpa using hi),kr]at e2;obtain⟨ey,ew⟩:=ok.apart _ y eo
    rcases e3 with e3|e3
    ·exact absurd (y8 e3) ey
    ·obtain⟨⟨c,fx⟩,kc⟩:=gM y (xJ e3);have er:X.N[i-own.length]?=Z8 y:=by
      rcases ew with z|z
      ·exact z
      ·rcases xJ e3 with q|q<;>(rw[z]at q;cases q)
     obtain⟨m,hn,hl⟩:=M.loc;obtain⟨u,r,l⟩:=hl (i-own.length) y v er e2 (.inr kc);refine{u,r,.inr {e3,c,fx,?_}}
     rcases l with⟨l,_⟩|⟨_,c',e',q⟩
     ·rcases kc with kc|kc<;>(rw[l]at kc;exfalso;cases kc)
     ·rw[Y _ _ fx]at e';injection e' with e';subst e';exact q.keeps old
  ·obtain⟨v,q⟩:=M.cell y c (Y _ _ e);exact{v,q.keeps old}
  ·show (cT own.length Z7++σ).length=(own++NN).length;rw[aB,aB,kr,M.len,ok.len]
 have gt:=eH;have el:s2.heap.objs.size∉frs X.stack:=fun z=>by
  rcases aE.mp (M.stkSub _ z) with q|q
  ·exact aR M.lt (Eq.symm q)
  ·exact M.nofs (aF _) q
 have loop:∀s₃:aw,s₃={s2 with heap:=h1,toks:=s2.toks+([]:List (Str×aj)).length} ->
   mi (bR X.prog X.w) X.A (.compLoop (.ListComp fG [{R,t,gd,0}] Z pos) 0 (.ref it) (.ref s2.heap.objs.size) (compEnvC Z (pL X.env Z.names []) P.objs.size X.env))
    (compPost (bR X.prog X.w) X.A X.xe use Qv (.ref s2.heap.objs.size) P.objs.size) s₃:=by
  rintro s₃ rfl;refine xI (fun n s'=>∃(i:Nat) (ys:List V) (H':Hp) (U:List aj) (k:Nat),Inv (cxC X Z (own++NN) fp s2 H2 P.objs.size) [] (cT own.length Z7++σ) H' s'/\tn i s'.heap/\(∀b∈fp,H' b=Z7)/\H' s2.heap.objs.size=Z7/\dv ys U /\
   s'.heap.get? s2.heap.objs.size=Z8 {cls:=.type "list",data:=.seq U.toArray k}/\W i n ys H') ?_ m0
   {0,[],H2,[],0,start,T.keep _ _ _ fz (fun b _ o e=>old b o e),fun b hb=>(f2 b hb).1,M.hok.fresh (aF _),.nil,(ge.extBut _ _ eH (aK _ (hP ▸ cA _ rfl))),w0}
  intro n s3 qz;refine Z0 fun Gz gz=>?_;obtain⟨i,ys,H3,U,k,I3,fw,eL,nD,rv,hD,w3⟩:=qz;refine gz ?_;have Ip:Inv (cxC X Z (own++NN) fp s2 H2 P.objs.size) [(s2.heap.objs.size,{cls:=.type "list",data:=.seq U.toArray k})] (cT own.length Z7++σ) H3 s3:=I3.pins_of fun p hp=>by
   have gg:p=(s2.heap.objs.size,{cls:=.type "list",data:=.seq U.toArray k}):=by simpa using hp
   subst gg;exact{hD,nD,gt,el,fun v z=>by cases z}
  obtain⟨hl,hw⟩:=turn i n ys H3 w3
  rcases hw with⟨fe,fin⟩|⟨go,N,hN,step⟩
  ·refine thn (T.done (cxC X Z (own++NN) fp s2 H2 P.objs.size) rfl rfl rfl hc i _ s3 _ H3 _ Ip (fpOk eL) fw fe) fun r s4 z=>?_;refine Z0 fun Gz gz=>?_;obtain⟨hr,I4⟩:=z;subst hr;obtain⟨m,hn,_⟩:=I4.loc;obtain⟨h',fo⟩:∃h',h'=s4.heap:={_,Z9};have ha:∀b o,b≠P.objs.size->s4.heap.get? b=Z8 o->h'.get? b=Z8 o:=fun b o hb e=>by rw[fo];exact e
   have G:∀b o,s2.heap.get? b=Z8 o->b≠P.objs.size/\b≠s2.heap.objs.size:=fun b o e=>by
    have lt:=aS e;exact{aR (bT lt hf),aR lt}
   have O:∀b u,H3 b=Z8 u->b≠P.objs.size/\b≠s2.heap.objs.size:=fun b u e=>by
    refine{fun z=>?_,fun z=>?_}
    ·have q:H3 P.objs.size=Z7:=I4.free;rw[<- z,e]at q
     cases q
    ·rw[z,nD]at e
     cases e
   have un:Un (frs X.stack) fp H2 (upd H3 s2.heap.objs.size (.lst ys)) s2.heap h':=by
    have B:=I4.base;refine{fun b o e q hb hx=>ha b o (G b o e).1 (B.keep b o e q hb hx),fun b o e q hb hx=>?_,fun b o e q hx=>?_,fun b o e hx=>?_,fun b xs e=>?_,fun b o u e=>?_,fun b ps e=>?_}
    ·obtain⟨sl,e1⟩:=B.slot b o e q hb hx;exact{sl,ha _ _ (G b o e).1 e1}
    ·rw[aW (G b o e).2];exact B.free b o e q hx
    ·obtain⟨o',e1⟩:=B.there b o e hx;exact{o',ha _ _ (G b o e).1 e1}
    ·have q:=B.tups b xs e;rw[aW (O _ _ q).2];exact q
    ·have q:=B.frzs b o u e;rw[aW (O _ _ q).2];exact q
    ·obtain⟨more,q⟩:=B.tbls b ps e;refine{more,?_};rw[aW (O _ _ q).2];exact q
   have ez:HOk X.prog X.w (upd H3 s2.heap.objs.size (.lst ys)) h':=fun b u e=>by
    by_cases hb:b=s2.heap.objs.size
    ·subst hb;rw[ak]at e;injection e with e;subst e;exact{jZ hl,U,k,rv,ha _ _ gt ((I4.pin _ (aV _ ax)).1)}
    ·rw[aW hb]at e;refine (I4.hok b u e).stay (fun c v hc q=>ha c v ?_ q) (fun c q=>?_) fun c xs q=>?_
     ·rcases hc with z|z
      ·rw[z];exact (O _ _ e).1
      ·exact (O _ _ z).1
     ·rw[aW (O _ _ q).2];exact q
     ·rw[aW (O _ _ q).2];exact q
   have J:=M.call' (s':={s4 with heap:=h'}) (ch:=fp) I4.os un ez I4.bare fun b hb=>{(f2 b hb).2.2.2.1,(f2 b hb).2.1,(f2 b hb).2.2.2.2.1,(f2 b hb).2.2.2.2.2};subst fo;refine gz ?_;refine ft s4 P.objs.size s2.heap.objs.size (upd H3 s2.heap.objs.size (.lst ys)) m hn J ?_ ?_ ?_ (fun y c e=>?_) (fun q hq=>?_) (fin _ nD)
   ·rw[aW gt.symm];exact I4.free
   ·exact pj (bT M.lt hf)
   ·exact cR M.sz hf
   ·obtain⟨v,z⟩:=M.cell y c e;exact aR (bT z.lt hf)
   ·exact aR (bT (aS (M.pin q hq).1) hf)
  ·refine thn (T.item (cxC X Z (own++NN) fp s2 H2 P.objs.size) rfl rfl rfl hc i _ s3 _ H3 _ Ip (fpOk eL) fw go) fun r s4 z=>?_;obtain⟨u,hr,h4⟩:=z;subst hr;refine thn h4 fun _ s5 z=>?_;refine Z0 fun Gz gz=>?_;obtain⟨x,H5,I5,r5,y5,ga,em⟩:=z;refine gz ?_;have eu:=I5.pinned (fpOk em) (T.obj _ _ ga);refine thn (hg fp s2 H2 P.objs.size _ s5 _ H5 x u _ eu r5 (step x H5 y5)) fun _ s6 z=>?_;refine Z0 fun Gz gz=>?_;obtain⟨hh,H6,I6,fb,q6⟩:=z;refine gz ?_;refine thn (ht fp s2 H2 P.objs.size _ s6 hh H6 _ I6 q6) fun ek s7 z=>?_;obtain⟨H7,I7,q7⟩:=z;have gk:∀{H8:Hp} {s8:aw},Inv (cxC X Z (own++NN) fp s2 H2 P.objs.size) ([(s2.heap.objs.size,{cls:=.type "list",data:=.seq U.toArray k})]++sy fp s5.heap) hh H8 s8 ->
     s8.heap.get? s2.heap.objs.size=Z8 {cls:=.type "list",data:=.seq U.toArray k}/\H8 s2.heap.objs.size=Z7:=fun I8=>by
    have z:=I8.pin (s2.heap.objs.size,{cls:=.type "list",data:=.seq U.toArray k}) (aV _ (dD _ ax));exact⟨z.1,z.2.1⟩
   have gh:∀{H8:Hp} {s8:aw},Inv (cxC X Z (own++NN) fp s2 H2 P.objs.size) ([(s2.heap.objs.size,{cls:=.type "list",data:=.seq U.toArray k})]++sy fp s5.heap) hh H8 s8 ->
     tn (i+1) s8.heap/\∀b∈fp,H8 b=Z7:=fun {H8 s8} I8=>by
    refine{T.keep _ _ _ ga fun b hb o e=>(I8.pin (b,o) (aV _ (aV _ (om hb e)))).1,fun b hb=>?_};obtain⟨o,e,_⟩:=T.obj _ _ ga b hb;exact (I8.pin (b,o) (aV _ (aV _ (om hb e)))).2.1
   have gl:(cT own.length Z7++σ).length=hh.length:=by rw[I6.len,start.len]
   cases ek with
   |false=>
    have et:N ys H7:=q7;refine Z0 fun Gz gz=>?_;obtain⟨m',lt,w'⟩:=hN _ _ et;obtain⟨d1,d2⟩:=gk I7;obtain⟨p1,p2⟩:=gh I7;refine gz ?_;have J7:Inv (cxC X Z (own++NN) fp s2 H2 P.objs.size) [] hh H7 s7:=I7.pins_of (fun p hp=>absurd hp (by simp));exact{m',lt,i+1,ys,H7,U,k,J7.weak gl (zc fb),p1,p2,d2,rv,d1,w'}
   |true=>
    refine thn (he fp s2 H2 P.objs.size _ s7 hh H7 _ I7 q7) fun v8 s8 z=>?_;refine Z0 fun Gz gz=>?_;obtain⟨y,H8,I8,r8,n8⟩:=z;obtain⟨m',lt,w'⟩:=hN _ _ n8;obtain⟨d1,d2⟩:=gk I8;obtain⟨p1,p2⟩:=gh I8;refine gz ?_;refine append_at (hsz:=by rw[aJ,<- rv.length];exact jZ hl) d1 fun h9 sb ep=>?_;have J8:Inv (cxC X Z (own++NN) fp s2 H2 P.objs.size) [] hh H8 s8:=I8.pins_of (fun p hp=>absurd hp (by simp));have J9:Inv (cxC X Z (own++NN) fp s2 H2 P.objs.size) [] hh H8 {s8 with heap:=h9}:=J8.turned (t':=s8.toks) (it:=s2.heap.objs.size) (fun b o hb e=>sb.extBut b o hb e) d2 gt (.inr (aF _)) (fun y c e=>aR (gn y c e)) (fun p hp=>absurd hp (by simp));refine{m',lt,i+1,ys++[y],H8,U++[v8],k+1,J9.weak gl (zc fb),T.keep _ _ _ p1 (fun b hb o e=>sb.extBut b o (aR (gw b hb)) e),p2,d2,rv.append (.cons r8 .nil),?_,w'};show h9.get? _=_;rw[ep,List.push_toArray]
 exact codeAny_compStart_list (loop _ rfl) (T.self X.A 0 _ _ _ (T.keep _ _ _ fz (fun b _ o e=>old b o e)) (loop _ rfl))
theorem oA{R Y U:c8}{O:List c8}{Z:jS}{NN:List Str}{pos:Pos}{M:TI}{g:TG}{tc:TT}{te:TE}(own:List Str)(ok:iU X Z NN)(hc:X.calm=true)(hi:PI X Y U M)
  (G:∀fp W V C,PG (cxC X Z (own++NN) fp W V C) Y g) (ht:∀fp W V C,PTs (cxC X Z (own++NN) fp W V C) O tc) (he:∀fp W V C,PE (cxC X Z (own++NN) fp W V C) R te)
  (hs:∀x,o8 U X.env x=pure x:=by intro _;rfl):PE X (.ListComp R [{Y,U,O,0}] Z pos) (uM own.length M g tc te):=by
 intro pins s σ H Q I h;exact zd own ok hc hi G ht he hs I h fun t C D H' m hn J f z n3 n4 B q=>{m,hn,fun h' E=>{.ref D,H',J.turned (t':=t.toks) (fun b o hb e=>E.extBut b o hb e) f z (.inr n3) n4 B,Z9,q}}
theorem xO{O Y U:c8}{M:List c8}{Z:jS}{NN:List Str}{pos pos' R:Pos}{f:TI}{g:TG}{tc:TT}{te:TE}{i:Nat}{x:Str}(own:List Str)(ok:iU X Z NN)(hc:X.calm=true)(hN:X.N.Nodup)(E:X.N[i]?=Z8 x)(hx:Loc X.env.scope x)(hi:PI X Y U f)
  (hg:∀fp W V C,PG (cxC X Z (own++NN) fp W V C) Y g) (ht:∀fp W V C,PTs (cxC X Z (own++NN) fp W V C) M tc) (he:∀fp W V C,PE (cxC X Z (own++NN) fp W V C) O te)
  (hs:∀x,o8 U X.env x=pure x:=by intro _;rfl) (hf:X.fn x=true\/X.env.scope.names.lookup x=Z8 .local:=by first|exact .inl rfl|exact .inr rfl|assumption)
  (B:qB (.ListComp O [{Y,U,M,0}] Z pos) (Z8 (.Name x pos')) R.line X.env=pure true:=by rfl):PS X (.Assign [.Name x pos'] (.ListComp O [{Y,U,M,0}] Z pos) R) (Ew (uM own.length f g tc te) (vY i)):=by
 intro pins s σ H D I h;rw[exec_Assign_Name_used _ _ _ _ B];refine au (Cv (au (au (eJ (zd own ok hc hi hg ht he hs I h fun s4 C DD H' m hn J n1 t n3 n4 n5 q=>Oc (vW J hN E hx (show RelV (.ref DD) (.ref DD) from rfl) (fun s' J' z=>?_) hf)) (fun _ s' hq=>bK (bK hq)) fun _ _ e=>e))));obtain⟨a,sb,ha⟩:=z;have na:C≠a:=by
  rcases ha with ha|ha
  ·rw[ha];exact t
  ·exact (n4 x a ha).symm
 refine{m,hn.at' fun o e=>sb.extBut C o na e,fun h' G=>{_,H',J'.turned (t':=s'.toks) (fun b o hb e=>G.extBut b o hb e) n1 t (.inr n3) n4 n5,q}}
end
section
variable{K:af}{a:ae}{xs:List V}{n:Nat}{g:TG}{tc:TT}{te:TE}{σ:St}{H:Hp}{Q:VK}
theorem qe(Y:Nat->List V->Hp->Prop)(E:Y 0 [] H)(G:∀i ys H,i<=xs.length->Y i ys H->SqL K H a xs/\ys.length<aG)
  (hs:∀i x ys H,xs[i]?=Z8 x->Y i ys H->g x (cT n Z7++σ) H fun Z H2=>Z.drop n=σ/\tc Z H2 fun b O=>if b=true then te Z O fun y M=>Y (i+1) (ys++[y]) M else Y (i+1) ys O)
  (D:∀ys H,Y xs.length ys H->∀p,H p=Z7->Q (.ref p) (upd H p (.lst ys))) :
  ∃W:Nat->Nat->List V->Hp->Prop,(∃m,W 0 m [] H)/\∀i m ys H,W i m ys H->ys.length<aG/\(((Itl K a).stop i H/\∀p,H p=Z7->Q (.ref p) (upd H p (.lst ys))) \/
   ((Itl K a).go i H/\∃N:List V->Hp->Prop,(∀U H',N U H'->∃J,J<m/\W (i+1) J U H')/\∀x H',(Itl K a).yld i H x H'->g x (cT n Z7++σ) H' fun Z H2=>Z.drop n=σ/\tc Z H2 fun b O=>
    if b=true then te Z O fun y M=>N (ys++[y]) M else N ys O)):=by
 refine{fun i m ys H=>m=xs.length-i/\i<=xs.length/\Y i ys H,{xs.length,by simp,bE _,E},?_};rintro i m ys H ⟨rfl,hi,p⟩;obtain⟨q,z⟩:=G i ys H hi p;refine{z,?_}
 by_cases R:i<xs.length
 ·refine .inr {{xs,xs[i],q,by simp[R]},Y (i+1),fun U H' I=>{xs.length-(i+1),by lia,Z9,R,I},fun x H' y=>?_};obtain⟨e,y⟩:=y;subst e;exact hs i x ys _ (y xs q) p
 ·have e:i=xs.length:=by lia
  subst e;exact .inl {{xs,q,aF _},D ys H p}
theorem E4(Y:Nat->List V->Hp->Prop)(E:Y 0 [] H)(G:∀i ys H,i<=xs.length->Y i ys H->SqT K H a xs/\ys.length<aG)
  (hs:∀i x ys H,xs[i]?=Z8 x->Y i ys H->g x (cT n Z7++σ) H fun Z H2=>Z.drop n=σ/\tc Z H2 fun b O=>if b=true then te Z O fun y M=>Y (i+1) (ys++[y]) M else Y (i+1) ys O)
  (D:∀ys H,Y xs.length ys H->∀p,H p=Z7->Q (.ref p) (upd H p (.lst ys))) :
  ∃W:Nat->Nat->List V->Hp->Prop,(∃m,W 0 m [] H)/\∀i m ys H,W i m ys H->ys.length<aG/\(((Itt K a).stop i H/\∀p,H p=Z7->Q (.ref p) (upd H p (.lst ys))) \/
   ((Itt K a).go i H/\∃N:List V->Hp->Prop,(∀U H',N U H'->∃J,J<m/\W (i+1) J U H')/\∀x H',(Itt K a).yld i H x H'->g x (cT n Z7++σ) H' fun Z H2=>Z.drop n=σ/\tc Z H2 fun b O=>
    if b=true then te Z O fun y M=>N (ys++[y]) M else N ys O)):=by
 refine{fun i m ys H=>m=xs.length-i/\i<=xs.length/\Y i ys H,{xs.length,by simp,bE _,E},?_};rintro i m ys H ⟨rfl,hi,p⟩;obtain⟨q,z⟩:=G i ys H hi p;refine{z,?_}
 by_cases R:i<xs.length
 ·refine .inr {{xs,xs[i],q,by simp[R]},Y (i+1),fun U H' I=>{xs.length-(i+1),by omega,Z9,R,I},fun x H' y=>?_};obtain⟨e,y⟩:=y;subst e;exact hs i x ys _ (y xs q) p
 ·have e:i=xs.length:=by omega
  subst e;exact .inl {{xs,q,aF _},D ys H p}
end
end L2
namespace PySem
theorem xP:As (.type "list") "keys"=pure Z7:=by rw[typeLookup_type,builtinLookup_eq_fast];kernel_rfl
theorem ze:entryFor table "dict.update.loop"=Z8 iT.«dict.update.loop»:=entryFor_of_tree (by kernel_rfl)
section
variable{prog:aQ}{w:bU}{A:b8}{E:aj->aw->Prop}{s:aw}
theorem IM{a:ae}{xs:Array aj}{k:Nat}{sl:Array (Option aj)}{Q:Option aj->aw->Prop}(hx:s.heap.get? a=Z8 {cls:=.type "list",dict:=Z7,data:=.seq xs k,slots:=sl})(R:A.handled=Z7)
  (h:∀h' tk,(∀b o,s.heap.get? b=Z8 o->h'.get? b=Z8 o)->Q Z7 {s with heap:=h',toks:=tk}):bQ (bR prog w) A (getAttr? (.ref a) "keys") Q E s:=by
 obtain⟨hp,g,d,tk,W⟩:=s;have V:∀Z,(⟨hp,g,d,Z,W⟩:aw).TypeIs (.ref a) "list":=fun _=>{_,hx,Z9};have f1:=sub_AttributeError;have O:=F.slot_list_getattribute.lookup;have M:=am_list_getattr_none;have U:∀(u:Tok) (tk:Nat) (Q:aj->aw->Prop) (E:aj->aw->Prop),(∀h' Z e,Heap.NewAttrErr hp h' e (.ref a) "keys"->E (.ref e) ⟨h',g,d,Z,W⟩)->bQ (bR prog w) A (vD (Value.builtin "list.__getattribute__") [.ref a,.str "keys" u]) Q E ⟨hp,g,d,tk,W⟩:=fun u tk Q E k1=>
  oz F.slot_list_getattribute (V _) am_entry_list_getattribute (F.args_list_getattribute_2 _ _) (meets_getattribute_miss_list a xs k sl "keys" _ xP (by decide +kernel)) {hx,R,fun h' Z e Y=>k1 h' Z e Y}
 repeat (any_goals (first|assumption|exact V _|refine U _ _ _ _ (fun h' Z e Y=>?_)|wp_step))
 obtain⟨t',I,J⟩:=Y.there
 repeat (any_goals (first|assumption|wp_step))
 exact h _ _ Y.keeps
def AB{prog:aQ}{w:bU}{K:Type}[DecidableEq K](knd:KeyKind prog w K)(h:cG)(p:K×aj)(x:aj):Prop:=
 ∃(a:ae) (Z:aj) (o:Obj) (n:Nat),x=.ref a/\h.get? a=Z8 o/\o.cls=.type "tuple"/\o.data=.seq #[Z,p.2] n/\knd.is p.1 Z=true
variable{K:Type}[DecidableEq K]{knd:KeyKind prog w K}
theorem E5{a:ae}{o:Obj}{n:Nat}{k v:aj}{Q:List aj->aw->Prop}(Z:s.heap.get? a=Z8 o)(hc:o.cls=.type "tuple")(Y:o.data=.seq #[k,v] n)(h:Q [k,v] s):bQ (bR prog w) A (Builtin.Dict.pairItems (.ref a)) Q E s:=au (wpAny_typeOf (⟨o,Z,hc⟩) (au (sJ Z Y (bK h))))
theorem By{R:EJ->aw->Prop}{it l d:ae}{items:Array aj}{Z:aj}(hA:A.handled=Z7)(hl:l≠d)(hi:it≠d)(I:it≠l):∀(ps:List (K×aj)) (i:Nat) (kvs:List (K×aj)) (s:aw) (t:Tok) (z:Int),
  s.heap.IsListIter it l i->s.heap.IsList l items->s.heap.DictOf knd d kvs->aO (fun p x=>AB knd s.heap p x/\x≠.ref d/\x≠.ref it) ps (items.toList.drop i)->kvs.length+ps.length<=aG ->
  (∀h' tk,h'.DictOf knd d (ps.foldl (fun m p=>xB m p.1 p.2) kvs)->(∀b o,b≠d->b≠it->s.heap.get? b=Z8 o->h'.get? b=Z8 o)->R (.ok (.ret Z)) {s with heap:=h',toks:=tk}) ->
  mi (bR prog w) A (.builtin "dict.update.loop" {[.ref d,.ref it,.int z t,Z],[]}) R s
 | [],i,kvs,s,t,z,U,Y,g,hp,hz,h=>by
  have G:items.toList.drop i=[]:=List.length_eq_zero_iff.mp (hp.length).symm;have hx:items[i]?=Z7:=by
   exact Array.getElem?_eq_none (List.drop_eq_nil_iff.mp G)
  refine gI ze ?_;unfold iT.«dict.update.loop»;refine au (H9 hA U Y hx fun h' eb=>au (bK (bK (h h' _ (g.extBut eb hi.symm) fun b o _ hb e=>eb b o hb e))))
 |p::ps,i,kvs,s,t,z,U,Y,g,hp,hz,h=>by
  cases e0:items.toList.drop i with
  |nil=>
   rw[e0]at hp;exfalso
   cases hp
  |cons x r=>
   rw[e0]at hp
   cases hp with
   |cons h1 h2=>
    refine Z0 fun Gz gz=>?_;obtain⟨⟨a,kv,o,n,rfl,ho,hc,cn,hk⟩,nd,ni⟩:=h1;refine gz ?_;have hx:items[i]?=Z8 (.ref a):=by
     have e:=congrArg (fun l=>l[0]?) e0;simpa using e
    have hr:items.toList.drop (i+1)=r:=by
     simpa using (congrArg List.tail e0)
    refine gI ze ?_;unfold iT.«dict.update.loop»;refine au (Ez U Y hx fun cj O sb=>au (eK (au (oB (E5 ((sb.2 a (fun q=>ni (by rw[q]))).trans ho) hc cn (eK (wpAny_dictSet_pairs hk (g.extBut sb.extBut hi.symm) (fun cp f J=>bK {Ej _ (by decide +kernel),?_}) (by simp at hz;lia))))))));have keep:=fun b B W V e=>J.extBut b B W (sb.extBut b B V e);refine By (items:=items) hA hl hi I ps (i+1) (xB kvs p.1 p.2) {s with heap:=cp,toks:=s.toks+1} _ _ ?_ ?_ f ?_ ?_ ?_
    ·obtain⟨oi,ei,ci,di⟩:=O;exact{oi,J.extBut it oi hi ei,ci,di}
    ·obtain⟨ol,el,cl⟩:=Y;exact{ol,keep l ol hl I.symm el,cl}
    ·rw[hr];clear e0 hr h hz g U O Y
     induction h2 with
     |nil=>exact .nil
     |cons q1 q2 ih=>
      refine .cons (Z0 fun Gz gz=>?_) ih;obtain⟨⟨a',da,o',n',rfl,cx,cs,M,ck⟩,E,D⟩:=q1;exact gz ({{a',da,o',n',Z9,keep a' o' (fun q=>E (by rw[q])) (fun q=>D (by rw[q])) cx,cs,M,ck},E,D})
    ·have hs:(xB kvs p.1 p.2).length<=kvs.length+1:=by
      unfold xB
      split
      ·rw[ai]
       lia
      ·simp
     simp at hz
     lia
    ·intro h' tk cr k';exact h h' tk cr fun b B W V e=>k' b B W V (keep b B W V e)
theorem IP{l:ae}{items:Array aj}{k:Nat}{sl:Array (Option aj)}{ps:List (K×aj)}{Q:aj->aw->Prop}(I:A.handled=Z7)(hx:s.heap.get? l=Z8 {cls:=.type "list",dict:=Z7,data:=.seq items k,slots:=sl})
  (hp:aO (AB knd s.heap) ps items.toList) (hz:ps.length<=aG)
  (h:∀h' tk,h'.DictOf knd s.heap.objs.size (ps.foldl (fun m p=>xB m p.1 p.2) [])->(∀b o,s.heap.get? b=Z8 o->h'.get? b=Z8 o)->Q (.ref s.heap.objs.size) {s with heap:=h',toks:=tk}) :
  bQ (bR prog w) A (vD (.type "dict") [.ref l]) Q E s:=by
 refine callType_codes (Q₁:=fun obj G=>obj=.ref s.heap.objs.size/\G={s with heap:=s.heap.push {cls:=.type "dict",data:=.dict #[]}}) F.kt_called_dict (F.kt_typeCall_dict_1 _) F.entry_dict_init (kt_code_dict_new _ ⟨Z9,Z9⟩) ?_;rintro obj G ⟨rfl,rfl⟩;have Z:(s.heap.push {cls:=.type "dict",data:=.dict #[]}).DictOf knd s.heap.objs.size []:=Aa s.heap;have up:∀b o,s.heap.get? b=Z8 o->(s.heap.push {cls:=.type "dict",data:=.dict #[]}).get? b=Z8 o:=fun b o e=>aK _ e;have V:=aS hx;refine{Z.typeIs,F.args_dict_init_2 _ _,au (au (wpAny_notOrdered_dict Z.typeIs (bK ?_)))};show bQ _ _ (Builtin.Dict.updateFrom "dict.__init__" s.heap.objs.size (.ref l) [] .none) _ _ _;refine au (wpAny_typeOf ({_,up _ _ hx,Z9}) (au (IM (up _ _ hx) I fun h1 M k1=>au (AC (au ?_)))));have U:h1.IsList l items:={_,k1 _ _ (up _ _ hx),Z9,k,Z9};refine vC (s:={s with heap:=h1,toks:=M}) U ?_;have Y:s.heap.objs.size<h1.objs.size:=by
  refine Z0 fun t O=>?_;obtain⟨o,_,_,e,_⟩:=Z;exact O (aS (k1 _ _ e))
 have W:∀b o,s.heap.get? b=Z8 o->(h1.push {cls:=.type "list_iterator",data:=.fields #[.ref l,.int 0 0]}).get? b=Z8 o:=fun b o e=>aK _ (k1 _ _ (up _ _ e));refine bK {Ej _ (by decide +kernel),By (A:=A.in1) (knd:=knd) (items:=items) I (aR V) (pj Y) (pj (pK V Y)) ps 0 [] _ _ _ ?_ ?_ ?_ ?_ ?_ ?_}
 ·exact{_,cA _ rfl,Z9,Z9}
 ·exact U.push _
 ·obtain⟨o,es,ep,e,r⟩:=Z;exact{o,es,ep,aK _ (k1 _ _ e),r}
 ·rw[KF];clear h hz;generalize items.toList=xs at hp
  induction hp with
  |nil=>exact .nil
  |cons g q2 B=>
   refine .cons (Z0 fun t O=>?_) B;obtain⟨a,z,o,n,rfl,D,hc,R,hk⟩:=g;refine O ?_;have J:=aS D;refine{{a,z,o,n,Z9,W _ _ D,hc,R,hk},fun q=>?_,fun q=>?_}
   ·injection q with q;exact aR J q
   ·injection q with q;exact aR (pK J Y) q
 ·simpa using hz
 ·intro h' tk R f;refine{Z9,h h' tk R fun b o e=>f b o ?_ ?_ (W b o e)}
  ·exact aR (aS e)
  ·exact aR (pK (aS e) Y)
end
end PySem
namespace L2
open PySem PySem.Spec PyProof.Rows
section
variable{X:Cx}
theorem wK{n:Nat}(h:n<2^64):n.log2<9000:=by
 by_cases z:n=0
 ·subst z;decide
 ·exact pK ((Nat.log2_lt z).mpr h) (by decide)
def KG(_ j:Int):Prop:=0<j/\j<2^64
theorem uN:OpR X (iK .FloorDiv) (rI KG fun i j=>.int (i/j)):=opI fun i j _ _ _ _ _ hc q=>by
 have h1:=hc.1;have h2:=hc.2;exact ED (by omega) (by rw[xq i (by omega)];exact q) (.inl (vL (wK (by omega))))
def CDivM(_ j:Int):Prop:=j≠0/\j.natAbs<2^64
theorem zf:OpR X (iK .FloorDiv) (rI CDivM fun i j=>.int (i.fdiv j)):=opI fun _ _ _ _ _ _ _ hc q=>ED hc.1 q (.inl (vL (wK hc.2)))
theorem IQ:OpR X (iK .Mult) (rI IntMulOk fun i j=>.int (i*j)):=opI fun _ _ _ _ _ _ _ hc q=>mul_int q hc
theorem d9:lG X (.builtin "isinstance") (fun xs H Q=>∃x n t b,xs=[x,.ty n]/\rA X.K H x t/\cE X.K t (.type n)=Z8 b/\Q (.bl b) H):=by
 intro pins s σ H xs W Q I r h;obtain⟨x,n,t,b,rfl,ty,e,q⟩:=h;obtain⟨u,Y,rfl,Z,rt⟩:=vals2 r
 cases (rt);exact wc I Z ty e fun tk=>{.bl b,H,I.tok _,Z9,q}
theorem rJ:lG X (.builtin "isinstance") (fun xs H Q=>∃x C t b,xs=[x,.ref C]/\rA X.K H x t/\cE X.K t (.ref C)=Z8 b/\Q (.bl b) H):=by
 intro pins s σ H xs W Q I r h;obtain⟨x,C,t,b,rfl,ty,e,q⟩:=h;obtain⟨u,Z,rfl,Y,rt⟩:=vals2 r
 cases (show Z=Value.ref C from rt);exact wc I Y ty e fun tk=>{.bl b,H,I.tok _,Z9,q}
def xQ(H:Hp):List (Key×V)->List V->Prop:=aO fun (p:Key×V) x=>∃a,x=V.ref a/\H a=Z8 (.tup [kV p.1,p.2])
theorem E6{P:aQ}{w:bU}{H:Hp}{h:cG}(ok:HOk P w H h):∀{ps:List (Key×V)} {vs:List V} {Z:List aj},xQ H ps vs->dv vs Z->∃qs:List (Key×aj),KV ps qs/\aO (AB (fV P w) h) qs Z:=by
 intro ps vs Z r
 induction r generalizing Z with
 |nil=>
  intro v
  cases v;exact{[],.nil,.nil}
 |@cons p x ps vs R z M=>
  intro v
  cases v with
  |cons O I=>
   refine Z0 fun t U=>?_;obtain⟨a,rfl,ha⟩:=R;obtain⟨qs,k1,k2⟩:=M I;subst O;obtain⟨_,W,D,o,G,hc,n,B⟩:=(ok a _ ha);obtain⟨E,J,rfl,rk,Y⟩:=vals2 D;exact U ({(p.1,J)::qs,.cons ⟨Z9,Y⟩ k1,.cons {a,E,o,n,Z9,G,hc,B,yX rk} k2})
theorem IR{ps:List (Key×V)}{qs:List (Key×aj)}(r:KV ps qs):∀{m:List (Key×V)} {n:List (Key×aj)},KV m n->KV (ps.foldl (fun m p=>jU m p.1 p.2) m) (qs.foldl (fun m p=>xB m p.1 p.2) n):=by
 induction r with
 |nil=>
  intro m n k;exact k
 |@cons p q ps qs h t Z=>
  intro m n k;obtain⟨h1,h2⟩:=h;rw[vy,vy,<- h1];exact Z (k.put p.1 h2)
theorem zg(ps:List (Key×V)):∀m:List (Key×V),(ps.foldl (fun m p=>jU m p.1 p.2) m).length<=m.length+ps.length:=by
 induction ps with
 |nil=>
  intro m;exact aF _
 |cons p ps Z=>
  intro m;rw[vy,cw];have h1:=Z (jU m p.1 p.2);have h2:=pI m p.1 p.2
  lia
theorem AD(hc:X.calm=true):lG X (.type "dict") (fun xs H Q=>∃p vs ps,xs=[V.ref p]/\H p=Z8 (.lst vs)/\xQ H ps vs/\ps.length<=aG/\∀d,H d=Z7->Q (.ref d) (upd H d (.dK (ps.foldl (fun m p=>jU m p.1 p.2) [])))):=by
 intro pins s σ H xs G Q I r h;refine Z0 fun E W=>?_;obtain⟨p,vs,ps,rfl,hp,Y,hz,q⟩:=h;obtain⟨u,rfl,U⟩:=vals1 r;subst U;obtain⟨_,Z,n,M,O⟩:=(I.hok p _ hp);obtain⟨qs,k1,k2⟩:=E6 I.hok Y M;refine W (IP (I.ok.hd hc) O k2 (k1.length ▸ hz) fun h' tk J kk=>?_);have R:=zg ps [];exact{.ref s.heap.objs.size,_,I.laid (t':=tk) kk (aF _) (uL (by simp at R;lia) (beq_eq_false_iff_ne.mpr (dB (aR I.big))) (IR k1 .nil) J),Z9,q _ (I.hok.fresh (aF _))}
end
end L2
namespace Att
open PySem PySem.W PySem.Calls PyProof.Rows
theorem weight_mem:∀(xs:List WData) (x:WData),x∈xs->zh x<=uO xs
 | [],_,h=>by cases h
 |y::r,x,h=>by
  unfold uO
  rcases aE.mp h with e|e
  ·subst e;omega
  ·have:=weight_mem r x e
   lia
theorem bits_of_lay{ns:List Int}(h:WData.layableAll [WData.list (ns.map WData.int)]=true):∀n∈ns,eZ n<=1048576:=fun n Z=>by
 have h2:=of_decide_eq_true (Bool.and_eq_true_iff.mp ((layW_cons h).1)).2;have W:=weight_mem (ns.map WData.int) (WData.int n) (cD.mpr ⟨n,Z,Z9⟩);have V:zh (WData.list (ns.map WData.int))=uO (ns.map WData.int):=by rfl
 have Y:zh (WData.int n)=eZ n:=by rfl
 lia
theorem attach_callB{l:OpenLaw}{n:Nat}{q:aQ}{W:List Str}{B:(Str->Option aj)->cG->Prop}{z:bU->cG->Prop}{d:DefRec}
  (hn:l.most=Z8 n) (bG:d.params.defaults=[])
  (vD:∀(w:bU) (s₀ Z:aw) (mg E:Str->Option aj) (J:ae) (a:ae) (vs:List aj) (ns:List Int),
   Ground q W [] B w s₀ mg E Z.heap->z w Z.heap->mg d.name=Z8 (.ref J) ->
   Z.heap.get? a=Z8 {cls:=.type "list",data:=.seq vs.toArray}->gp vs ns->ns.length<=n->(∀x∈ns,eZ x<=1048576)->Z.gens=#[] ->
   mi (bR l.prog w) z9 (.call (.ref J) {[.ref a],[]}) (fun r s'=>r=.ok (.ret (.bool true))/\OldK Z.heap s'.heap/\s'.os=Z.os/\o6 s'.gens) Z) :
  WalkO q W B z l.row.toRowW d [] (fun f vs=>CV f vs):=by
 intro w s₀ Z mg E G Y J o pm cd bB dV kV ho hd bz hD D g args t as O M hrd I bw;obtain⟨a,vs,ns,rfl,rfl,U,V,R⟩:=script_of hn O I;refine enter_call (ng (vD w s₀ Z mg E J a vs ns G Y D U V R (bits_of_lay M) g) fun r s' hq=>?_);obtain⟨rfl,h2,h3,h4⟩:=hq;exact{.inl {.bool true,.bool true,[],Z9,fun _=>rfl,.bool true,post_true l _,fun _=>{List.Pairwise.nil,fun _ hm=>(nomatch hm)}},h2,h3,h4}
end Att
namespace L2
open PySem PySem.Spec PyProof.Rows
theorem walk_ofB{l:tO}{n k:Nat}{q:aQ}{R:List Str}{XP:(Str->Option aj)->cG->Prop}{YP:bU->cG->Prop}{d:DefRec}{K:Params->af}{CX:bU->CXT}{sp:bU->Sp}{x:Str}
  (hn:l.most=Z8 n) (z:n<=aG) (I:d.params.defaults=[]) (hr:e8 k z9)
  (hY:∀(w:bU) (h:cG),YP w h->(K w.params).In h)
  (F:∀(w:bU) (mg:Str->Option aj) (J:ae) (h:cG),(K w.params).In h->h.Ns cv mg->mg d.name=Z8 (.ref J) ->
   ∃fd:cm,(∀(s:aw) (u:aj),sZ s fd {[u],[]} [(x,u)]) /\
    ∀base:cG,(K w.params).In base->base.Ns cv mg->cg l.prog w (K w.params) mg base (CX w) k J fd [x] (sp w))
  (D:∀(w:bU) (H:Hp) (a:ae) (ns:List Int),ns.length<=n->(∀x∈ns,eZ x<=1048576)->SqL (K w.params) H a (ns.map V.int)->sp w [.ref a] H (fun v _=>v=.bl true) fun _ _ _=>False)
  (B:∀(w:bU) (H:Hp) (s:aw) (e:aj) (s':aw),CX w [] H s (fun _ _ _=>False) e s'->False) :
  Ib q R XP YP l.row.toRowW d [] (fun f vs=>CV f vs):=by
 refine Att.attach_callB hn I fun w s₀ M mg mb J a vs ns G Y E O W Z U hg=>?_;have t:=hY w _ Y;obtain⟨fd,hb,hF⟩:=F w mg J _ t G.T.g E;exact EX t G.T.g G.T.b G.T.builtins G.T.nolimit hg O W (cR Z z) hr hF hb (fun H hO hS=>D w H a ns Z U hS) fun H e s'=>B w H M e s'
end L2
namespace PySem
open SeqAt MeetsSeq MeetsSeq2 MeetsSeq3 SeqRoads2
open AutoSeq1 (wpAny_loadPart')
def lR(prog:aQ)(w:bU)(A:b8)(s:aw)(y x:aj):Prop:=
 ∀(E:aj->aw->Prop) (Q:Bool->aw->Prop),Q true s->bQ (bR prog w) A (eqBool y x) Q E s
def RcIn(prog:aQ)(w:bU)(A:b8)(s:aw)(y x:aj):Prop:=
 ∀(E:aj->aw->Prop) (Q:aj->aw->Prop),Q (.bool true) s->bQ (bR prog w) A (kg .Eq y x) Q E s
section
variable{prog:aQ}{w:bU}{A:b8}{s:aw}
theorem lR.of_at{y x:aj}(h:EqAt A s y x true):lR prog w A s y x:=fun E Q q=>h prog w E Q q
theorem lR.self(v:aj):lR prog w A s v v:=lR.of_at (EqAt.same v)
theorem lR.refs{l b:ae}(h:RcIn prog w A s (.ref l) (.ref b)):lR prog w A s (.ref l) (.ref b):=by
 by_cases e:l=b
 ·rw[e];exact lR.self _
 ·intro E Q q;refine eK (wpAny_ite_split (fun z=>?_) (fun _=>?_))
  ·simp_all
  ·exact au (h E _ (gG q))
theorem IS(l b:ae)(xs ys:Array aj)(n m:Nat)(dd M:Option ae)(sl sm:Array (Option aj))(hsz:xs.size=ys.size):∀k i:Nat,xs.size-i=k ->
  Oh prog w (iT.«list.__eq__.loop» {[.ref l,.ref b,uB i,uB 2],[]}) (fun A R s=>
   s.heap.get? l=Z8 {cls:=.type "list",dict:=dd,data:=.seq xs n,slots:=sl}/\s.heap.get? b=Z8 {cls:=.type "list",dict:=M,data:=.seq ys m,slots:=sm} /\
   (∀j (h1:j<xs.size) (h2:j<ys.size),lR prog w A.in1 s xs[j] ys[j])/\R (.ok (.ret (.bool true))) s):=by
 intro k
 induction k with
 |zero=>
  intro i hk A R s q;obtain⟨hp,g,d,tk,J⟩:=s;obtain⟨Y,Z,V,W⟩:=q;have a1:xs[((i:Nat):Int).toNat]?=Z7:=by simp;lia
  have a2:ys[((i:Nat):Int).toNat]?=Z7:=by simp;lia
  wp_walk using cQ Y,cQ Z
  rw[a1,a2]
  wp_walk using cQ Y,cQ Z
  show R (.ok (.ret (.bool (xs.size==ys.size)))) _;rw[hsz,beq_self_eq_true];exact W
 |succ k I=>
  intro i hk A R s q;obtain⟨hp,g,d,tk,J⟩:=s;obtain⟨Y,Z,V,W⟩:=q;have U:i<xs.size:=by lia
  have O:i<ys.size:=by lia
  have a1:xs[((i:Nat):Int).toNat]?=Z8 xs[i]:=by simp[U]
  have a2:ys[((i:Nat):Int).toNat]?=Z8 ys[i]:=by simp[O]
  have G:((i:Int)+1)=((i+1:Nat):Int):=by push_cast;rfl
  wp_walk using cQ Y,cQ Z
  rw[a1,a2];refine au (V i U O _ _ ?_)
  wp_walk
  exact{jh plain_eq_loop _,gI entry_eq_loop (I (i+1) (by lia) A R _ ⟨Y,Z,V,W⟩)}
theorem IT(l b:ae)(xs ys:Array aj)(n m:Nat)(dd Y:Option ae)(sl sm:Array (Option aj))(hsz:xs.size=ys.size) :
  Oh prog w (iT.«list.__eq__» {[.ref l,.ref b],[]}) (fun A R s=>
   s.heap.get? l=Z8 {cls:=.type "list",dict:=dd,data:=.seq xs n,slots:=sl}/\s.heap.get? b=Z8 {cls:=.type "list",dict:=Y,data:=.seq ys m,slots:=sm} /\
   (∀j (h1:j<xs.size) (h2:j<ys.size),lR prog w A.in1 s xs[j] ys[j])/\R (.ok (.ret (.bool true))) s):=by
 intro A R s q;obtain⟨W,Z,U,V⟩:=q;have f1:=AutoSeq1.sub_list_list
 wp_walk using cQ W,cQ Z
 exact{jh plain_eq_loop _,gI entry_eq_loop (IS l b xs ys n m dd Y sl sm hsz _ 0 rfl A R _ ⟨W,Z,U,V⟩)}
theorem RcIn.lists{l b:ae}{xs ys:Array aj}(U:s.heap.IsList l xs)(hb:s.heap.IsList b ys)(hsz:xs.size=ys.size)(hu:A.units<dY)
  (V:∀j (h1:j<xs.size) (h2:j<ys.size),lR prog w A.in1 s xs[j] ys[j]):RcIn prog w A s (.ref l) (.ref b):=fun E Q q=>by
 obtain⟨⟨M,dd,t1,sl⟩,Z,rfl,n,rfl⟩:=id U;obtain⟨⟨O,W,R,sm⟩,Y,rfl,m,rfl⟩:=id hb;exact ny {_,Z,Z9} {_,Y,Z9} F.slot_list_eq (nv F.slot_list_eq {_,Z,Z9} F.entry_list_eq (F.args_list_eq_2 _ _) (IT l b xs ys n m dd W sl sm hsz) {Z,Y,V,{fun z=>(nomatch z),q}}) hu
variable{K:Type}[DecidableEq K]{knd:KeyKind prog w K}
theorem pairs_at{es:List DictEntry}{kvs:List (K×aj)}(h:Pairs knd es kvs):∀{i:Nat} {e:DictEntry},es[i]?=Z8 e->∃Z,kvs[i]?=Z8 Z/\knd.is Z.1 e.key=true/\e.val=Z.2:=by
 induction h with
 |nil=>
  intro i e q;simp at q
 |cons a b _ Y=>
  intro i e q
  cases i with
  |zero=>
   simp at q;subst q;exact{_,Z9,a,b}
  |succ i=>
   obtain⟨Z,z⟩:=Y (by simpa using q);exact{Z,by simpa using z.1,z.2}
theorem zi{nm:String}{d b:ae}{kvs kws:List (K×aj)}{Q:Bool->aw->Prop}{E:aj->aw->Prop}(hd:(d==dZ)=false)(hb:(b==dZ)=false)(m1:s.heap.DictOf knd d kvs)(O:s.heap.DictOf knd b kws)
  (g:kvs.length=kws.length) (he:∀W∈kvs,∃R,nj kws W.1=Z8 R/\lR prog w A s W.2 R) (q:Q true s):bQ (bR prog w) A (uc nm d b) Q E s:=by
 obtain⟨o1,es,ep,h1,x1,t1,k1,M,n1⟩:=id m1;obtain⟨o2,fs,fp,h2,x2,U,k2,p2,n2⟩:=id O;have z1:es.size=kvs.length:=by rw[<- M.length,qS]
 have t:fs.size=kws.length:=by rw[<- p2.length,qS]
 unfold uc;unfold Builtin.Dict.showsAll;rw[if_neg (hd ▸ bZ),if_neg (hb ▸ bZ)];refine au (bK (au (bK (au (o9 h1 t1 (au (o9 h2 U ?_)))))));rw[if_neg (by rw[z1,t,g];simp)];refine au (wpAny_dictEpoch h1 t1 (au ?_));rw[KH];refine lL _ (fun rest r s'=>s'=s/\r.1=Z7/\∃i,rest=List.range' i (es.size-i)/\i<=es.size) _ ?_ ?_ _ _ {Z9,Z9,0,by simp,bE _}
 ·rintro x rest ⟨B,r2⟩ s' ⟨rfl,J,i,V,hi⟩;have lt:i<es.size:=by
   rcases tP i es.size with z|z
   ·exact z
   ·rw[Nat.sub_eq_zero_of_le z]at V;simp at V
  refine Z0 fun Gz gz=>?_;obtain⟨rfl,Z⟩:x=i/\rest=List.range' (i+1) (es.size-(i+1)):=by
   rw[show es.size-i=(es.size-(i+1))+1 by lia,List.range'_succ]at V;injection V with a1 a2;exact⟨a1,a2⟩
  obtain⟨W,y1,I,y3⟩:=pairs_at M (i:=x) (e:=es[x]) (by simp[lt]);obtain⟨kk,y4,y5⟩:=k1 es[x] (Array.getElem_mem lt);have D:=knd.inj _ _ _ y4 I;subst D;obtain⟨R,Y,G⟩:=he W (bJ y1);obtain⟨o3,fs',cd,a1,_,a2,a3,hf⟩:=O.mapOf;refine gz ?_;rw[h2]at a1;injection a1 with a1;subst a1;rw[U]at a2;injection a2 with a2;subst a2;rw[<- hf W.1,findBy_of_findIdx?]at Y;refine au (o9 h1 t1 ?_);rw[Array.getElem?_eq_getElem lt];refine au (eK (au ?_));rw[y5];refine wpAny_dictFind_of I h2 U k2 ?_
  cases hj:fs.findIdx? fun e=>knd.is W.1 e.key with
  |none=>
   rw[hj]at Y;exfalso
   cases Y
  |some j=>
   rw[hj]at Y;refine au (o9 h2 U ?_)
   cases hx:fs[j]? with
   |none=>
    simp[hx]at Y
   |some fe=>
    have f:fe.val=R:=by simpa[hx] using Y
    refine eK ?_;rw[y3,f];refine G _ _ (au (wpAny_dictEpoch h1 t1 ?_));rw[if_neg (by simp)];exact bK {Z9,Z9,x+1,Z,lt}
 ·rintro⟨B,r2⟩ s' ⟨rfl,J,_⟩;subst J;exact bK q
theorem CW(d b:ae)(M:(d==dZ)=false)(hb:(b==dZ)=false) :
  Oh prog w (iT.«dict.__eq__» {[.ref d,.ref b],[]}) (fun A R s=>∃kvs kws,s.heap.DictOf knd d kvs/\s.heap.DictOf knd b kws/\kvs.length=kws.length /\
   (∀Z∈kvs,∃W,nj kws Z.1=Z8 W/\lR prog w A.in1 s Z.2 W)/\R (.ok (.ret (.bool true))) s):=
 .of_wp fun A R s h=>by
  obtain⟨kvs,kws,U,Y,O,V,q⟩:=h;refine au ?_;unfold kT;unfold tQ;exact au (bK (bK (au (wpAny_isInstance Y.typeIs KI (au (bK (au (bK (au (zi M hb U Y O V (bK {_,Z9,q})))))))))))
theorem RcIn.dicts{d b:ae}{kvs kws:List (K×aj)}(O:(d==dZ)=false)(hb:(b==dZ)=false)(Z:s.heap.DictOf knd d kvs)(W:s.heap.DictOf knd b kws)(R:kvs.length=kws.length)(hu:A.units<dY)
  (U:∀Y∈kvs,∃V,nj kws Y.1=Z8 V/\lR prog w A.in1 s Y.2 V):RcIn prog w A s (.ref d) (.ref b):=fun E Q q=>
 ny Z.typeIs W.typeIs F.slot_dict_eq (nv F.slot_dict_eq Z.typeIs F.entry_dict_eq (F.args_dict_eq_2 _ _) (CW d b O hb) {kvs,kws,Z,W,R,U,{fun z=>(nomatch z),q}}) hu
end
end PySem
namespace L2
open PySem PySem.Spec PyProof.Rows PySem.SeqAt
def sc0:V->Prop
 |.int _=>True
 |.str _=>True
 |.bl _=>True
 |.non=>True
 |_=>False
def TEq(H:Hp):Nat->V->V->Prop
 |0,x,y=>sc0 x/\x=y
 |n+1,x,y=>(sc0 x/\x=y)\/(∃p q xs ys,x=.ref p/\y=.ref q/\H p=Z8 (.lst xs)/\H q=Z8 (.lst ys)/\aO (TEq H n) xs ys) \/
   ∃p q xs ys,x=.ref p/\y=.ref q/\H p=Z8 (.tup xs)/\H q=Z8 (.tup ys)/\aO (TEq H n) xs ys
def DEq(H:Hp):Nat->V->V->Prop
 |0,x,y=>∃n,n<=20/\TEq H n x y
 |n+1,x,y=>(∃n,n<=20/\TEq H n x y)\/(∃p q xs ys,x=.ref p/\y=.ref q/\H p=Z8 (.lst xs)/\H q=Z8 (.lst ys)/\aO (DEq H n) xs ys) \/
   ∃p q kvs kws,x=.ref p/\y=.ref q/\H p=Z8 (.dK kvs)/\H q=Z8 (.dK kws)/\aO (fun (a b:Key×V)=>a.1=b.1/\DEq H n a.2 b.2) kvs kws
section
variable{P:aQ}{w:bU}{H:Hp}{s:aw}
theorem nA{R:V->V->Prop}:∀{xs ys:List V} {Z vs:List aj},aO R xs ys->dv xs Z->dv ys vs->Z.length=vs.length/\∀j (h1:j<Z.length) (h2:j<vs.length),∃x y,R x y/\RelV x Z[j]/\RelV y vs[j]:=by
 intro xs ys Z vs p
 induction p generalizing Z vs with
 |nil=>
  intro a b
  cases a
  cases b;exact{Z9,fun j h1=>absurd h1 (iP _)}
 |cons r rs Y=>
  intro a b
  cases a with
  |cons a W=>
  cases b with
  |cons b bs=>
  obtain⟨e,z⟩:=Y W bs;refine{by rw[cw,cw,e],fun j h1 h2=>?_}
  cases j with
  |zero=>exact{_,_,r,a,b}
  |succ j=>exact z j (j2 h1) (j2 h2)
theorem Bz{A:b8}{x:V}{u v:aj}(h:sc0 x)(Y:RelV x u)(Z:RelV x v):EqAt A s u v true:=by
 cases x with
 |non=>cases Y;cases Z;exact EqAt.same _
 |bl b=>cases Y;cases Z;exact EqAt.same _
 |int i=>
  obtain⟨t,rfl⟩:=Y;obtain⟨t',rfl⟩:=Z;have z:=EqAt.int_int (A:=A) (s:=s) i t i t';rw[beq_self_eq_true]at z;exact z
 |str i=>
  obtain⟨t,rfl⟩:=Y;obtain⟨t',rfl⟩:=Z;have z:=EqAt.str_str (A:=A) (s:=s) i t i t';rw[beq_self_eq_true]at z;exact z
 |byt b=>exact h.elim
 |flt b=>exact h.elim
 |ref a=>exact h.elim
 |ty a=>exact h.elim
theorem iI(ok:HOk P w H s.heap){p:ae}{xs:List V}(h:H p=Z8 (.lst xs)):∃Z:List aj,dv xs Z/\s.heap.IsList p Z.toArray:=by
 obtain⟨_,Z,n,r,e⟩:=(ok p _ h);exact{Z,r,_,e,Z9,n,Z9}
theorem iD(ok:HOk P w H s.heap){p:ae}{xs:List V}(h:H p=Z8 (.tup xs)):∃Z:List aj,dv xs Z/\s.heap.IsTuple p Z.toArray:=by
 obtain⟨_,Z,r,o,e,c,n,d⟩:=(ok p _ h);exact⟨Z,r,o,e,c,n,d⟩
theorem rK(n:Nat):((gQ n).all fun _=>true)=true:=by simp
theorem zj(ok:HOk P w H s.heap){R:V->V->Prop}{A:b8}{p q:ae}{xs ys:List V}(hu:A.units<dY)(h1:H p=Z8 (.lst xs))(h2:H q=Z8 (.lst ys))(r:aO R xs ys)
  (Y:∀x y u v,R x y->RelV x u->RelV y v->EqAt A.in1 s u v true):RcAt A s (.ref p) (.ref q) true:=by
 obtain⟨G,W,I⟩:=iI ok h1;obtain⟨vs,O,U⟩:=iI ok h2;obtain⟨e,z⟩:=nA r W O;have k:=RcAt.lists I U (by simpa using e) hu (fun j a b=>by
  obtain⟨x,y,M,J,Z⟩:=z j (by simpa using a) (by simpa using b);simpa using Y _ _ _ _ M J Z)
 rw[rK]at k;exact k
theorem BA(ok:HOk P w H s.heap){R:V->V->Prop}{A:b8}{p q:ae}{xs ys:List V}(hu:A.units<dY)(h1:H p=Z8 (.tup xs))(h2:H q=Z8 (.tup ys))(r:aO R xs ys)
  (Y:∀x y u v,R x y->RelV x u->RelV y v->EqAt A.in1 s u v true):RcAt A s (.ref p) (.ref q) true:=by
 obtain⟨G,W,I⟩:=iD ok h1;obtain⟨vs,O,U⟩:=iD ok h2;obtain⟨e,z⟩:=nA r W O;have k:=RcAt.tuples I U hu (fun j a b=>by
  obtain⟨x,y,M,J,Z⟩:=z j (by simpa using a) (by simpa using b);simpa using Y _ _ _ _ M J Z)
 rw[rK,Ml,aJ,aJ,e,beq_self_eq_true]at k;exact k
theorem EqAt.of_rc{A:b8}{l b:ae}(h:RcAt A s (.ref l) (.ref b) true):EqAt A s (.ref l) (.ref b) true:=by
 by_cases e:l=b
 ·rw[e];exact EqAt.same _
 ·exact EqAt.of_refs e h
theorem pO(ok:HOk P w H s.heap):∀{n:Nat} {A:b8} {x y:V} {u v:aj},A.units+n<dY->TEq H n x y->RelV x u->RelV y v->EqAt A s u v true
 |0,A,x,y,u,v,hu,h,W,Z=>by
  obtain⟨h1,rfl⟩:=h;exact Bz h1 W Z
 |n+1,A,x,y,u,v,hu,h,W,Z=>by
  have Y:A.in1.units+n<dY:=by
   show A.units+1+n<dY
   lia
  rcases h with⟨h1,rfl⟩|⟨p,q,xs,ys,rfl,rfl,h1,h2,r⟩|⟨p,q,xs,ys,rfl,rfl,h1,h2,r⟩
  ·exact Bz h1 W Z
  ·cases W
   cases Z;exact EqAt.of_rc (zj ok (by lia) h1 h2 r fun _ _ _ _ z a b=>pO ok Y z a b)
  ·cases W
   cases Z;exact EqAt.of_rc (BA ok (by lia) h1 h2 r fun _ _ _ _ z a b=>pO ok Y z a b)
theorem uP(ok:HOk P w H s.heap){R:V->V->Prop}{A:b8}{p q:ae}{xs ys:List V}(hu:A.units<dY)(h1:H p=Z8 (.lst xs))(h2:H q=Z8 (.lst ys))(r:aO R xs ys)
  (Y:∀x y u v,R x y->RelV x u->RelV y v->lR P w A.in1 s u v):RcIn P w A s (.ref p) (.ref q):=by
 obtain⟨G,W,I⟩:=iI ok h1;obtain⟨vs,O,U⟩:=iI ok h2;obtain⟨e,z⟩:=nA r W O;exact RcIn.lists I U (by simpa using e) hu (fun j a b=>by
  obtain⟨x,y,M,J,Z⟩:=z j (by simpa using a) (by simpa using b);simpa using Y _ _ _ _ M J Z)
theorem BB{κ:Type}{R:κ×V->κ×V->Prop}:∀{kvs kws:List (κ×V)} {Z vs:List (κ×aj)},aO R kvs kws->KV kvs Z->KV kws vs->Z.length=vs.length/\∀(i:Nat) (q:κ×aj),Z[i]?=Z8 q->∃Y a b,vs[i]?=Z8 Y/\R a b/\a.1=q.1/\b.1=Y.1/\RelV a.2 q.2/\RelV b.2 Y.2:=by
 intro kvs kws Z vs p
 induction p generalizing Z vs with
 |nil=>
  intro a b
  cases a
  cases b;exact{Z9,fun i q h=>by simp at h}
 |cons r rs W=>
  intro a b
  cases a with
  |cons a U=>
  cases b with
  |cons b bs=>
  obtain⟨e,z⟩:=W U bs;refine{by rw[cw,cw,e],fun i q h=>?_}
  cases i with
  |zero=>
   simp at h;subst h;exact{_,_,_,Z9,r,a.1,b.1,a.2,b.2}
  |succ i=>
   obtain⟨Y,x,y,h1,h2⟩:=z i q (by simpa using h);exact{Y,x,y,by simpa using h1,h2}
theorem uQ(ok:HOk P w H s.heap){R:V->V->Prop}{A:b8}{p q:ae}{kvs kws:List (Key×V)}(hu:A.units<dY)(h1:H p=Z8 (.dK kvs))(h2:H q=Z8 (.dK kws))(r:aO (fun (a b:Key×V)=>a.1=b.1/\R a.2 b.2) kvs kws)
  (he:∀x y u v,R x y->RelV x u->RelV y v->lR P w A.in1 s u v):RcIn P w A s (.ref p) (.ref q):=by
 obtain⟨_,t,us,k1,m1⟩:=(ok p _ h1);obtain⟨_,G,vs,k2,W⟩:=(ok q _ h2);obtain⟨e,z⟩:=BB r k1 k2;refine RcIn.dicts t G m1 W e hu fun U Z=>Z0 fun Gz D=>?_;obtain⟨i,hi⟩:=cz Z;obtain⟨Y,a,b,M,⟨O,J⟩,g4,E,I,g⟩:=z i U hi;obtain⟨_,_,_,_,_,_,_,_,B⟩:=id W;refine D ?_;have f:vs[i]?=Z8 (U.1,Y.2):=by
  rw[M,<- g4,O,E]
 exact{Y.2,valueAt_of_get B f,he _ _ _ _ J I g}
theorem uR(ok:HOk P w H s.heap):∀{n:Nat} {A:b8} {x y:V} {u v:aj},A.units+n+20<dY->DEq H n x y->RelV x u->RelV y v->lR P w A s u v
 |0,A,x,y,u,v,hu,h,W,Z=>by
  obtain⟨m,U,h1⟩:=h;exact lR.of_at (pO ok (by lia) h1 W Z)
 |n+1,A,x,y,u,v,hu,h,W,Z=>by
  have Y:A.in1.units+n+20<dY:=by
   show A.units+1+n+20<dY
   lia
  rcases h with⟨m,U,h1⟩|⟨p,q,xs,ys,rfl,rfl,h1,h2,r⟩|⟨p,q,kvs,kws,rfl,rfl,h1,h2,r⟩
  ·exact lR.of_at (pO ok (by lia) h1 W Z)
  ·cases W
   cases Z;exact lR.refs (uP ok (by lia) h1 h2 r fun _ _ _ _ z a b=>uR ok Y z a b)
  ·cases W
   cases Z;exact lR.refs (uQ ok (by lia) h1 h2 r fun _ _ _ _ z a b=>uR ok Y z a b)
end
section
variable{X:Cx}
theorem op_eqD(hu:X.A.units+50<dY):OpR X (eE .Eq) (fun x y H Q=>∃n p q,n<=20/\x=.ref p/\y=.ref q/\DEq H n x y/\Q (.bl true) H):=by
 intro pins s σ H x y v u Q I f g h;obtain⟨n,p,q,hn,rfl,rfl,d,k⟩:=h;subst f;subst g;have Z:X.A.units<dY:=by lia
 have U:RcIn X.prog X.w X.A s (.ref p) (.ref q):=by
  have O:=fun m R=>by
   show X.A.units+1+m<dY;omega
  have B:∀m,m<=20->TEq H m (.ref p) (.ref q)->RcIn X.prog X.w X.A s (.ref p) (.ref q):=fun m R t=>by
   cases m with
   |zero=>exact t.1.elim
   |succ m=>
    rcases t with⟨h1,_⟩|⟨M,J,xs,ys,V,W,h1,h2,r⟩|⟨M,J,xs,ys,V,W,h1,h2,r⟩
    ·exact h1.elim
    ·cases V
     cases W;intro E D G;exact zj I.hok Z h1 h2 r (fun _ _ _ _ z a b=>pO I.hok (O m (by lia)) z a b) X.prog X.w E D G
    ·cases V
     cases W;intro E D G;exact BA I.hok Z h1 h2 r (fun _ _ _ _ z a b=>pO I.hok (O m (by lia)) z a b) X.prog X.w E D G
  cases n with
  |zero=>
   obtain⟨m,R,t⟩:=d;exact B m R t
  |succ n=>
   have Y:X.A.in1.units+n+20<dY:=by grind
   rcases d with⟨m,R,t⟩|⟨M,J,xs,ys,V,W,h1,h2,r⟩|⟨M,J,kvs,kws,V,W,h1,h2,r⟩
   ·exact B m R t
   ·cases V
    cases W;exact uP I.hok Z h1 h2 r fun _ _ _ _ z a b=>uR I.hok Y z a b
   ·cases V
    cases W;exact uQ I.hok Z h1 h2 r fun _ _ _ _ z a b=>uR I.hok Y z a b
 exact U _ _ ({.bl true,H,I,Z9,k})
theorem Mo(hu:X.A.units+50<dY):OpR X (eE .NotEq) (fun x y H Q=>∃n p q,n<=20/\x=.ref p/\y=.ref q/\TEq H n x y/\Q (.bl false) H):=by
 intro pins s σ H x y v u Q I Y Z h;obtain⟨n,p,q,g,rfl,rfl,d,k⟩:=h;subst Y;subst Z;have fin:EP X pins σ Q (.bool false) s:={.bl false,H,I,Z9,k};have V:X.A.units<dY:=by omega
 cases n with
 |zero=>exact d.1.elim
 |succ m=>
  have W:X.A.in1.units+m<dY:=by grind
  rcases d with⟨h1,_⟩|⟨D,t,xs,ys,E,O,h1,h2,r⟩|⟨D,t,xs,ys,E,O,h1,h2,r⟩
  ·exact h1.elim
  ·cases E
   cases O;obtain⟨B,R,U⟩:=iI I.hok h1;obtain⟨vs,G,M⟩:=iI I.hok h2;obtain⟨e,z⟩:=nA r R G;have k:=RcNeAt.lists U M (by simpa using e) V (fun j a b=>by
    obtain⟨x,y,J,Y,Z⟩:=z j (by simpa using a) (by simpa using b);simpa using pO I.hok W J Y Z)
   rw[rK]at k;exact k X.prog X.w _ _ fin
  ·cases E
   cases O;obtain⟨B,R,U⟩:=iD I.hok h1;obtain⟨vs,G,M⟩:=iD I.hok h2;obtain⟨e,z⟩:=nA r R G;have k:=RcNeAt.tuples U M V (fun j a b=>by
    obtain⟨x,y,J,Y,Z⟩:=z j (by simpa using a) (by simpa using b);simpa using pO I.hok W J Y Z)
   rw[rK,Ml,aJ,aJ,e,beq_self_eq_true]at k;exact k X.prog X.w _ _ fin
def Mp:V->List V->Hp->VK->Prop:=fun x vs H Q=>∃d kvs,x=.ref d/\vs=[]/\H d=Z8 (.dK kvs)/\∀p,H p=Z7->Q (.ref p) (upd H p (.dK kvs))
theorem E7:MtR X "dict.copy" Mp:=by
 intro pins s σ H x vs v O Q I V U h;obtain⟨d,kvs,rfl,rfl,R,q⟩:=h
 cases V
 cases U;obtain⟨hz,Y,ws,k1,Z⟩:=(show hV X.prog X.w H s.heap d (.dK kvs) from I.hok d _ R);refine nv xR Z.typeIs PySem.F.entry_dict_copy (PySem.F.args_dict_copy_1 _) (meets_dict_copy (fV X.prog X.w) d Y) {ws,Z,by rw[<- k1.length];exact hz,fun h' W _ kk=>?_};exact{.ref s.heap.objs.size,_,I.laid (a:=s.heap.objs.size) (o:=.dK kvs) (t':=s.toks) kk (aF _) (uL hz (beq_eq_false_iff_ne.mpr (dB (aR I.big))) k1 W),Z9,q _ (I.hok.fresh (aF _))}
theorem E8{A:b8}{k:Nat}(Z:e8 k A):A.units+50<dY:=by
 have:=Z.un
 lia
end
end L2
namespace PySem
open Sem (wp)
section
variable{prog:aQ}{w:bU}{A:b8}{E:aj->aw->Prop}{s:aw}
end
section
variable{prog:aQ}{w:bU}{A:b8}{R:EJ->aw->Prop}{I:ae}{fp wr:List ae}{n:Nat}{P:Nat->aj->Prop}{St:Nat->cG->Prop}{G:cG->Prop}
end
section
variable{prog:aQ}{w:bU}{A:b8}{E:aj->aw->Prop}{s:aw}
end
section
variable{prog:aQ}{w:bU}{K:Type}[DecidableEq K]{knd:HeapKind prog w K}{A:b8}{E:aj->aw->Prop}{s:aw}
end
section
variable{prog:aQ}{w:bU}{A:b8}{E:aj->aw->Prop}{s:aw}
end
end PySem
namespace HT
theorem uS:∀a:List Int,lexLt a a=false
 | []=>rfl
 |x::r=>by rw[lK,if_pos rfl];exact uS r
theorem lx_trans:∀{a b c:List Int},lexLt a b=true->lexLt b c=true->lexLt a c=true
 | [],[],_,h,_=>by cases h
 | [],_::_,[],_,h=>by cases h
 | [],_::_,_::_,_,_=>rfl
 |_::_,[],_,h,_=>by cases h
 |_::_,_::_,[],_,h=>by cases h
 |x::a,y::b,z::c,h,k=>by
  rw[lK]at h k |-
  by_cases e:x=y
  ·subst e;rw[if_pos rfl]at h
   by_cases f:x=z
   ·subst f;rw[if_pos rfl]at k |-;exact lx_trans h k
   ·rw[if_neg f]at k |-;exact k
  ·rw[if_neg e]at h;have h:=of_decide_eq_true h
   by_cases f:y=z
   ·subst f;rw[if_neg e];exact decide_eq_true h
   ·rw[if_neg f]at k;have k:=of_decide_eq_true k;rw[if_neg (by omega)];exact decide_eq_true (by omega)
theorem rL:∀{a b:List Int},lexLt a b=false->lexLt b a=false->a=b
 | [],[],_,_=>rfl
 | [],_::_,h,_=>by cases h
 |_::_,[],_,h=>by cases h
 |x::a,y::b,h,k=>by
  rw[lK]at h k
  by_cases e:x=y
  ·subst e;rw[if_pos rfl]at h k;rw[rL h k]
  ·rw[if_neg e]at h;rw[if_neg (fun z=>e z.symm)]at k;have h:=of_decide_eq_false h;have k:=of_decide_eq_false k;exact absurd (by lia) e
theorem lx_asym{a b:List Int}(h:lexLt a b=true):lexLt b a=false:=by
 cases e:lexLt b a with
 |false=>rfl
 |true=>
  have z:=lx_trans h e;rw[uS]at z
  cases z
theorem lx_of_not{a b:List Int}(h:lexLt a b=false)(n:a≠b):lexLt b a=true:=by
 cases e:lexLt b a with
 |true=>rfl
 |false=>exact absurd (rL h e) n
theorem best_le(f:Nat->List Int):∀k,rh (fun i j=>lexLt (f i) (f j)) k<=k/\∀j,j<=k->lexLt (f j) (f (rh (fun i j=>lexLt (f i) (f j)) k))=false
 |0=>⟨aF _,fun j Y=>by
  have e:j=0:=by omega
  rw[e];exact uS _⟩
 |k+1=>by
  obtain⟨h1,h2⟩:=best_le f k;simp only[rh]
  by_cases e:lexLt (f (k+1)) (f (rh (fun i j=>lexLt (f i) (f j)) k))=true
  ·rw[if_pos e];refine{aF _,fun j Y=>?_}
   by_cases Z:j=k+1
   ·rw[Z];exact uS _
   ·cases z:lexLt (f j) (f (k+1)) with
    |false=>rfl
    |true=>
     have y:=lx_trans z e;rw[h2 j (by lia)]at y
     cases y
  ·rw[if_neg e];refine{by lia,fun j Y=>?_}
   by_cases Z:j=k+1
   ·rw[Z];exact Bool.eq_false_iff.mpr e
   ·exact h2 j (by lia)
open PySem PyProof.Rows
open PySem.SeqAt
open PySem.AutoSeq1 (wpAny_loadPart')
open PySem.MeetsSeq PySem.MeetsSeq2 PySem.MeetsSeq3
theorem IU(l b:ae)(xs ys:Array aj)(n m:Nat)(dd de:Option ae)(sl sm:Array (Option aj))(ns D:List Int)(hi:gp xs.toList ns)(hj:gp ys.toList D) :
  Oe (iT.«tuple.__gt__» {[.ref l,.ref b],[]})
   (fun _ R s=>s.heap.get? l=Z8 {cls:=.type "tuple",dict:=dd,data:=.seq xs n,slots:=sl}/\s.heap.get? b=Z8 {cls:=.type "tuple",dict:=de,data:=.seq ys m,slots:=sm}/\R (.ok (.ret (.bool (lexLt D ns)))) s):=
 .of_wp fun prog w A R s h=>by
  obtain⟨hp,g,d,tk,I⟩:=s;obtain⟨hl,hb,h⟩:=h;have f2:=jr;have z1:xs.size=ns.length:=by rw[<- hi.length];simp
  have z2:ys.size=D.length:=by rw[<- hj.length];simp
  wp_walk using cQ hl,cQ hb,lL _ (fun rest b s'=>b.1=Z7/\s'=⟨hp,g,d,tk,I⟩/\∃(vs ws:List aj) (Y W:List Int),rest=vs.zip ws /\
   gp vs Y/\gp ws W/\Y.length+ys.size=W.length+xs.size/\R (.ok (.ret (.bool (lexLt W Y)))) ⟨hp,g,d,tk,I⟩) _
  case turn=>
   rintro⟨y,x⟩ rest b s' ⟨O,rfl,vs,ws,Y,W,hz,J,hw,Z,V⟩
   cases J with
   |nil=>rw[ER]at hz;exfalso;cases hz
   |cons a t J=>
    cases hw with
    |nil=>rw[Ee]at hz;exfalso;cases hz
    |cons c u hw=>
     rw[iH]at hz;injection hz with z M;injection z with hy hx;subst hy hx;rw[lK]at V;simp only[cw]at Z;obtain⟨e,he,U⟩:=yV A.in1 ⟨hp,g,d,tk,I⟩ a t c u;refine au (he prog w _ _ ?_)
     cases e with
     |true=>
      rw[if_pos (U.mp rfl).symm]at V
      wp_walk
      exact{Z9,Z9,_,_,_,_,M,J,hw,by lia,V}
     |false=>
      rw[if_neg (fun q=>absurd (U.mpr q.symm) bZ)]at V;have f:∀(E:aj->aw->Prop) (Q:aj->aw->Prop),Q (.bool (decide (a>c))) ⟨hp,g,d,tk,I⟩->bQ (bR prog w) A.in1 (kg .Gt (.int a t) (.int c u)) Q E ⟨hp,g,d,tk,I⟩:=fun E Q q=>
       (PyProof.Rows.gt_int q:bQ (bR prog w) A.in1 (eE .Gt (.int a t) (.int c u)) Q E _)
      wp_walk using f
      exact{_,Z9,by simpa using V}
  case fin=>
   rintro⟨b1,b2⟩ s' ⟨O,rfl,vs,ws,Y,W,hz,B,G,Z,V⟩;simp only at O;subst O;have J:lexLt W Y=decide (ys.size<xs.size):=by
    cases B with
    |nil=>
     cases G with
     |nil=>
      simp only[cY]at Z;rw[qI];exact (decide_eq_false (by lia)).symm
     |cons c u hw=>
      simp only[cY,cw]at Z;rw[pE];exact (decide_eq_false (by lia)).symm
    |cons a t J=>
     cases G with
     |nil=>
      simp only[cY,cw]at Z;rw[pD];exact (decide_eq_true (by lia)).symm
     |cons c u hw=>
      rw[iH]at hz
      cases hz
   rw[J]at V
   wp_walk
   exact{_,Z9,by simpa[qc] using V}
  case h=>
   exact{Z9,Z9,xs.toList,ys.toList,ns,D,Z9,hi,hj,by lia,h}
theorem gt_tup{prog:aQ}{w:bU}{A:b8}{E:aj->aw->Prop}{s:aw}{l b:ae}{xs ys:Array aj}{ns Z:List Int}{Q:aj->aw->Prop}(R:m7 s.heap l xs)(hb:m7 s.heap b ys)(hi:gp xs.toList ns)(O:gp ys.toList Z)
  (hu:A.units<dY) (h:Q (.bool (lexLt Z ns)) s):bQ (bR prog w) A (eE .Gt (.ref l) (.ref b)) Q E s:=by
 refine Z0 fun J U=>?_;obtain⟨⟨G,dd,t1,sl⟩,Y,rfl,n,rfl⟩:=id R;obtain⟨⟨I,V,M,sm⟩,W,rfl,m,rfl⟩:=id hb;exact U (kN (op:=.Gt) {_,Y,Z9} {_,W,Z9} yL xT (wL _ _) (IU l b xs ys n m dd V sl sm ns Z hi O)
  {Y,W,show Value.bool (lexLt Z ns)≠Value.notImplemented/\Q (.bool (lexLt Z ns)) s from{(fun x=>nomatch x),h}} hu)
end HT
namespace L2
open PySem PySem.Spec PyProof.Rows
theorem pP:∀{ns Z:List Int},ns.map V.int=Z.map V.int->ns=Z
 | [],[],_=>rfl
 | [],_::_,h=>by cases h
 |_::_,[],h=>by cases h
 |x::a,y::b,h=>by
  injection h with h1 h2;injection h1 with h1;rw[h1,pP h2]
section
variable{X:Cx}
theorem wM{P:aQ}{w:bU}{H:Hp}{s:aw}(ok:HOk P w H s.heap){A:b8}{a b:ae}{ns Z:List Int}(hu:A.units<dY)(ha:H a=Z8 (.tup (ns.map V.int)))(hb:H b=Z8 (.tup (Z.map V.int))) :
  rC A s (.ref a) (.ref b) (decide (ns=Z)):=by
 by_cases e:a=b
 ·subst e;rw[ha]at hb;injection hb with hb;injection hb with hb;rw[pP hb,decide_eq_true rfl];exact Aw _
 ·obtain⟨Y,U,B⟩:=iD ok ha;obtain⟨vs,I,J⟩:=iD ok hb;have k1:=intsAre_of U;have k2:=intsAre_of I;have at_:∀{Y:List aj} {ns:List Int},gp Y ns->∀j (h:j<Y.length),∃(z:Int) (t:Tok),Y[j]=.int z t/\ns[j]?=Z8 z:=by
   intro Y ns k
   induction k with
   |nil=>intro j h;exact absurd h (iP _)
   |cons z t _ R=>
    intro j h
    cases j with
    |zero=>exact⟨z,t,Z9,Z9⟩
    |succ j=>exact R j (j2 h)
  have W:=zk (e:=fun j=>decide (ns[j]?=Z[j]?)) B J hu fun j h1 h2=>by
   obtain⟨x,t,g,O⟩:=at_ k1 j (by simpa using h1);obtain⟨y,t',e3,M⟩:=at_ k2 j (by simpa using h2);rw[O,M];have z:=kQ (A:=A.in1) (s:=s) x t y t';have q:(x==y)=decide (Z8 x=Z8 y):=by
    by_cases e:x=y
    ·subst e;simp
    ·simp_all
   rw[q]at z;simpa[g,e3] using z
  have fin:((gQ (min Y.toArray.size vs.toArray.size)).all (fun j=>decide (ns[j]?=Z[j]?))&&Y.toArray.size==vs.toArray.size)=decide (ns=Z):=by
   have E:Y.toArray.size=ns.length:=by rw[aJ];exact k1.length
   have D:vs.toArray.size=Z.length:=by rw[aJ];exact k2.length
   rw[E,D]
   by_cases c:ns=Z
   ·subst c;simp
   ·rw[decide_eq_false c,AE]
    by_cases l:ns.length=Z.length
    ·left
     rw[E9];refine iZ fun G=>c (tu fun j=>?_)
     by_cases f:j<ns.length
     ·refine iZ fun ne=>G {j,qG.mpr (by lia),?_};rw[decide_eq_false ne];simp
     ·rw[iR (by lia),iR (by lia)]
    ·right
     exact beq_eq_false_iff_ne.mpr l
  rw[fin]at W;exact yM e W
open Classical in
def IV:V->List V->Hp->VK->Prop:=fun x vs H Q=>∃l xs i y,x=.ref l/\vs=[.int (i:Nat),y]/\H l=Z8 (.lst xs)/\i<=xs.length/\xs.length<aG/\Q .non (upd H l (.lst (xs.take i++y::xs.drop i)))
theorem CZ:MtM X "list.insert" IV:=by
 intro pins s σ H x vs v E Q I M J h;refine Z0 fun B U=>?_;obtain⟨l,xs,i,y,rfl,rfl,V,hi,hz,q⟩:=h;subst M;obtain⟨u,W,rfl,O,Y⟩:=J.two;obtain⟨t,rfl⟩:=O;obtain⟨z,Z,n,r,D,e⟩:=I.lstM V;refine U ?_;generalize hx:((i:Nat):Int)=x;have G:Builtin.List.listFitsIndex x=true:=by
  have R:=yF;exact fitsIndex_both (by lia) (by lia)
 refine oz F.slot_list_insert {_,e,Z9} F.entry_list_insert (F.args_list_insert_3 _ _ _) (Oi l Z.toArray n x t W (by simp_all) (by simp_all)) {e,{.non,_,I.lset (its':=Z.take i++W::Z.drop i) V e ?_ ((r.take i).append (.cons Y (r.drop i))) ?_,Z9,q}}
 ·have k:(if x<0 then (x+(Z.toArray.size:Int)).toNat else min x.toNat Z.toArray.size)=i:=by
   rw[if_neg (by lia),aJ]
   lia
  rw[k];apply Array.toList_inj.mp;simp[List.extract_eq_take_drop];exact List.take_of_length_le (tY ▸ aF _)
 ·grind
def tRev(K:af)(te:TE)(Z:TO):TE:=fun σ H Q=>te σ H fun x H1=>Z σ H1 fun st H2=>st=Z8 (-1)/\∃a xs,x=.ref a/\SqL K H2 a xs/\∀p,H2 p=Z7->Q (.ref p) (upd H2 p (.lst xs.reverse))
theorem AF{e st:c8}{te:TE}{U:TO}{p2 pos:Pos}(G:PE X e te)(hs:PO X (Z8 st) U):PE X (.Subscript e (.Slice Z7 Z7 (Z8 st) p2) pos) (tRev X.K te U):=by
 intro pins s σ H Q I h;refine Au (thn (G pins s σ H _ I h) fun v O ⟨x,H1,z,E,J⟩=>?_);refine wpAny_Slice ?_;rw[evalPart_none];refine bK (bK ?_);refine thn (hs pins O σ H1 _ z J) fun vs Z ⟨o,M,D,ps,t⟩=>?_;obtain⟨rfl,a,xs,rfl,hx,q⟩:=t
 cases E;have V:Inv X pins σ M {Z with heap:=Z.heap.push {cls:=.type "slice",data:=.fields #[.none,.none,vs]}}:=D.kept (t':=Z.toks) fun b B q=>aK _ q;obtain⟨Y,r,R,hz⟩:=V.list hx;show bQ (bR X.prog X.w) X.A (subscriptTail e (.Slice Z7 Z7 (Z8 st) p2) (.ref a) (.ref Z.heap.objs.size)) (EP X pins σ Q) X.xe {Z with heap:=Z.heap.push {cls:=.type "slice",data:=.fields #[.none,.none,vs]}};refine tail_any (ops:=[.ref a,.ref Z.heap.objs.size]) R.isList.typeIs vH.lookup ?_ (by with_unfolding_all rfl);refine CJ R.isList (vx ..) .none .none ps (by simp) ?_ (by rw[aJ,<- r.length];exact hz);rw[PySem.W.krv_pick];refine{.ref _,_,V.laid (t':=Z.toks) (o:=.lst xs.reverse) (fun b B q=>aK _ q) (aF _) ?_,Z9,q _ (V.hok.fresh (aF _))};refine{by rw[eO];exact hz,Y.reverse,0,r.reverse,?_};rw[cA _ rfl]
theorem IW{z:V}(h:sc0 z):scal z z=true:=by
 cases z with
 |non=>rfl
 |bl b=>rfl
 |int i=>rfl
 |str x=>rfl
 |byt b=>exact df h
 |flt b=>exact df h
 |ref a=>exact df h
 |ty a=>exact df h
theorem xU(hu:X.A.units+50<dY):OpR X (eE .NotEq) (fun x y H Q=>∃n,n<=20/\TEq H n x y/\Q (.bl false) H):=by
 intro pins s σ H x y v u Q I U V h;obtain⟨n,O,d,q⟩:=h;have sc:∀z,sc0 z->x=z->y=z->bQ (bR X.prog X.w) X.A (eE .NotEq v u) (EP X pins σ Q) X.xe s:=by
  rintro z hz rfl rfl;refine Bj pins s σ H _ _ v u Q I U V {IW hz,?_};rw[decide_eq_true rfl];exact q
 have R:=fun p Z W Y=>
  Mo hu pins s σ H x y v u Q I U V ⟨n,p,Z,O,W,Y,d,q⟩
 cases n with
 |zero=>exact sc x d.1 rfl d.2.symm
 |succ n=>
  rcases d with⟨h1,h2⟩|⟨p,Z,_,_,W,Y,_⟩|⟨p,Z,_,_,W,Y,_⟩
  ·exact sc x h1 rfl h2.symm
  ·exact R p Z W Y
  ·exact R p Z W Y
end
section
variable{X:Cx}{pins:List (ae×Obj)}{σ:St}{H:Hp}{s:aw}{d:ae}
theorem Inv.swap{o o':HO}(I:Inv X pins σ H s)(e:H d=Z8 o)(V:∀xs,o≠.tup xs)(O:∀ps,o≠.tbl ps)(J:∀a,o≠.own a)(M:∀Z u,X.H₀ d≠Z8 (.frz Z u))(ok:hV X.prog X.w (upd H d o') s.heap d o'):Inv X pins σ (upd H d o') s:=by
 have Y:∀b,H b=Z7->upd H d o' b=Z7:=fun b z=>by
  rw[aW (ay e z).symm];exact z
 have W:∀b xs,H b=Z8 (.tup xs)->upd H d o' b=Z8 (.tup xs):=fun b xs z=>by
  rw[aW (jD z e (fun q=>V xs q.symm))];exact z
 have R:∀b a,H b=Z8 (.own a)->upd H d o' b=Z8 (.own a):=fun b a z=>by
  rw[aW (jD z e (fun q=>J a q.symm))];exact z
 refine{I.ok,I.os,I.bare,{I.base.keep,I.base.slot,fun b Z q n hx=>Y b (I.base.free b Z q n hx),I.base.there,fun b xs q=>W b xs (I.base.tups b xs q),fun b Z u q=>?_,fun b ps q=>?_},I.loc,I.cell,Y _ I.free,fun x c q=>Y c (I.freeC x c q),fun p hp=>?_,fun b u q=>?_,I.len}
 ·have z:=I.base.frzs b Z u q;rw[aW (fun y=>M Z u (by rw[<- y];exact q))];exact z
 ·obtain⟨more,z⟩:=I.base.tbls b ps q;refine{more,?_};rw[aW (jD z e (fun y=>O _ y.symm))];exact z
 ·obtain⟨h1,h2,U⟩:=I.pin p hp;exact{h1,Y _ h2,U}
 ·by_cases z:b=d
  ·subst z;rw[ak]at q;injection q with q;subst q;exact ok
  ·rw[aW z]at q;exact (I.hok b u q).stay (fun c v _ y=>y) (fun c y=>R c b y) W
theorem Inv.freeze{kvs:List (Key×V)}(I:Inv X pins σ H s)(e:H d=Z8 (.dK kvs))(R:∀Z u,X.H₀ d≠Z8 (.frz Z u)):∃od,s.heap.get? d=Z8 od/\Inv X pins σ (upd H d (.frz od (.dK kvs))) s:=by
 obtain⟨h1,h2,vs,r,Z,es,U,Y,W⟩:=(I.hok d _ e);exact{Z,Y,I.swap e (fun xs z=>by cases z) (fun ps z=>by cases z) (fun a z=>by cases z) R ⟨Y,h1,h2,vs,r,Z,es,U,Y,W⟩}
theorem Inv.thaw{kvs:List (Key×V)}{od:Obj}(I:Inv X pins σ H s)(e:H d=Z8 (.frz od (.dK kvs)))(Y:∀Z u,X.H₀ d≠Z8 (.frz Z u)):Inv X pins σ (upd H d (.dK kvs)) s:=by
 obtain⟨_,h1⟩:=(I.hok d _ e);exact I.swap e (fun xs z=>by cases z) (fun ps z=>by cases z) (fun a z=>by cases z) Y h1
end
def Iti(d:ae)(od:Obj)(kvs:List (Key×V)):It:=
 {fun i H=>H d=Z8 (.frz od (.dK kvs))/\i<kvs.length,fun i H x H'=>∃t Z,x=.ref t/\H t=Z7/\kvs[i]?=Z8 Z/\H'=upd H t (.tup [kV Z.1,Z.2]),fun i H=>H d=Z8 (.frz od (.dK kvs))/\kvs.length<=i}
theorem KV.at_{kvs:List (Key×V)}{vs:List (Key×aj)}(r:KV kvs vs):∀{i:Nat} {Z:Key×V},kvs[i]?=Z8 Z->∃u,vs[i]?=Z8 (Z.1,u)/\RelV Z.2 u:=by
 induction r with
 |nil=>intro i Z h;simp at h
 |cons a _ Y=>
  intro i Z h
  cases i with
  |zero=>
   simp at h;subst h;exact{_,by rw[List.getElem?_cons_zero,a.1],a.2}
  |succ i=>
   obtain⟨u,h1,h2⟩:=Y (by simpa using h);exact{u,by simpa using h1,h2}
theorem Fb{P:aQ}{w:bU}{k:Key}{u:aj}(h:(fV P w).is k u=true):RelV (kV k) u:=by
 rcases gA h with⟨i,t,rfl,rfl⟩|⟨x,t,rfl,rfl⟩
 ·exact⟨t,Z9⟩
 ·exact⟨t,Z9⟩
theorem sL:entryFor table "dict_itemiterator.__iter__"=Z8 iT.«dict_keyiterator.__iter__»:=
 entryFor_alias (id':="dict_keyiterator.__iter__") (by kernel_rfl) rfl (by decide +kernel) (by kernel_rfl)
section
variable{P:aQ}{w:bU}{K:af}
def Fc(o:Obj):Nat:=match o.data with|.dict _ Z=>Z|_=>0
theorem sM{X:Cx}{pins:List (ae×Obj)}{σ:St}{H:Hp}{s:aw}{d:ae}{od:Obj}{kvs:List (Key×V)}(I:Inv X pins σ H s)(e:H d=Z8 (.frz od (.dK kvs))):∃vs,KV kvs vs/\s.heap.DictAt (fV X.prog X.w) d vs (Fc od):=by
 refine Z0 fun G R=>?_;obtain⟨W,h1,h2,vs,r,E,es,M,Z,U,Y,O⟩:=(I.hok d _ e);refine R ?_;rw[W]at Z;injection Z with Z;subst Z;have J:Fc od=M:=by
  unfold Fc;rw[Y]
 rw[J];exact⟨vs,r,od,es,W,U,Y,O⟩
theorem AG{elts:List c8} {x1} {pos:Pos} (d it:ae) (od:Obj) (kvs:List (Key×V)) (bG:d≠it):Ac P w K (.Tuple elts x1 pos) (Iti d od kvs) [it] it (fun i h=>∃ok Y,IsItemIter h it d i kvs.length (Fc od) ok Y) where
 mem:=by simp
 obj:=fun i h st b hb=>by
  have e:b=it:=by simpa using hb
  subst e;obtain⟨ok,Y,e⟩:=st;exact{_,e,fun v z=>by cases z}
 keep:=fun i h h' ⟨ok,Y,st⟩ k=>{ok,Y,k it (by simp) _ st}
 item:=by
  intro X hP hw hK hc i pins s σ H E I hf st hg;refine Z0 fun Gz gz=>?_;subst hP hw hK;obtain⟨ok,Y,st⟩:=st;obtain⟨hd,hi⟩:=hg;obtain⟨vs,r,f⟩:=sM I hd;have J:=r.length;have O:=aI hi;obtain⟨u,hu,ru⟩:=r.at_ O;obtain⟨U,f1,f2,D,t,G⟩:=hf it (by simp);refine gz ?_;rw[J]at st;refine wpAny_pyNext_items_item st f hu fun key h' hk R g bI kp=>{_,Z9,wpAny_letOwnedTupleGo_items R fun h2 W sb=>?_};have Z:=(I.turned (t':=s.toks) (fun b o hb e=>kp b o hb e) U f1 D t G).turned (t':=s.toks) (fun b o hb e=>sb.extBut b o hb e) U f1 D t G;have fr:=I.hok.fresh (aF _);have M:=(aR (aS st)).symm;have I3:Inv X pins σ (upd H s.heap.objs.size (.tup [kV kvs[i].1,kvs[i].2])) {s with heap:=h2}:=by
   exact⟨Z.ok,Z.os,Z.bare,⟨Z.base.keep,Z.base.slot,fun b B q n hx=>by
     have z:=Z.base.free b B q n hx
     by_cases y:b=s.heap.objs.size
     ·exfalso;have lt:=bT (aS q) I.sz;rw[y]at lt;exact absurd lt (gK _)
     ·rw[aW y];exact z,Z.base.there,fun b xs q=>by
     rw[aW (ay (Z.base.tups b xs q) fr)];exact Z.base.tups b xs q,fun b B v q=>by
     rw[aW (ay (Z.base.frzs b B v q) fr)];exact Z.base.frzs b B v q,fun b ps q=>by
     obtain⟨m,z⟩:=Z.base.tbls b ps q;exact{m,by rw[aW (ay z fr)];exact z}⟩,Z.loc,Z.cell,by
     rw[aW (aR I.lt)];exact Z.free,fun x c q=>by
     obtain⟨v,y⟩:=I.cell x c q;rw[aW (aR y.lt)];exact Z.freeC x c q,fun p hp=>by
     obtain⟨h1,bS,h3⟩:=Z.pin p hp;obtain⟨g1,_⟩:=I.pin p hp;refine{h1,?_,h3};rw[aW (aR (aS g1))];exact bS,fun b v q=>by
     by_cases y:b=s.heap.objs.size
     ·subst y;rw[ak]at q;injection q with q;subst q;exact{(by show 2<=aG;decide),[key,u],.cons (Fb hk) (.cons ru .nil),_,(sb.extBut _ _ M g),Z9,0,Z9}
     ·rw[aW y]at q;exact (Z.hok b v q).stay (fun c v' _ z=>z) (fun c z=>by rw[aW (ay z fr)];exact z) fun c xs z=>by rw[aW (ay z fr)];exact z,Z.len⟩
  refine{.ref s.heap.objs.size,_,I3,Z9,{_,_,Z9,fr,O,Z9},{_,_,by rw[J];exact W},fun b hb=>?_};have e:b=it:=by simpa using hb
  subst e;rw[aW (dB M)];exact U
 done:=by
  intro X hP hw hK hc i pins s σ H E I hf st hg;refine Z0 fun Gz gz=>?_;subst hP hw hK;obtain⟨ok,Y,st⟩:=st;obtain⟨hd,hi⟩:=hg;obtain⟨vs,r,f⟩:=sM I hd;have J:=r.length;obtain⟨U,f1,f2,D,t,G⟩:=hf it (by simp);refine gz ?_;rw[J]at st;exact wpAny_pyNext_items_end (I.ok.hd hc) st f (iR (by lia)) fun h' eb=>{Z9,I.turned (t':=s.toks) (fun b o hb e=>eb b o hb e) U f1 D t G}
 self:=fun A i s Q E ⟨ok,Y,st⟩ h=>by
  have ty:s.TypeIs (.ref it) "dict_itemiterator":={_,st,Z9};exact vM ty F.slot_dict_itemiterator_iter (xV F.slot_dict_itemiterator_iter ty sL (bK {_,Z9,"dict_itemiterator",_,ty,F.slot_dict_itemiterator_next.lookup,h}) (F.args_dict_itemiterator_iter_1 _))
end
section
variable{X:Cx}{o:c8}{to:TE}{apos cpos:Pos}{elts:List c8}{x1:Nat}{pos:Pos}
def Mq(X:Cx)(to:TE):TI:=fun σ H R=>to σ H fun x H1=>∃d kvs,x=.ref d/\H1 d=Z8 (.dK kvs)/\(∀Z u,X.H₀ d≠Z8 (.frz Z u))/\∀od,R (Iti d od kvs) (upd H1 d (.frz od (.dK kvs)))
theorem Fd(ho:PE X o to)(Z:mj o "items" X.env (gc o X.env)=gc o X.env:=by rfl)(Y:(apos.endLine==cpos.line)=true:=by rfl):PI X (.Tuple elts x1 pos) (.Call (.Attribute o "items" apos) [] [] cpos) (Mq X to):=by
 intro pins s σ H R I h;refine Eg Z Y (thn (ho pins s σ H _ I h) fun v J t=>Z0 fun Gz g=>?_);obtain⟨x,H1,O,B,d,kvs,ex,M,f,q⟩:=t;subst ex;subst B;obtain⟨hz,n1,ws,k1,V⟩:=(O.hok d _ M);obtain⟨U,_,_,E,G,_⟩:=id V;refine g ({"dict","dict.items",nC,wN,PySem.F.type_dict_items,V.typeIs,fun a e=>?_,oY rfl (Bp ?_)})
 ·injection e with e;subst e;exact⟨U,E,G.2.1⟩
 refine nv wN V.typeIs PySem.F.entry_dict_items (PySem.F.args_dict_items_1 _) (meets_dict_items (fV X.prog X.w) d n1) {⟨ws,V⟩,?_};obtain⟨od,z,W⟩:=(O.kept (t':=J.toks) fun b U q=>aK _ q).freeze M f;obtain⟨vs,r,D⟩:=sM W (ak:upd H1 d (.frz od (.dK kvs)) d=_);refine wpAny_pyIter_items {_,cA _ rfl,Z9,Z9} D ?_;refine{_,[_],_,_,_,Z9,W.kept (t':=J.toks) fun b U q=>aK _ q,AG d _ od kvs (aR (aS z)),{.none,.none,?_},fun b hb=>?_,q od}
 ·rw[r.length];exact cA _ rfl
 ·have e:=aD.mp hb;subst e;exact W.fpOk (aF _) (W.hok.fresh (aF _))
end
theorem C0{d:ae}{od:Obj}{kvs:List (Key×V)}{g:TG}{tb:TS}{D:kK}{σ:St}{H:Hp}(Z:Nat->St->Hp->Prop)(I:Z 0 σ H)(J:∀i σ H,i<=kvs.length->Z i σ H->H d=Z8 (.frz od (.dK kvs)))
  (hs:∀i R t σ H,kvs[i]?=Z8 R->Z i σ H->H t=Z7->g (.ref t) σ (upd H t (.tup [kV R.1,R.2])) fun U H2=>tb {D with nx:=Z (i+1),ct:=Z (i+1),bk:=D.nx} U H2) (E:∀σ H,Z kvs.length σ H->D.nx σ H) :
  ∃W:Nat->Nat->St->Hp->Prop,(∃m,W 0 m σ H)/\∀i m σ H,W i m σ H ->
   ((Iti d od kvs).stop i H/\D.nx σ H)\/((Iti d od kvs).go i H/\∃N:St->Hp->Prop,(∀Y H',N Y H'->∃O,O<m/\W (i+1) O Y H')/\∀x H',(Iti d od kvs).yld i H x H'->g x σ H' fun U H2=>tb {D with nx:=N,ct:=N,bk:=D.nx} U H2):=by
 refine{fun i m σ H=>m=kvs.length-i/\i<=kvs.length/\Z i σ H,{kvs.length,by simp,bE _,I},?_};rintro i m σ H ⟨rfl,hi,p⟩;have q:=J i σ H hi p
 by_cases lt:i<kvs.length
 ·refine .inr {⟨q,lt⟩,Z (i+1),fun Y H' M=>{kvs.length-(i+1),by lia,Z9,lt,M},fun x H' y=>?_};obtain⟨t,R,rfl,G,hk,rfl⟩:=y;exact hs i R t σ H hk p G
 ·have e:i=kvs.length:=by lia
  subst e;exact .inl {{q,aF _},E σ H p}
def KJ(X:Cx)(D:kK):kK where
 nx:=fun σ H=>∃d od kvs,H d=Z8 (.frz od (.dK kvs))/\(∀Z u,X.H₀ d≠Z8 (.frz Z u))/\D.nx σ (upd H d (.dK kvs))
 rt:=D.rt
 bk:=D.bk
 ct:=D.ct
theorem BC{X:Cx}{st:c9}{t:TS}(h:PS X st t):PS X st (fun D σ H=>t (KJ X D) σ H):=by
 intro pins s σ H D I q;refine thn (h pins s σ H (KJ X D) I q) fun fl V z=>?_
 cases fl with
 |next=>
  obtain⟨Z,H',Y,d,od,kvs,e,W,y⟩:=z;exact{Z,_,Y.thaw e W,y}
 |brk=>exact z
 |cont=>exact z
 |ret u=>exact z
end L2
namespace L2
open PySem PySem.Spec PyProof.Rows PySem.SeqAt
def BSc(x y:V)(b:Bool):Prop:=(∃i j:Int,x=.int i/\y=.int j/\b=decide (i=j))\/∃i j:Str,x=.str i/\y=.str j/\b=decide (i=j)
def BEq(H:Hp):Nat->V->V->Bool->Prop
 |0,x,y,b=>BSc x y b
 |n+1,x,y,b=>BSc x y b\/∃p q xs ys,x=.ref p/\y=.ref q/\((H p=Z8 (.lst xs)/\H q=Z8 (.lst ys)/\xs.length≠ys.length/\b=false) \/
   (((H p=Z8 (.lst xs)/\H q=Z8 (.lst ys))\/(H p=Z8 (.tup xs)/\H q=Z8 (.tup ys)))/\xs.length=ys.length/\∃e:Nat->Bool,(∀i x y,xs[i]?=Z8 x->ys[i]?=Z8 y->BEq H n x y (e i))/\b=(gQ xs.length).all e))
theorem BSc.self{x:V}{b:Bool}(h:BSc x x b):b=true:=by
 rcases h with⟨i,j,Y,Z,rfl⟩|⟨i,j,Y,Z,rfl⟩
 ·rw[Y]at Z
  cases Z;exact decide_eq_true rfl
 ·rw[Y]at Z
  cases Z;exact decide_eq_true rfl
theorem BEq.self{H:Hp}:∀{n:Nat} {x:V} {b:Bool},BEq H n x x b->b=true
 |0,_,_,h=>BSc.self h
 |n+1,x,b,h=>by
  rcases h with h|⟨p,q,xs,ys,R,Y,h⟩
  ·exact h.self
  ·rw[R]at Y
   cases Y
   rcases h with⟨h1,h2,W,_⟩|⟨h1,_,e,U,rfl⟩
   ·rw[h1]at h2
    cases h2;exact absurd rfl W
   ·have Z:xs=ys:=by
     rcases h1 with⟨h1,h2⟩|⟨h1,h2⟩
     ·rw[h1]at h2
      cases h2;rfl
     ·rw[h1]at h2
      cases h2;rfl
    subst Z;rw[List.all_eq_true];intro i hi;have lt:=qG.mp hi;exact BEq.self (U i _ _ (aI lt) (aI lt))
section
variable{P:aQ}{w:bU}{H:Hp}{s:aw}
theorem Fe{A:b8}{x y:V}{u v:aj}{b:Bool}(h:BSc x y b)(Y:RelV x u)(Z:RelV y v):EqAt A s u v b:=by
 rcases h with⟨i,j,rfl,rfl,rfl⟩|⟨i,j,rfl,rfl,rfl⟩
 ·obtain⟨t,rfl⟩:=(show ∃t,u=Value.int i t from Y);obtain⟨t',rfl⟩:=(show ∃t',v=Value.int j t' from Z);have z:=EqAt.int_int (A:=A) (s:=s) i t j t';have e:(i==j)=decide (i=j):=by
   by_cases c:i=j
   ·rw[decide_eq_true c,beq_iff_eq.mpr c]
   ·rw[decide_eq_false c,beq_eq_false_iff_ne.mpr c]
  rw[e]at z;exact z
 ·obtain⟨t,rfl⟩:=(show ∃t,u=Value.str i t from Y);obtain⟨t',rfl⟩:=(show ∃t',v=Value.str j t' from Z);have z:=EqAt.str_str (A:=A) (s:=s) i t j t';have e:(i==j)=decide (i=j):=by
   by_cases c:i=j
   ·rw[decide_eq_true c,beq_iff_eq.mpr c]
   ·rw[decide_eq_false c,beq_eq_false_iff_ne.mpr c]
  rw[e]at z;exact z
theorem Mr(ok:HOk P w H s.heap){A:b8}{n:Nat}{p q:ae}{xs ys:List V}{b:Bool}(hu:A.units<dY)
  (O:∀x y b,BEq H n x y b->∀u v,RelV x u->RelV y v->EqAt A.in1 s u v b)
  (h:(H p=Z8 (.lst xs)/\H q=Z8 (.lst ys)/\xs.length≠ys.length/\b=false) \/
   (((H p=Z8 (.lst xs)/\H q=Z8 (.lst ys))\/(H p=Z8 (.tup xs)/\H q=Z8 (.tup ys)))/\xs.length=ys.length/\∃e:Nat->Bool,(∀i x y,xs[i]?=Z8 x->ys[i]?=Z8 y->BEq H n x y (e i))/\b=(gQ xs.length).all e)):RcAt A s (.ref p) (.ref q) b:=by
 rcases h with⟨h1,h2,f,rfl⟩|⟨h1|h1,g,e,t,rfl⟩
 ·obtain⟨Z,Y,J⟩:=iI ok h1;obtain⟨vs,R,M⟩:=iI ok h2;refine RcAt.lists_lengths J M ?_ hu;rw[aJ,aJ,<- Y.length,<- R.length];exact bne_iff_ne.mpr f
 ·obtain⟨Z,Y,J⟩:=iI ok h1.1;obtain⟨vs,R,M⟩:=iI ok h1.2;have I:=Y.length;have B:=R.length;have k:=RcAt.lists (A:=A) (e:=e) J M (by rw[aJ,aJ];omega) hu (fun j a b=>by
   have ja:j<Z.length:=by simpa using a
   have jb:j<vs.length:=by simpa using b
   have hx:xs[j]?=Z8 (xs[j]'(by omega)):=aI _;have hy:ys[j]?=Z8 (ys[j]'(by omega)):=aI _;obtain⟨u,U,G⟩:=Y.get hx;obtain⟨v,W,D⟩:=R.get hy;have E:Z[j]=u:=(aC.mp U).2;have ev:vs[j]=v:=(aC.mp W).2;have z:=O _ _ _ (t j _ _ hx hy) u v G D;simpa[E,ev] using z)
  rw[aJ,<- I]at k;exact k
 ·obtain⟨Z,Y,J⟩:=iD ok h1.1;obtain⟨vs,R,M⟩:=iD ok h1.2;have I:=Y.length;have B:=R.length;have k:=RcAt.tuples (A:=A) (e:=e) J M hu (fun j a b=>by
   have ja:j<Z.length:=by simpa using a
   have jb:j<vs.length:=by simpa using b
   have hx:xs[j]?=Z8 (xs[j]'(by omega)):=aI _;have hy:ys[j]?=Z8 (ys[j]'(by omega)):=aI _;obtain⟨u,U,G⟩:=Y.get hx;obtain⟨v,W,D⟩:=R.get hy;have E:Z[j]=u:=(aC.mp U).2;have ev:vs[j]=v:=(aC.mp W).2;have z:=O _ _ _ (t j _ _ hx hy) u v G D;simpa[E,ev] using z)
  have es:(Z.toArray.size==vs.toArray.size)=true:=by
   rw[aJ,aJ,<- I,<- B,g];exact beq_self_eq_true _
  rw[es,Bool.and_true]at k;have em:min Z.toArray.size vs.toArray.size=xs.length:=by
   rw[aJ,aJ];omega
  first
   |(rw[em]at k;exact k)
   |(rw[aJ,<- I]at k;exact k)
theorem Ff(ok:HOk P w H s.heap):∀{n:Nat} {A:b8} {x y:V} {u v:aj} {b:Bool},A.units+n<dY->BEq H n x y b->RelV x u->RelV y v->EqAt A s u v b
 |0,A,x,y,u,v,b,_,h,Y,Z=>Fe h Y Z
 |n+1,A,x,y,u,v,b,hu,h,Y,Z=>by
  rcases id h with h' | ⟨p,q,xs,ys,rfl,rfl,h'⟩
  ·exact Fe h' Y Z
  ·cases Y
   cases Z
   by_cases e:p=q
   ·subst e;rw[BEq.self h];exact EqAt.same _
   ·exact EqAt.of_refs e (Mr ok (by omega) (fun x y b z u v Y Z=>Ff ok (by show A.units+1+n<dY;omega) z Y Z) h')
end
section
variable{X:Cx}
end
section
variable{P:aQ}{w:bU}{H:Hp}{s:aw}
end
section
variable{X:Cx}
end
end L2
namespace L2
open PySem PySem.Spec PyProof.Rows
section
variable{prog:aQ}{w:bU}{A:b8}{E:aj->aw->Prop}{s:aw}
end
section
variable{X:Cx}
end
structure vN(K:af)(C:ae):Prop where
 ga:bH K (.ref C) "__getattribute__"=Z8 (Z8 (.builtin "BaseException.__getattribute__"))
 gh:bH K (.ref C) "__getattr__"=Z8 Z7
 cl:bH K (.ref C) "__class__"=Z8 (Z8 (.builtin "object.__class__"))
 cn:mH K (.builtin "object.__class__") "__get__"=Z8 (Z8 (.builtin "getset_descriptor.__get__"))
 ck:oR K (.builtin "object.__class__")=Z8 true
 ob:kf K C (.type "object")=Z8 true
 be:kf K C (.type "BaseException")=Z8 true
theorem AH:Manifest.canonical "BaseException.__getattribute__"="object.__getattribute__":=by decide +kernel
section
variable{prog:aQ}{w:bU}{A:b8}{E:aj->aw->Prop}{s:aw}{K:af}{x C:ae}{ox:Obj}
theorem Fg{f:ae}{name:Str}{pl:Sem Bool}{Q:aj×List aj->aw->Prop}(X:K.In s.heap)(I:uG s.heap x ox C Z7)(c:vN K C)(Y:bH K (.ref C) name=Z8 (Z8 (.ref f)))(V:EK K (.ref f)=Z8 (.type "function"))
  (h:Q (.ref f,[.ref x]) s):bQ (bR prog w) A (qD (.ref x) name pl) Q E s:=by
 refine au (au (I.type.here ((kn X c.ga).here ?_)));dsimp only;rw[AH,if_neg (by decide)];refine au (au (I.type.here ((kn X c.gh).here (au (au (I.type.here ((kn X Y).here (au ((PySem.W.looks_typeIn X V).here (au (wpAny_loadPart I.at_ ?_)))))))))));have Z:=I.dict
 cases e:ox.dict with
 |none=>exact au (AC (bK h))
 |some dx=>rw[e]at Z;exact Z.elim
end
def XOk(a C:ae)(h:cG):Prop:=∃Z,h.get? a=Z8 Z/\Z.cls=.ref C/\Z.dict=Z7/\Fh Z=true
def XO(a C:ae):HO:=.ext (XOk a C)
theorem XOk.obj{P:aQ}{w:bU}{H:Hp}{h:cG}{a C:ae}(x:XOk a C h):hV P w H h a (XO a C):=by
 obtain⟨Z,e,r⟩:=x;refine{⟨Z,e,r⟩,⟨Z,e⟩,fun h1 h2 y k=>?_};obtain⟨o,W,Y⟩:=y;exact{o,k o W,Y}
theorem XOk.inst{h:cG}{a C:ae}(x:XOk a C h):∃ox,uG h a ox C Z7:=by
 obtain⟨Z,e,c,d,n⟩:=x;exact{Z,e,c,n,by rw[d];trivial}
theorem Mu{P:aQ}{w:bU}{H:Hp}{h:cG}{a C:ae}(ok:HOk P w H h)(e:H a=Z8 (XO a C)):XOk a C h:=(ok a _ e).1
section
variable{X:Cx}{pins:List (ae×Obj)}{σ:St}{H:Hp}{s:aw}
end
section
variable{P:aQ}{w:bU}{H:Hp}{h h':cG}{a:ae}{o:HO}{fs ex:List ae}
end
section
variable{X:Cx}{pins:List (ae×Obj)}{σ:St}{H:Hp}{s:aw}{C:ae}{x:Str}{p pos:Pos}{e:c8}{es:List c8}{t:TA}
end
section
variable{X:Cx}{CX:CXT}{k:Nat}{f C:ae}{fd:cm}{ps:List Str}{sp:Sp}{E:XK}{m:Str}{pos apos:Pos}{o:c8}{ta:TE}
end
section
variable{X:Cx}{pins:List (ae×Obj)}{σ:St}{H:Hp}{s:aw}
theorem Inv.adopt{B:cG}{Y C:ae}{fl:aj}(I:Inv X pins σ H s)(f:FlD B X.stack Y (.ref C) fl s.heap)(U:xH X pins H B s.heap):H Y=Z7/\Inv X pins σ (upd H Y (XO Y C)) s:=by
 obtain⟨hB,hn,t,R,vs,T,oT,ts,V,hc,J,O,_⟩:=f;have G:Y∉frs X.stack:=fun z=>by
  obtain⟨_,o,Z,q⟩:=t.mem z;rw[V]at Z;injection Z with Z;subst Z;exact q vs O
 have E:∀o,B.get? Y≠Z8 o:=fun o z=>by rw[hn]at z;cases z
 have hz:H Y=Z7:=by
  cases z:H Y with
  |none=>rfl
  |some u=>exact absurd (U Y R (.inl (by rw[z];simp)) G V) (E R)
 have ne:∀{b:ae} {o:HO},H b=Z8 o->b≠Y:=fun {b o} z=>ay z hz;refine{hz,I.ok,I.os,I.bare,{I.base.keep,I.base.slot,fun b o e n hx=>?_,I.base.there,fun b xs e=>?_,fun b o u e=>?_,fun b ps e=>?_},I.loc,I.cell,?_,fun x c e=>?_,fun p hp=>?_,fun b u e=>?_,I.len}
 ·rw[aW]
  ·exact I.base.free b o e n hx
  ·rintro rfl;exact E R (U _ R (.inr (.inl ⟨hx,o,e⟩)) G V)
 ·have z:=I.base.tups b xs e;rw[aW (ne z)];exact z
 ·have z:=I.base.frzs b o u e;rw[aW (ne z)];exact z
 ·obtain⟨more,z⟩:=I.base.tbls b ps e;exact{more,by rw[aW (ne z)];exact z}
 ·rw[aW]
  ·exact I.free
  ·intro z;obtain⟨m,⟨o,es,ep,Z,W,_⟩,_⟩:=I.loc;rw[z,V]at Z;injection Z with Z;subst Z;rw[O]at W
   cases W
 ·rw[aW]
  ·exact I.freeC x c e
  ·intro z;obtain⟨v,o,Z,W⟩:=I.cell x c e;rw[z,V]at Z;injection Z with Z;subst Z;rw[O]at W
   cases W
 ·obtain⟨D,g,e3,e4,e5⟩:=I.pin p hp;refine{D,?_,e3,e4,e5};rw[aW]
  ·exact g
  ·intro z;have M:s.heap.get? Y=Z8 p.2:=by rw[<- z];exact D
   rw[V]at M;injection M with M;exact E _ (U Y _ (.inr (.inr ⟨p,hp,z⟩)) G V)
 ·by_cases hb:b=Y
  ·subst hb;rw[ak]at e;injection e with e;subst e;refine XOk.obj {R,V,hc,J,?_};unfold Fh;rw[O]
  ·rw[aW hb]at e;exact (I.hok b u e).stay (fun _ _ _ q=>q) (fun c q=>by rw[aW (ne q)];exact q) fun c xs q=>by rw[aW (ne q)];exact q
theorem C1{M:Ij}{A:b8}{E:aj->aw->Prop}{i:Nat}{x:Str}{v:V}{Q:Unit->aw->Prop}(I:Inv X pins σ H s)(hN:X.N.Nodup)(hi:X.N[i]?=Z8 x)(hk:X.env.scope.names.lookup x=Z8 .local)(g:σ[i]?=Z8 (Z8 v))
  (h:∀s',Inv X pins (σ.set i Z7) H s'->Q () s'):bQ M A (unbindName X.env x) Q E s:=by
 obtain⟨m,hn,t⟩:=id I.loc;have W:(X.env.scope.kind==.class||(X.env.scope.kind==.module&&X.env.locals != X.env.globals))=false:=by rw[I.ok.kind];rfl
 have J:X.env.kindOf x=Z8 .local:=hk;have D:(m x).isSome=true:=by
  obtain⟨u,_,q⟩:=t i x v hi g (.inl hk)
  rcases q with⟨_,e⟩|⟨k,_⟩
  ·rw[e];rfl
  ·simp_all
 refine au (wpAny_point (au ?_));unfold deleteName;simp only[J,W];refine au (wpAny_nsDel_keeps hn fun h' v' O hs=>?_);rw[D];refine bK (wpAny_point (h _ ?_));have cne:=I.cne;have Z:∀b o,X.s₀.heap.get? b=Z8 o->b≠X.env.locals:=fun b o e=>aR (bT (aS e) I.ok.above);refine{I.ok,I.os,I.bare,{fun b o e n hb hx=>(hs.2 b (Z b o e)).trans (I.base.keep b o e n hb hx),fun b o e n hb hx=>?_,I.base.free,fun b o e hx=>?_,I.base.tups,I.base.frzs,I.base.tbls},{_,O,fun j y v2 Y U e3=>?_},fun y c e=>?_,I.free,I.freeC,fun p hp=>?_,fun b ob e=>?_,by simpa using I.len}
 ·obtain⟨sl,Y⟩:=I.base.slot b o e n hb hx;exact{sl,(hs.2 b (Z b o e)).trans Y}
 ·obtain⟨o',Y⟩:=I.base.there b o e hx;exact{o',(hs.2 b (Z b o e)).trans Y}
 ·by_cases G:j=i
  ·subst G;have B:=(aC.mp g).1;rw[eG B]at U;exfalso
   cases U
  ·rw[hW (dB G)]at U;obtain⟨u',r',q⟩:=t j y v2 Y U e3;refine{u',r',?_}
   rcases q with⟨k,e⟩|⟨k,c,e,z⟩
   ·refine .inl {k,?_};have R:y≠x:=fun e=>G (uy hN Y (e ▸ hi));simp[R,e]
   ·exact .inr {k,c,e,z.sameBut hs (cne y c e)}
 ·obtain⟨f,z⟩:=I.cell y c e;exact{f,z.sameBut hs (cne y c e)}
 ·obtain⟨e,n,ne,nf,d⟩:=I.pin p hp;exact{(hs.2 p.1 ne).trans e,n,ne,nf,d}
 ·refine (I.hok b ob e).stay (fun c f hc q=>(hs.2 c ?_).trans q) (fun _ q=>q) fun _ _ q=>q;rintro rfl
  rcases hc with rfl|hc
  ·rw[I.free]at e;cases e
  ·rw[I.free]at hc;cases hc
def KL(i:Nat)(D:kK):kK:={nx:=fun σ H=>D.nx (σ.set i Z7) H,rt:=D.rt,bk:=fun σ H=>D.bk (σ.set i Z7) H,ct:=fun σ H=>D.ct (σ.set i Z7) H}
def thAs(K:af)(Y:ae)(i:Nat)(t:TS)(th:TH):TH:=fun C D σ H=>
 (dC K (.ref C) (.ref Y)=Z8 true/\∀Z,H Z=Z7->t (KL i D) (σ.set i (Z8 (.ref Z))) (upd H Z (XO Z C)))\/(dC K (.ref C) (.ref Y)=Z8 false/\th C D σ H)
theorem ue{M:Ij}{A:b8}{E:aj->aw->Prop}{i:Nat}{x:Str}{pos:Pos}{Q:Unit->aw->Prop}(I:Inv X pins σ H s)(W:X.N.Nodup)(hi:X.N[i]?=Z8 x)(hk:X.env.scope.names.lookup x=Z8 .local)
  (h:∀s',Inv X pins (σ.set i Z7) H s'->Q () s'):bQ M A (do bindName X.env x .none;unbindBehindTheSuite X.env x pos) Q E s:=by
 have Z:i<σ.length:=by
  rw[I.len];exact (aC.mp hi).1
 refine au (wpAny_bindName (rn (v:=.non) I W hi (.inl hk) rfl (fun U V=>wpAny_onRaise (C1 V W hi hk (eG Z) fun s2 Y=>h s2 ?_)) (.inr hk)));rw[List.set_set]at Y;exact Y
theorem Mv{x n:Str}{Ci:ae}{np pos:Pos}{V:c9}{Z:List c9}{rest:List ua}{t:TS}{th:TH}(i:Nat)(hg:Gl X x)(hm:X.mg x=Z8 (.ref Ci))(g:X.N.Nodup)(hi:X.N[i]?=Z8 n)(hk:X.env.scope.names.lookup n=Z8 .local)
  (br:∀Y,PSs (X.hdl Y) (V::Z) t) (hr:PHs X rest th) (hd:(x==("__debug__":Str))=false:=by decide):PHs X (.ExceptHandler (Z8 (.Name x np)) (Z8 n) (V::Z) pos::rest) (thAs X.K Ci i t th):=by
 intro pins s σ H D Y C B I fl G h;refine wpAny_handleBy_cons (codeAny_handlers_test (p8 (I.hdl Y) hg hm ?_ hd)) (by intro q;cases q);obtain⟨ob,bu,hc⟩:=fl.there;have LT:PySem.W.Looks (bR X.prog X.w) s.heap (typeOf (.ref Y)) (.ref C):=by
  rw[<- hc];exact (PySem.W.Looks.ld bu).andThen .now
 rcases h with⟨hx,q⟩|⟨hx,q⟩
 ·refine (Ek I.kIn LT hx).here ?_;refine codeAny_handlers_suite_as (rG fl fun h6 E bt=>?_);obtain⟨hz,J⟩:=(I.landed E.1 G bt).adopt E (xH.land I E.1 G);refine rn (X:=X.hdl Y) (v:=.ref Y) (J.hdl Y) g hi (.inl hk) rfl (fun s2 I2=>eJ (br Y pins _ _ _ (KL i D) I2 (q Y hz)) (fun f s3 z=>?_) (fun _ _ z=>df z)) (.inr hk)
  cases f with
  |next=>obtain⟨R,H',O,M⟩:=z;exact ue (O.unhdl I.ok) g hi hk fun s4 U=>{_,_,U,M}
  |brk=>obtain⟨R,H',O,M⟩:=z;exact ue (O.unhdl I.ok) g hi hk fun s4 U=>{_,_,U,M}
  |cont=>obtain⟨R,H',O,M⟩:=z;exact ue (O.unhdl I.ok) g hi hk fun s4 U=>{_,_,U,M}
  |ret u=>obtain⟨v,R,H',O,r3,M⟩:=z;exact ue (O.unhdl I.ok) g hi hk fun s4 U=>{v,_,_,U,r3,M}
 ·refine (Ek I.kIn LT hx).here ?_;exact hr pins s σ H D Y C B I fl G q
end
section
variable{X:Cx}{pins:List (ae×Obj)}{σ:St}{H:Hp}{s s2:aw}{h':cG}
theorem Inv.turned2{t':Nat}{e it:ae}(I:Inv X pins σ H s)(k:∀b o,b≠e->b≠it->s.heap.get? b=Z8 o->h'.get? b=Z8 o)(f:xp X pins H e)(g:xp X pins H it):Inv X pins σ H {s with heap:=h',toks:=t'}:=by
 have Y:∀b u,H b=Z8 u->b≠e:=fun b u q z=>by rw[z,f.1]at q;cases q
 have Z:∀b u,H b=Z8 u->b≠it:=fun b u q z=>by rw[z,g.1]at q;cases q
 refine Z0 fun Gz O=>?_;obtain⟨f0,f1,f2,M,G,t⟩:=f;obtain⟨g0,W,g2,U,E,R⟩:=g;refine O (I.step (g':=s.gens) (d':=s.drawn) (ch:=[e,it]) (fun b hb=>?_) (fun b o _ _ hc q _=>k b o (fun z=>hc (by simp[z])) (fun z=>hc (by simp[z])) q) (fun b o _ _ hc q _=>{o.slots,k b o (fun z=>hc (by simp[z])) (fun z=>hc (by simp[z])) q}) (fun _ _ _ _ n=>n)
  (fun b o hc q=>{o,k b o (fun z=>hc (by simp[z])) (fun z=>hc (by simp[z])) q}) (fun _ _ q=>q) (fun _ _ _ q=>q) (fun b ps q=>{#[],by rw[q];simp}) (fun m J=>?_) (fun b u q=>?_) I.bare)
 ·rcases aE.mp hb with z|z
  ·subst z;exact⟨M,f1,G,t⟩
  ·have z:=aD.mp z;subst z;exact⟨U,W,E,R⟩
 ·obtain⟨o,es,D,B,r⟩:=J;exact{o,es,D,k _ o (dB f1) (dB W) B,r}
 ·refine (I.hok b u q).stay (fun c v hc V=>k c v ?_ ?_ V) (fun _ q=>q) fun _ _ q=>q
  ·rcases hc with z|z
   ·rw[z];exact Y b u q
   ·exact Y c _ z
  ·rcases hc with z|z
   ·rw[z];exact Z b u q
   ·exact Z c _ z
theorem Inv.track{o:HO}(I:Inv X pins σ H s)(Z:Inv X pins σ H s2)(ok:hV X.prog X.w (upd H s.heap.objs.size o) s2.heap s.heap.objs.size o):Inv X pins σ (upd H s.heap.objs.size o) s2:=by
 have fr:=I.hok.fresh (aF _);exact⟨Z.ok,Z.os,Z.bare,⟨Z.base.keep,Z.base.slot,fun b Y q n hx=>by
   have z:=Z.base.free b Y q n hx
   by_cases y:b=s.heap.objs.size
   ·exfalso;have lt:=bT (aS q) I.sz;rw[y]at lt;exact absurd lt (gK _)
   ·rw[aW y];exact z,Z.base.there,fun b xs q=>by
   rw[aW (ay (Z.base.tups b xs q) fr)];exact Z.base.tups b xs q,fun b Y v q=>by
   rw[aW (ay (Z.base.frzs b Y v q) fr)];exact Z.base.frzs b Y v q,fun b ps q=>by
   obtain⟨m,z⟩:=Z.base.tbls b ps q;exact{m,by rw[aW (ay z fr)];exact z}⟩,Z.loc,Z.cell,by
   rw[aW (aR I.lt)];exact Z.free,fun x c q=>by
   obtain⟨v,y⟩:=I.cell x c q;rw[aW (aR y.lt)];exact Z.freeC x c q,fun p hp=>by
   obtain⟨h1,W,U⟩:=Z.pin p hp;obtain⟨V,_⟩:=I.pin p hp;refine{h1,?_,U};rw[aW (aR (aS V))];exact W,fun b v q=>by
   by_cases y:b=s.heap.objs.size
   ·subst y;rw[ak]at q;injection q with q;subst q;exact ok
   ·rw[aW y]at q;exact (Z.hok b v q).stay (fun c R _ z=>z) (fun c z=>by rw[aW (ay z fr)];exact z) fun c xs z=>by rw[aW (ay z fr)];exact z,Z.len⟩
end
def Ite(K:af)(a:ae):It:=
 {fun i H=>∃xs x,SqL K H a xs/\xs[i]?=Z8 x,fun i H x H'=>∃t y,x=.ref t/\H t=Z7/\(∀xs,SqL K H a xs->xs[i]?=Z8 y)/\H'=upd H t (.tup [.int i,y]),fun i H=>∃xs,SqL K H a xs/\xs.length<=i}
section
variable{P:aQ}{w:bU}{K:af}
theorem C2{elts:List c8} {x1} {pos:Pos} (a e it:ae) (W:e≠it):Ac P w K (.Tuple elts x1 pos) (Ite K a) [e,it] e (fun i h=>∃old,IsEnum h e it (i:Int) old/\h.IsListIter it a i) where
 mem:=by simp
 obj:=fun i h st b hb=>by
  obtain⟨old,h1,h2⟩:=st
  rcases aE.mp hb with z|z
  ·simp_all
  ·have z:=aD.mp z;subst z;obtain⟨o,e,c,d⟩:=h2;exact{o,e,fun v z=>by rw[d]at z;cases z}
 keep:=fun i h h' ⟨old,h1,h2⟩ k=>{old,k e (by simp) _ h1,h2.at fun o q=>k it (by simp) o q}
 item:=by
  intro X g hw D hc i pins s σ H E I V st R;refine Z0 fun Gz M=>?_;subst g hw D;obtain⟨old,Y,Z⟩:=st;obtain⟨xs,x,hq,hx⟩:=R;obtain⟨t,B,p,hz⟩:=I.list hq;obtain⟨u,hu,ru⟩:=B.get hx;have F1:=V e (by simp);have F2:=V it (by simp);obtain⟨U,f1,f2,G,f,J⟩:=id F1;refine M (wpAny_pyNext_enum_item Y Z p.isList (by simpa using hu) W fun h' a1 a2 a3 a4 a5=>{_,Z9,wpAny_letOwnedTupleGo_enum a1 fun h2 e2 O=>?_});have n1:=(aR (aS Y)).symm;have n2:s.heap.objs.size≠it:=by
   obtain⟨o,q,_⟩:=Z;exact (aR (aS q)).symm
  refine{.ref s.heap.objs.size,_,(I.track ((I.turned2 (t':=s.toks+1) (fun b o h1 h2 q=>a5 b o h1 h2 q) F1 F2).turned (t':=s.toks+1) (fun b o hb q=>O.extBut b o hb q) U f1 G f J) (o:=.tup [.int i,x]) {(by show 2<=aG;decide),[.int i s.toks,u],.cons {_,Z9} (.cons ru .nil),_,(O.extBut _ _ n1 a3),Z9,0,Z9}),Z9,{_,x,Z9,(I.hok.fresh (aF _)),fun ys hy=>by rw[I.list_inj hy hq];exact hx,Z9},{u,e2,a2.extBut O.extBut (dB W)},fun b hb=>?_}
  rcases aE.mp hb with z|z
  ·rw[z,aW (dB n1)];exact U
  ·rw[aD.mp z,aW (dB n2)];exact F2.1
 done:=by
  intro X g hw D hc i pins s σ H E I V st R;refine Z0 fun Gz M=>?_;subst g hw D;obtain⟨old,Y,Z⟩:=st;obtain⟨xs,hq,hx⟩:=R;obtain⟨t,B,p,hz⟩:=I.list hq;obtain⟨U,f1,f2,G,f,J⟩:=V it (by simp);refine M ?_;have hl:=B.length;exact wpAny_pyNext_enum_end (I.ok.hd hc) Y Z p.isList (by simp;lia) fun h' eb=>{Z9,I.turned (t':=s.toks) (fun b o hb e=>eb b o hb e) U f1 G f J}
 self:=fun A i s Q E ⟨old,st,_⟩ h=>by
  have ty:s.TypeIs (.ref e) "enumerate":={_,st,Z9};exact vM ty F.slot_enumerate_iter (xV F.slot_enumerate_iter ty F.entry_enumerate_iter (bK {_,Z9,"enumerate",_,ty,F.slot_enumerate_next.lookup,h}) (F.args_enumerate_iter_1 _))
end
section
variable{X:Cx}{elts:List c8}{x1:Nat}{tpos pos p:Pos}
def KM(K:af)(tl:TA):TI:=fun σ H R=>tl σ H fun vs H1=>∃a,vs=[.ref a]/\(∃xs,SqL K H1 a xs)/\R (Ite K a) H1
theorem xW{a:c8}{ta:TA}(O:Gl X "enumerate")(M:X.mg "enumerate"=Z7)(ha:PA X [a] ta)(hs:cO [a] X.env=[(false,gc a X.env)]:=by rfl):PI X (.Tuple elts x1 tpos) (.Call (.Name "enumerate" p) [a] [] pos) (KM X.K ta):=by
 intro pins s σ H R I h;refine Call_ (sh I O M boot_enumerate (kd (thn (ha pos pins s σ H _ I h) fun B Y ⟨vs,H1,Z,G,U⟩=>?_) hs rfl));obtain⟨l,e,⟨xs,hq⟩,q⟩:=U;subst e;obtain⟨u,rfl,J⟩:=vals1 G;subst J;obtain⟨V,t,pl,hz⟩:=Z.list hq;refine call_enumerate_list pl.isList fun h' W E e3 D=>?_;have ty:({Y with heap:=h'}:aw).TypeIs (.ref (Y.heap.objs.size+1)) "enumerate":={_,W,Z9};refine vM ty F.slot_enumerate_iter (xV F.slot_enumerate_iter ty F.entry_enumerate_iter (bK {_,Z9,"enumerate",_,ty,F.slot_enumerate_next.lookup,{_,[_,_],_,_,H1,Z9,(Z.kept (t':=Y.toks) D),C2 l _ Y.heap.objs.size (Nat.succ_ne_self _),{.none,W,E},fun b hb=>?_,q}}) (F.args_enumerate_iter_1 _))
 rcases aE.mp hb with z|z
 ·rw[z];exact Z.fpOk (e9 _) (Z.hok.fresh (e9 _))
 ·rw[aD.mp z];exact Z.fpOk (aF _) (Z.hok.fresh (aF _))
theorem C3{K:af}{a:ae}{xs:List V}{n:Nat}{g:TG}{tc:TT}{te:TE}{σ:St}{H:Hp}{Q:VK}(Y:Nat->List V->Hp->Prop)(B:Y 0 [] H)(E:∀i ys H,i<=xs.length->Y i ys H->SqL K H a xs/\ys.length<aG)
  (hs:∀i x t ys H,xs[i]?=Z8 x->Y i ys H->H t=Z7->g (.ref t) (cT n Z7++σ) (upd H t (.tup [.int i,x])) fun Z H2=>Z.drop n=σ/\tc Z H2 fun b O=>if b=true then te Z O fun y M=>Y (i+1) (ys++[y]) M else Y (i+1) ys O)
  (I:∀ys H,Y xs.length ys H->∀p,H p=Z7->Q (.ref p) (upd H p (.lst ys))) :
  ∃W:Nat->Nat->List V->Hp->Prop,(∃m,W 0 m [] H)/\∀i m ys H,W i m ys H->ys.length<aG/\(((Ite K a).stop i H/\∀p,H p=Z7->Q (.ref p) (upd H p (.lst ys))) \/
   ((Ite K a).go i H/\∃N:List V->Hp->Prop,(∀U H',N U H'->∃J,J<m/\W (i+1) J U H')/\∀x H',(Ite K a).yld i H x H'->g x (cT n Z7++σ) H' fun Z H2=>Z.drop n=σ/\tc Z H2 fun b O=>
    if b=true then te Z O fun y M=>N (ys++[y]) M else N ys O)):=by
 refine{fun i m ys H=>m=xs.length-i/\i<=xs.length/\Y i ys H,{xs.length,by simp,bE _,B},?_};rintro i m ys H ⟨rfl,hi,p⟩;obtain⟨q,z⟩:=E i ys H hi p;refine{z,?_}
 by_cases R:i<xs.length
 ·refine .inr {{xs,xs[i],q,by simp[R]},Y (i+1),fun U H' G=>{xs.length-(i+1),by lia,Z9,R,G},fun x H' y=>?_};obtain⟨t,v,rfl,D,f,rfl⟩:=y;exact hs i v t ys H (f xs q) p D
 ·have e:i=xs.length:=by lia
  subst e;exact .inl {{xs,q,aF _},I ys H p}
end
section
variable{prog:aQ}{w:bU}{A:b8}{E:aj->aw->Prop}{s:aw}
theorem vO{a:ae}{vs:List aj}{n:Nat}{b:Bool}{P:Fin->aw->Prop}(V:s.heap.get? a=Z8 (fk "list" vs.toArray n))(h2:vs.length<2)
  (h:P (.done (.ret .none)) {s with heap:=sortedHeap s.heap a vs vs.toArray}) :
  bQ (bR prog w) A (iT.«list.sort» {[.ref a],[(pQ "reverse",.bool b)]}) P E s:=by
 rw[list_sort_rev];have ha:=aS V;refine au (listItems_at V rfl (au (uf V rfl ?_)));obtain⟨U,Z⟩:∃U,(s.heap.update a (dQ fun _=>#[])).get? a=Z8 (fk "list" #[] U):={_,get?_update_seq V (fun _=>#[])};refine au (yN Z rfl (au (wpAny_newTuple (au (ug (eK ?_))))));have Y:(((s.heap.update a (dQ fun _=>#[])).push (fk "tuple" vs.toArray 0)).push (fk "list" #[] 0)).get? a=Z8 (fk "list" #[] U):=by
  rw[gs _ _ _ (by rw[uT,gO];exact aR (gv ha)),gs _ _ _ (by rw[gO];exact aR ha)];exact Z
 have one:((if b=true then (if b=true then (vs.toArray.zip vs.toArray).reverse else vs.toArray.zip vs.toArray).map (·.2) |>.reverse else (if b=true then (vs.toArray.zip vs.toArray).reverse else vs.toArray.zip vs.toArray).map (·.2)):Array aj)=vs.toArray:=by
  clear Y Z ha h V
  rcases vs with _|⟨v,_|⟨O,vs⟩⟩
  ·cases b<;>simp
  ·cases b<;>simp
  ·exact absurd h2 (by simp)
 dsimp only;have step:∀t:Sem Fin,bQ (bR prog w) A t P E {s with heap:=((s.heap.update a (dQ fun _=>#[])).push (fk "tuple" vs.toArray 0)).push (fk "list" #[] 0)} ->
   bQ (bR prog w) A (if b=true then (do let _ <- Io "list.sort.reverse";t) else t) P E {s with heap:=((s.heap.update a (dQ fun _=>#[])).push (fk "tuple" vs.toArray 0)).push (fk "list" #[] 0)}:=by
  intro t R
  split
  ·exact au (AC R)
  ·exact R
 refine step _ ?_;have W:vs.toArray.size<2:=by simpa using h2
 rw[if_pos W,if_pos W];refine au (bK (au (bK ?_)));dsimp only;refine au (yN Y rfl ?_);rw[(one)];refine au (uf Y rfl ?_);simp;exact bK h
theorem AI{l:ae}{vs:List aj}{b:Bool}{Q:aj->aw->Prop}(Y:s.heap.IsList l vs.toArray)(h2:vs.length<2)
  (h:Q (.ref (s.heap.objs.size+1)) {s with heap:=El s.heap vs vs.toArray}) :
  bQ (bR prog w) A (vD (.builtin "sorted") [.ref l] [(pQ "reverse",.bool b)]) Q E s:=by
 refine Fi kind_sorted plain_sorted entry_sorted (args_sorted_rev _ _) (au (bK (au (collect_list Y (au (ug ?_))))));have hsz:((s.heap.push (fk "list" #[] 0)).update s.heap.objs.size (dQ (·++vs.toArray))).objs.size=s.heap.objs.size+1:=by
  rw[gO,uT]
 have Z:(((s.heap.push (fk "list" #[] 0)).update s.heap.objs.size (dQ (·++vs.toArray))).push (fk "list" vs.toArray 0)).get? (s.heap.objs.size+1)=Z8 (fk "list" vs.toArray 0):=by
  rw[<- hsz];exact cA _ rfl
 rw[hsz];exact au (eK (KN slot_list_sort {_,Z,Z9} entry_list_sort (vO Z h2 {_,Z9,bK {_,Z9,h}}) (Mw _ _)))
end
section
variable{X:Cx}{e:c8}{t:TA}{p pos kp bp:Pos}{j:Nat}
end
section
variable{X:Cx}
def tTryE(T:ae->St->Hp->Prop)(tb:TS)(th:TH)(te:TS):TS:=fun D σ H=>tb {D with nx:=te D} σ H/\∀C Z H',Z.length=σ.length->T C Z H'->th C D Z H'
theorem IX{V Y:List c9}{U:ua}{hs:List ua}{pos:Pos}{tb te:TS}{th:TH}(T:ae->St->Hp->Prop)(hb:∀pins,PSs (X.tr pins T) V tb)(hh:PHs X (U::hs) th)(ho:PSs X Y te)
  (R:X.stack=X.env::X.outer:=by rfl) (G:X.env.frame=Z8 X.env.locals:=by rfl):PS X (.Try V (U::hs) Y [] pos) (tTryE T tb th te):=by
 intro pins s σ H D I h;obtain⟨h1,h2⟩:=h;refine wpAny_Try_except (eJ (hb pins [] s σ H {D with nx:=te D} (I.tr T) h1) (fun f E q=>?_) (fun e E q=>?_))
 ·cases f with
  |next=>obtain⟨Z,H',J,q⟩:=q;exact ho pins E Z H' D J.untr q
  |ret v=>obtain⟨v,Z,H',J,r,q⟩:=q;exact⟨v,Z,H',J.untr,r,q⟩
  |brk=>obtain⟨Z,H',J,q⟩:=q;exact⟨Z,H',J.untr,q⟩
  |cont=>obtain⟨Z,H',J,q⟩:=q;exact⟨Z,H',J.untr,q⟩
 ·refine Z0 fun Gz gz=>?_;obtain⟨z,C,B,Z,H',rfl,J,fl,O,t⟩:=q;refine gz ?_;have M:FlD B (X.env::X.outer) z (.ref C) .none E.heap:=by
   rw[<- R];exact fl
  refine Bu (by rw[J.ok.frames,R]) G M fun h4 g s4=>rG g fun h5 W s5=>?_;rw[<- R]at W;exact hh pins _ Z H' D z C B (J.landed W.1 O (s4.trans s5)) W (xH.land J W.1 O) (h2 C Z H' (by rw[J.len,I.len]) t)
end
abbrev BD(A:b8):b8:={A with handled:=Z7}
structure pR(P:aQ)(w:bU)(K:af)(mg:Str->Option aj)(base:cG)(CX:CXT)(k:Nat)(f:ae)(fd:cm)(ps:List Str)(sp:Sp):Prop where
 len:∀vs H Q E,sp vs H Q E->vs.length=ps.length
 run:∀(A:b8) (outer:List Env) (s:aw) (H:Hp) (args:Args) (us:List aj) (vs:List V) (Q:VK) (E:XK),e8 k (BD A)->Am P w K mg base A outer s H->sZ s fd args (ps.zip us)->dv vs us->sp vs H Q E ->
  mi (bR P w) A (.call (.ref f) args) (CR CX outer P w H s Q E) s
theorem Mx{CX:CXT}{P:aQ}{w:bU}{K:af}{mg:Str->Option aj}{base:cG}{k:Nat}{f:ae}{name W:Str}{U:Arguments}{M:List c9}{Z:jS}{dV kV g pm R ct oc:aj}{an od:Option ae}
  {bw:Array (Option aj)} {N ps:List Str} {sp:Sp} (lk:K.lookup f=Z8 {oc,od,.func (fg name W U M Z dV kV g pm an R ct),bw}) (bv:jL K R W=true) (S:bX N ps Z)
  (len:∀vs H Q E,sp vs H Q E->vs.length=ps.length)
  (G:∀(A:b8) (outer:List Env) (s:aw) (H:Hp) (vs:List V) (Q:VK) (E:XK),sp vs H Q E ->
   ∃t,PSs {sD CX P w K mg base N W Z f R A outer s H E with calm:=false} M t/\t {nx:=fun _ H'=>Q .non H',rt:=Q} (start N vs) H) :
  pR P w K mg base CX (k+1) f (fg name W U M Z dV kV g pm an R ct) ps sp:=by
 refine{len,fun A outer s H args us vs Q E hr O hb r B=>?_};have KX:=O.mod.kin.keeps fun b o e=>(O.bs b o e).1;have D:∀y∈ps.zip us,Z.names.lookup y.1=Z8 .local\/(Z.names.lookup y.1=Z8 .cell/\((Ed (s.heap.objs.size+1) Z.names []).lookup y.1).isSome=true):=fun⟨n,v⟩ hy=>by
  rcases S.par n (pC hy).1 with q|q
  ·exact .inl q
  ·exact .inr {q,oy _ _ _ (.inl q)}
 refine Ia hr.depth (KX _ _ lk) rfl S.co S.gen rfl (Aq KX bv) (hb _ _ _ _ (Ar S.kind D fun env he s1 x=>?_));subst he;refine{(O.mod.nolimit.keeps fun b o e=>(O.bs b o e).1).keeps x.toInCall.keep,codeAny_func ?_};obtain⟨t,ht,hq⟩:=G A outer s H vs Q E B;have Y:Inv (sD CX P w K mg base N W Z f R (BD A) outer s H E) [] (start N vs) H s1:=wA S rfl (⟨O.frames,O.mod,O.bs,O.bsz,O.funs,O.frf,O.hok,O.bare⟩) (len _ _ _ _ B) r x;refine eJ (ht [] s1 (start N vs) H _ ({{Y.ok.mod,Y.ok.kind,Y.ok.glob,Y.ok.blt,Y.ok.above,Y.ok.inj,Y.ok.has,Y.ok.cab,fun z=>t9 z,Y.ok.frames,Y.ok.stk,Y.ok.exf,Y.ok.bs,Y.ok.bsz,Y.ok.noex,Y.ok.exfs,Y.ok.funs,Y.ok.frf},Y.os,Y.bare,Y.base,Y.loc,Y.cell,Y.free,Y.freeC,Y.pin,Y.hok,Y.len}) hq) (fun fl s' hs=>?_) fun e s' hs=>hs;have fin:∀{I:St} {H':Hp} {v:V} {u:aj},Inv {sD CX P w K mg base N W Z f R A outer s H E with calm:=false} [] I H' s'->RelV v u->Q v H'->CE outer P w H s Q u s':=
  fun {I H' v u} J rv q=>⟨v,H',J.os,J.bare,J.base,J.hok,rv,q⟩
 cases fl with
 |ret u=>
  obtain⟨v,I,H',J,rv,q⟩:=hs;exact fin J rv q
 |next=>
  obtain⟨I,H',J,q⟩:=hs;exact fin (v:=V.non) J rfl q
 |brk=>
  obtain⟨_,_,_,q⟩:=hs;exact df q
 |cont=>
  obtain⟨_,_,_,q⟩:=hs;exact df q
theorem Fun.okH{P:aQ}{w:bU}{K:af}{mg:Str->Option aj}{base:cG}{x Z:Str}{st:c9}{f:ae}{fd:cm}{N ps:List Str}{k:Nat}{sp:Sp}(F:Fun K x Z st f fd)(S:bX N ps (aT st))(len:∀vs H Q E,sp vs H Q E->vs.length=ps.length)
  (Y:∀(W:aj) (A:b8) (outer:List Env) (s:aw) (H:Hp) (vs:List V) (Q:VK) (E:XK),sp vs H Q E ->
   ∃t,PSs {sD CX0 P w K mg base N Z (aT st) f W A outer s H E with calm:=false} (jz st) t/\t {nx:=fun _ H'=>Q .non H',rt:=Q} (start N vs) H):pR P w K mg base CX0 (k+1) f fd ps sp:=by
 obtain⟨G,od,kV,O,I,D,W,ct,M,rfl,J,R⟩:=F.ex;exact Mx J R S len fun A outer s H vs Q E U=>Y W A outer s H vs Q E U
theorem IY{X:Cx}{CX:CXT}{k:Nat}{f:ae}{fd:cm}{ps:List Str}{sp:Sp}{E:XK}{pins:List (ae×Obj)}{σ:St}{H:Hp}{s:aw}{Q:VK}{Y:List aj}{vs:List V}(F:pR X.prog X.w X.K X.mg X.base CX k f fd ps sp)(W:e8 k (BD X.A))(hb:Binds X.K fd ps [])(hx:mX CX X E)
  (I:Inv X pins σ H s) (r:dv vs Y) (h:sp vs H Q E):bQ (bR X.prog X.w) X.A (vD (.ref f) Y) (EP X pins σ Q) X.xe s:=by
 have Z:=hb s Y I.kIn (by rw[cB,<- r.length];exact F.len _ _ _ _ h);rw[cB]at Z;refine Ap (ng (F.run X.A X.stack s H {Y,[]} Y vs Q E W I.env0 Z r h) fun r s' hq=>?_)
 cases r with
 |error e=>exact hx pins σ H s e s' I hq
 |ok fl=>
  cases fl with
  |ret u=>exact I.after hq
  |next=>exact df hq
  |brk=>exact df hq
  |cont=>exact df hq
section
variable{X:Cx}{CX:CXT}{k:Nat}{ι:Type}{fm C:ι->ae}{fd:ι->cm}{ps:List Str}{sp:ι->Sp}{E:XK}{m:Str}{pos apos:Pos}{o:c8}{ta:TE}
def IZ(C:ι->ae)(sp:ι->Sp)(E:XK)(ta:TE):TE:=fun σ H Q=>ta σ H fun x H1=>∃a i,x=.ref a/\H1 a=Z8 (XO a (C i))/\sp i [.ref a] H1 Q E
theorem C4{pl:Sem Bool}(V:PE X o ta)(c:∀i,vN X.K (C i))(Y:∀i,xr X.K (C i) m (fm i))(F:∀i,pR X.prog X.w X.K X.mg X.base CX k (fm i) (fd i) ps (sp i))(U:e8 k (BD X.A))(hb:∀i,Binds X.K (fd i) ps [])(hx:mX CX X E)
  (M:gc (.Call (.Attribute o m apos) [] [] pos) X.env=(do
   let W <- gc o X.env
   vB apos.atName
   let (f,first) <- o7 [W] (qD W m pl)
   Aj pos f first (jk pos (cO [] X.env)) (oq pos (jC [] X.env))):=by rfl) :
  PE X (.Call (.Attribute o m apos) [] [] pos) (IZ C sp E ta):=by
 intro pins s σ H Q I h;refine jV (thn (V pins s σ H _ I h) fun u G ⟨x,H1,Z,O,a,i,ex,R,q⟩=>?_) M;subst ex;obtain rfl:u=Value.ref a:=O;obtain⟨ox,J⟩:=(Mu Z.hok R).inst;exact Fg Z.kIn J (c i) (Y i).at_ (beq_iff_eq.mp (Y i).fn) (zZ Z.kIn (Y i).kp (IY (vs:=[.ref a]) (F i) U (hb i) hx Z (.cons rfl .nil) q))
end
end L2
namespace My
open PySem L2
def top(i:Nat):c9:=PySem.Challenge.pw_momentloom_k16_plain_runs.main.body.getD i (.Pass {0,0,0,0})
abbrev mY:c9:=gN (top 3) 0
abbrev oC:c9:=gN (top 4) 0
abbrev pT:c9:=gN (top 5) 0
abbrev qT:c9:=gN (top 6) 0
abbrev pU:c9:=gN (top 7) 0
abbrev pV:c9:=gN (top 8) 0
abbrev lS:c9:=top 10
abbrev gD:c9:=top 11
abbrev gW:c9:=top 12
abbrev eg:c9:=top 13
abbrev oE:c9:=gN (top 15) 0
abbrev jF:c9:=gN (top 15) 1
abbrev fh:c9:=gN (top 15) 2
abbrev eW:c9:=gN (top 15) 3
abbrev gY:c9:=gN (top 15) 4
abbrev xX:c9:=top 16
abbrev oF:c9:=top 17
abbrev iE:c9:=top 18
abbrev mJ:c9:=top 19
abbrev iV:c9:=top 20
abbrev nF:c9:=top 21
abbrev nG:c9:=top 22
abbrev nI:c9:=top 23
abbrev nJ:c9:=top 24
abbrev nK:c9:=top 25
abbrev oG:c9:=top 27
abbrev rM:c9:=top 28
abbrev nL:c9:=top 30
abbrev oH:c9:=gN (top 31) 0
abbrev jN:c9:=gN (top 32) 0
abbrev jO:c9:=gN (top 32) 1
abbrev kj:c9:=top 33
abbrev pW:c9:=gN (top 35) 0
abbrev fv:c9:=top 36
abbrev mZ:c9:=gN (top 37) 0
abbrev gu:c9:=gN (top 37) 2
abbrev iF:c9:=gN (top 37) 3
abbrev gZ:c9:=top 38
abbrev rN:c9:=top 39
abbrev uh:c9:=top 40
abbrev mK:c9:=top 42
abbrev kA:c9:=top 43
abbrev mO:c9:=top 44
abbrev eV:c9:=top 45
abbrev kB:c9:=top 46
abbrev iW:c9:=top 47
abbrev hU:c9:=top 48
abbrev lT:c9:=top 49
abbrev lU:c9:=top 50
abbrev jG:c9:=top 51
abbrev jw:c9:=top 52
abbrev kC:c9:=top 53
abbrev kD:c9:=top 54
abbrev j3:c9:=top 55
abbrev ip:c9:=top 56
abbrev oJ:c9:=top 57
abbrev mP:c9:=top 58
abbrev jP:c9:=top 59
abbrev oK:c9:=top 60
abbrev j4:c9:=top 61
abbrev mQ:c9:=top 62
abbrev jc:c9:=top 63
abbrev qf:c9:=top 64
abbrev jA:c9:=top 65
abbrev BE:c9:=top 66
structure Df(K:af)(mg:Str->Option aj)(x:Str)(st:c9)(ps:List Str)(f:ae)(fd:cm):Prop where
 F:Fun K x x st f fd
 b:Binds K fd ps []
 m:mg x=Z8 (.ref f)
theorem pcl{X:Cx}{k:Nat}{x:Str}{st:c9}{ps:List Str}{f:ae}{fd:cm}{sp:Sp}{e:c8}{es:List c8}{t:TA}{p pos:Pos}(F:cg X.prog X.w X.K X.mg X.base CX0 k f fd ps sp)(U:e8 k X.A)(D:Df X.K X.mg x st ps f fd)(ha:PA X (e::es) t)(W:Gl X x:=by rfl)
  (Z:(x==("__debug__":Str))=false:=by decide) (V:cO (e::es) X.env=(false,gc e X.env)::cO es X.env:=by rfl) (Y:(jk pos (cO es X.env)).any (·.1)=false:=by rfl):PE X (.Call (.Name x p) (e::es) [] pos) (Bo sp [] E0 t):=iy F U W D.m D.F.kp D.b .nil jM ha Z V Y
structure Bl(mg:Str->Option aj):Prop where
 len:mg "len"=Z7
 abs:mg "abs"=Z7
 isi:mg "isinstance"=Z7
 list:mg "list"=Z7
 tuple:mg "tuple"=Z7
 str:mg "str"=Z7
 int:mg "int"=Z7
 bool:mg "bool"=Z7
 range:mg "range"=Z7
 max:mg "max"=Z7
 dict:mg "dict"=Z7
theorem boot_abs:eB "abs"=Z8 (.builtin "abs"):=by decide +kernel
theorem fZ:eB "isinstance"=Z8 (.builtin "isinstance"):=by decide +kernel
theorem boot_list:eB "list"=Z8 (.type "list"):=by decide +kernel
theorem boot_tuple:eB "tuple"=Z8 (.type "tuple"):=by decide +kernel
theorem boot_str:eB "str"=Z8 (.type "str"):=by decide +kernel
theorem boot_int:eB "int"=Z8 (.type "int"):=by decide +kernel
theorem boot_bool:eB "bool"=Z8 (.type "bool"):=by decide +kernel
theorem boot_max:eB "max"=Z8 (.builtin "max"):=by decide +kernel
theorem boot_dict:eB "dict"=Z8 (.type "dict"):=by decide +kernel
theorem cxA{CX:CXT}{P:aQ}{w:bU}{K:af}{mg:Str->Option aj}{base:cG}{N:List Str}{q:Str}{sc:jS}{f:ae}{Z:aj}{A:b8}{o:List Env}{s:aw}{H:Hp}{E:XK}:(sD CX P w K mg base N q sc f Z A o s H E).K=K:=rfl
theorem cxB{CX:CXT}{P:aQ}{w:bU}{K:af}{mg:Str->Option aj}{base:cG}{N:List Str}{q:Str}{sc:jS}{f:ae}{Z:aj}{A:b8}{o:List Env}{s:aw}{H:Hp}{E:XK}:(sD CX P w K mg base N q sc f Z A o s H E).nox.K=K:=rfl
def But(p:ae)(H H':Hp):Prop:=∀b o,H b=Z8 o->b≠p->H' b=Z8 o
theorem But.refl(p:ae)(H:Hp):But p H H:=fun _ _ e _=>e
theorem But.trans{p:ae}{H H1 H2:Hp}(a:But p H H1)(b:But p H1 H2):But p H H2:=fun c o e n=>b c o (a c o e n) n
theorem But.upd(p:ae)(H:Hp)(o:HO):But p H (upd H p o):=fun b u e n=>by rw[aW n];exact e
theorem But.same{p:ae}{H H1 H2:Hp}(a:But p H H1)(b:bN H1 H2):But p H H2:=fun c o e n=>b c o (a c o e n)
theorem aH{H:Hp}{p:ae}(h:H p=Z7)(o:HO):bN H (upd H p o):=fun b u q=>by rw[aW (ay q h)];exact q
theorem fK{c:Prop}[Decidable c](h:decide c=true):c:=of_decide_eq_true h
theorem gR{c:Prop}[Decidable c](h:¬decide c=true):¬c:=fun z=>h (decide_eq_true z)
theorem lt2:2<=aG:=by decide
theorem lt5:5<=aG:=by decide
section
variable{P:aQ}{w:bU}{K:af}{mg:Str->Option aj}{base:cG}{f fM fD:ae}{fd fdM fdD:cm}
def I9:Sp:=fun vs H Q _=>∃c k:Int,vs=[.int c,.int k]/\eZ c<=1048576/\∀r:Int,Q (.int r) H
theorem C5(x:Int):-(2^64)<x%2147483629/\x%2147483629<2^64:=by
 lia
theorem scM:bX ["_law_cell","_law_k","_law_number"] ["_law_cell","_law_k"] (aT kA):=eQ
theorem Fj(D:Df K mg "_law_mixed" kA ["_law_cell","_law_k"] f fd):cg P w K mg base CX0 1 f fd ["_law_cell","_law_k"] I9:=by
 refine D.F.ok scM (fun vs H Q E h=>?_) (fun Z A outer s H vs Q E Y h=>?_)
 ·obtain⟨c,k,rfl,_⟩:=h;rfl
 obtain⟨c,k,rfl,hc,q⟩:=h;refine⟨_,ag (pst 2 scM (cI mV (cI lH (cI gj (cI gj (cI gj (cI IQ (pv 0) (pv 0)) (cI lH ah (pv 0))) (cI lH ah (pv 1))) ah) ah) ah))
  (aA (bD (cI mV (cI gj (cI lH (pv 2) (pv 2)) ah) ah))),?_⟩
 exact{_,Z9,_,Z9,_,_,Z9,Z9,.of_bits hc hc,_,Z9,_,_,Z9,Z9,.inl {by decide,by decide},_,_,Z9,Z9,_,Z9,_,_,Z9,Z9,.inl {by decide,by decide},_,_,Z9,Z9,_,_,Z9,Z9,_,_,Z9,Z9,.inr {by decide,by decide},_,_,Z9,Z9,(by decide),{_,Z9,_,Z9,_,_,Z9,Z9,.inl (C5 _),_,_,Z9,Z9,_,_,Z9,Z9,(by decide),q _}}
def eC(H:Hp)(p:ae):Prop:=∃x y:Int,H p=Z8 (.lst [.int x,.int y])
theorem eC.same{H H':Hp}{p:ae}(a:eC H p)(b:bN H H'):eC H' p:=by
 obtain⟨x,y,e⟩:=a;exact{x,y,b _ _ e}
inductive BF(vs:List V)(H:Hp)(Q:VK)(_e:XK):Prop where
 |mk(p:ae)(n:Int)(_:vs=[.ref p,.int n])(_:eC H p)(_:0<n)(_:n<2^64)(_:∀(r:Int) (H':Hp),0<=r->r<n->eC H' p->But p H H'->Q (.int r) H'):BF vs H Q _e
def lV:Sp:=fun vs H Q Z=>BF vs H Q Z
theorem scD:bX ["_law_purse_here","_law_out_of","_law_drawn_here"] ["_law_purse_here","_law_out_of"] (aT eV):=eQ
theorem kl(D:Df K mg "_law_draw" eV ["_law_purse_here","_law_out_of"] f fd):cg P w K mg base CX0 1 f fd ["_law_purse_here","_law_out_of"] lV:=by
 refine D.F.ok scD (fun vs H Q E h=>?_) (fun V A outer s H vs Q E U h=>?_)
 ·obtain⟨p,n,rfl,_⟩:=h;rfl
 obtain⟨p,n,rfl,⟨x,y,hp⟩,Y,W,q⟩:=h;refine⟨_,ag (cC (aZ cZ (aP cy (pv 0) ah) ah) (aA (pf (aP cy (pv 0) ah) (qO (pv 0) ah lN))) bL)
  (ag (pst 2 scD (cI mV (aP cy (pv 0) ah) (pv 1)))
  (ag (pf (cI uN (aP cy (pv 0) ah) (pv 1)) (qO (pv 0) ah lN))
  (aA (bD (pv 2))))),?_⟩
 refine{_,Z9,p,_,_,_,Z9,Z9,SqL.of hp,Z9,Z9,_,Z9,gr (fun c=>?_) (fun c=>?_)}
 ·refine{_,Z9,p,_,_,_,Z9,Z9,SqL.of hp,Z9,_,Z9,p,_,_,_,Z9,Z9,hp,Z9,?_};have Z:upd H p (.lst [.int y,.int y]) p=Z8 (.lst [.int y,.int y]):=ak;exact{_,Z9,p,_,_,_,Z9,Z9,SqL.of Z,Z9,_,Z9,_,_,Z9,Z9,Y,{_,Z9,p,_,_,_,Z9,Z9,SqL.of Z,Z9,_,Z9,_,_,Z9,Z9,⟨Y,W⟩,_,Z9,p,_,_,_,Z9,Z9,Z,Z9,{_,Z9,q _ _ (jI _ (by lia)) (iL _ Y) {_,_,ak} ((But.upd p H _).trans (But.upd p _ _))}}}
 ·refine{_,Z9,p,_,_,_,Z9,Z9,SqL.of hp,Z9,_,Z9,_,_,Z9,Z9,Y,?_};exact{_,Z9,p,_,_,_,Z9,Z9,SqL.of hp,Z9,_,Z9,_,_,Z9,Z9,⟨Y,W⟩,_,Z9,p,_,_,_,Z9,Z9,hp,Z9,{_,Z9,q _ _ (jI _ (by lia)) (iL _ Y) {_,_,ak} (But.upd p H _)}}
inductive zl(K:af)(vs:List V)(H:Hp)(Q:VK)(_e:XK):Prop where
 |mk(a:ae)(ns:List Int)(_:vs=[.ref a])(_:SqL K H a (ns.map V.int))(_:ns.length<=63)(_:(∀x∈ns,eZ x<=1048576))(_:∀(p:ae) (H':Hp),H p=Z7->eC H' p->bN H H'->Q (.ref p) H'):zl K vs H Q _e
def BG(K:af):Sp:=fun vs H Q Z=>zl K vs H Q Z
theorem scP:bX ["_law_script","_law_cells","_law_number","_law_k"] ["_law_script"] (aT mO):=eQ
theorem BH{xs:List V}{lo hi:Option Int}{v:V}(h:v∈qR xs lo hi):v∈xs:=List.mem_of_mem_drop (BI h)
theorem Mz{xs:List V}(h:xs≠[])(z:Int):∃v,atI xs (z%(xs.length:Int))=Z8 v/\v∈xs:=by
 have W:=rj.mpr h;have U:=jI z (show (xs.length:Int)≠0 by lia);have h1:=iL z (show (0:Int)<(xs.length:Int) by lia);obtain⟨j,Y⟩:∃j:Nat,z%(xs.length:Int)=(j:Int):={(z%(xs.length:Int)).toNat,by lia};rw[Y]at h1 |-;have Z:j<xs.length:=by lia
 exact{xs[j],gy (aI Z),kJ Z}
theorem Fk(D:Df K mg "_law_purse" mO ["_law_script"] f fd)(DM:Df K mg "_law_mixed" kA ["_law_cell","_law_k"] fM fdM)(B:Bl mg):cg P w K mg base CX0 2 f fd ["_law_script"] (BG K):=by
 refine D.F.ok scP (fun vs H Q E h=>?_) (fun br A outer s H vs Q E hr h=>?_)
 ·obtain⟨a,ns,rfl,_⟩:=h;rfl
 obtain⟨a,ns,rfl,hS,M,R,q⟩:=h;refine⟨_,ag (pst 1 scP (cI xA (pF t7 (pv 0) tX (lA ah)) (dO (aq ah ao))))
  (ag (pst 2 scP ah)
  (ag (fq bV rfl (jE rfl B.range (aq ah ao)) (pgn 3 scP)
   (aA (pst 2 scP (cI gj (cI lH (pv 2) ah) (pcl (Fj DM) hr DM (aq (aP cy (pv 1) (cI mV (pv 3) (cq gX (by rfl) B.len bO (aq (pv 1) ao)))) (aq (pv 3) ao)))))))
  (ag (cC (aZ cZ (cI mV (aP cy (pv 1) ah) ah) ah)
   (aA (bD (dO (aq (cq (Cz rfl) (by rfl) B.max boot_max (aq (cI uN (aP cy (pv 1) ah) ah) (aq (cI jm (sX pk ah) (cI uN (aP cy (pv 1) ah) ah)) ao))) (aq (pv 2) ao))))) bL)
  (aA (bD (dO (aq (pv 2) (aq (pv 2) ao)))))))),?_⟩
 refine{_,Z9,_,Z9,a,_,Z9,hS,fun l hl=>{(by decide),fun m hm=>?_}};have cl:(qR (ns.map V.int) Z7 (Z8 63)).length<=63:=cR (tf _ _ _) (by rw[ai];exact M);have G:(qR (ns.map V.int) Z7 (Z8 63)).length+[V.int 0].length<=aG:=by
  have z:64<=aG:=by decide
  rw[Ay]
  lia
 refine{l,m,_,_,Z9,Z9,(by rw[aW (ay (ak:upd H l (.lst (qR (ns.map V.int) Z7 (Z8 63))) l=_) hm)];exact ak),ak,G,fun c hc=>?_};generalize hcs:qR (ns.map V.int) Z7 (Z8 63)++[V.int 0]=U at hc |-;have sc:bN H (upd (upd (upd H l (.lst (qR (ns.map V.int) Z7 (Z8 63)))) m (.lst [.int 0])) c (.lst U)):=(aH hl _).trans ((aH hm _).trans (aH hc _));generalize hH:upd (upd (upd H l (.lst (qR (ns.map V.int) Z7 (Z8 63)))) m (.lst [.int 0])) c (.lst U)=H1 at sc |-;have Y:H1 c=Z8 (.lst U):=by rw[<- hH];exact ak
 have Z:U≠[]:=by rw[<- hcs];simp
 have W:∀v∈U,∃z:Int,v=.int z/\eZ z<=1048576:=fun v hv=>by
  rw[<- hcs]at hv
  rcases bY.mp hv with z|z
  ·obtain⟨n,hn,rfl⟩:=cD.mp (BH z);exact{n,Z9,R n hn}
  ·rw[aD.mp z];exact{0,Z9,by decide}
 refine{150,Z9,by decide,by decide,j0 (fun i σ H2=>∃(z:Int) (v:Option V),σ=[Z8 (.ref a),Z8 (.ref c),Z8 (.int z),v]/\H2=H1) {1,Z7,Z9,Z9} ?_ ?_}
 ·rintro i σ H2 hi ⟨z,v,rfl,rfl⟩;refine Z0 fun Gz gz=>?_;obtain⟨u,hu,g⟩:=Mz Z (0+(i:Int));obtain⟨y,rfl,hy⟩:=W u g;refine gz ?_;have I:(0:Int)<(U.length:Int):=by
   have:=rj.mpr Z
   lia
  exact{_,Z9,_,_,Z9,Z9,.inr {by decide,by decide},_,Z9,_,Z9,_,Z9,c,_,Z9,.inl (SqL.of Y),_,_,Z9,Z9,I,c,_,_,_,Z9,Z9,SqL.of Y,hu,_,Z9,y,_,Z9,hy,fun r=>{_,_,Z9,Z9,_,_,Z9,Z9}}
 ·rintro σ H2 ⟨z,v,rfl,rfl⟩;obtain⟨J,O⟩:∃J,U[0]?=Z8 J:=by
   cases U with
   |nil=>exact absurd rfl Z
   |cons J r=>exact⟨J,Z9⟩
  obtain⟨y,rfl,hy⟩:=W J (bJ O);have t:=gy O;refine{_,Z9,c,_,_,_,Z9,Z9,SqL.of Y,t,_,_,Z9,Z9,(by decide),Z9,_,Z9,?_};have two:KG y 2:={by decide,by decide};refine gr (fun _=>?_) (fun _=>?_)
  ·refine{_,Z9,c,_,_,_,Z9,Z9,SqL.of Y,t,_,_,Z9,Z9,two,_,Z9,_,Z9,c,_,_,_,Z9,Z9,SqL.of Y,t,_,_,Z9,Z9,two,_,_,Z9,Z9,_,_,Z9,_,Z9,lt2,fun p hp=>?_};exact q p _ (sc.free hp) {_,_,ak} (sc.trans (aH hp _))
  ·refine{_,Z9,_,Z9,lt2,fun p hp=>?_};exact q p _ (sc.free hp) {_,_,ak} (sc.trans (aH hp _))
end
def C6:V->Prop
 |.int _=>True
 |.str _=>True
 |_=>False
def Tree(H:Hp):Nat->V->Prop
 |0,v=>C6 v
 |n+1,v=>C6 v\/∃p xs,v=.ref p/\(H p=Z8 (.lst xs)\/H p=Z8 (.tup xs))/\xs.length<1000/\∀x∈xs,Tree H n x
def Alike(H H':Hp):Nat->V->V->Prop
 |0,v,Y=>Y=v
 |n+1,v,Y=>(C6 v/\Y=v)\/(∃p Z xs ys,v=.ref p/\Y=.ref Z/\H p=Z8 (.lst xs)/\H' Z=Z8 (.lst ys)/\aO (Alike H H' n) xs ys) \/
   ∃p Z xs ys,v=.ref p/\Y=.ref Z/\H p=Z8 (.tup xs)/\H' Z=Z8 (.tup ys)/\aO (Alike H H' n) xs ys
theorem Alike.mono{H H1 H2:Hp}(s:bN H1 H2):∀{n:Nat} {v U:V},Alike H H1 n v U->Alike H H2 n v U
 |0,_,_,h=>h
 |n+1,v,U,h=>by
  rcases h with h|⟨p,Y,xs,ys,W,Z,h1,h2,r⟩|⟨p,Y,xs,ys,W,Z,h1,h2,r⟩
  ·exact .inl h
  ·exact .inr (.inl {p,Y,xs,ys,W,Z,h1,s _ _ h2,L2.Paired.imp' (fun _ _ z=>Alike.mono s z) r})
  ·exact .inr (.inr {p,Y,xs,ys,W,Z,h1,s _ _ h2,L2.Paired.imp' (fun _ _ z=>Alike.mono s z) r})
theorem Tree.same{H H1:Hp}(s:bN H H1):∀{n:Nat} {v:V},Tree H n v->Tree H1 n v
 |0,_,h=>h
 |n+1,v,h=>by
  rcases h with h|⟨p,xs,e,h1,h2,Z⟩
  ·exact .inl h
  ·exact .inr {p,xs,e,h1.imp (s _ _) (s _ _),h2,fun x hx=>Tree.same s (Z x hx)}
theorem Alike.from{H H0 H1:Hp}(s:bN H H0):∀{n:Nat} {v O:V},Tree H n v->Alike H0 H1 n v O->Alike H H1 n v O
 |0,_,_,_,h=>h
 |n+1,v,O,t,h=>by
  rcases t with t|⟨q,zs,e,t1,M,U⟩
  ·rcases h with h|⟨p,Y,xs,ys,Z,W,h1,h2,r⟩|⟨p,Y,xs,ys,Z,W,h1,h2,r⟩
   ·exact .inl h
   ·rw[Z]at t;exact t.elim
   ·rw[Z]at t;exact t.elim
  ·rcases h with h|⟨p,Y,xs,ys,Z,W,h1,h2,r⟩|⟨p,Y,xs,ys,Z,W,h1,h2,r⟩
   ·exact .inl h
   ·rw[e]at Z
    cases Z
    rcases t1 with t1|t1
    ·have z:=s _ _ t1;rw[h1]at z
     cases z;refine .inr (.inl {q,Y,zs,ys,e,W,t1,h2,?_});clear h1 t1 M h2
     induction r with
     |nil=>exact .nil
     |cons a b R=>exact .cons (Alike.from s (U _ ax) a) (R fun x hx=>U x (aa _ hx))
    ·have z:=s _ _ t1;rw[h1]at z
     cases z
   ·rw[e]at Z
    cases Z
    rcases t1 with t1|t1
    ·have z:=s _ _ t1;rw[h1]at z
     cases z
    ·have z:=s _ _ t1;rw[h1]at z
     cases z;refine .inr (.inr {q,Y,zs,ys,e,W,t1,h2,?_});clear h1 t1 M h2
     induction r with
     |nil=>exact .nil
     |cons a b R=>exact .cons (Alike.from s (U _ ax) a) (R fun x hx=>U x (aa _ hx))
theorem MA{K:af}:cE K (.type "int") (.type "int")=Z8 true:=by rfl
theorem MG{K:af}:cE K (.type "int") (.type "bool")=Z8 false:=by kernel_rfl
theorem kit_is{K:af}:cE K (.type "int") (.type "str")=Z8 false:=by kernel_rfl
theorem jn{K:af}:cE K (.type "str") (.type "str")=Z8 true:=by rfl
theorem Fl{K:af}:cE K (.type "int") (.type "list")=Z8 false:=by kernel_rfl
theorem Fn{K:af}:cE K (.type "str") (.type "list")=Z8 false:=by kernel_rfl
theorem Fo{K:af}:cE K (.type "int") (.type "tuple")=Z8 false:=by kernel_rfl
theorem Fp{K:af}:cE K (.type "str") (.type "tuple")=Z8 false:=by kernel_rfl
theorem MH{K:af}:cE K (.type "list") (.type "list")=Z8 true:=by rfl
theorem MI{K:af}:cE K (.type "tuple") (.type "list")=Z8 false:=by kernel_rfl
theorem MJ{K:af}:cE K (.type "tuple") (.type "tuple")=Z8 true:=by rfl
def Nw(H G:Hp):Hp:=fun a=>if H a=Z7 then G a else Z7
theorem qJ{H G:Hp}{a:ae}(n:H a=Z7):Nw H G a=G a:=if_pos n
theorem KO{H G:Hp}:bN (Nw H G) G:=fun a o e=>by
 unfold Nw at e
 by_cases c:H a=Z7
 ·rw[if_pos c]at e;exact e
 ·simp_all
theorem oM{H G G':Hp}(s:bN G G'):bN (Nw H G) (Nw H G'):=fun a o e=>by
 by_cases c:H a=Z7
 ·rw[qJ c]at e |-;exact s _ _ e
 ·unfold Nw at e;rw[if_neg c]at e
  cases e
theorem uj{H0 H G:Hp}(d:∀a,H a=Z7->H0 a=Z7):bN (Nw H G) (Nw H0 G):=fun a o e=>by
 by_cases c:H a=Z7
 ·rw[qJ c]at e;rw[qJ (d a c)];exact e
 ·unfold Nw at e;rw[if_neg c]at e
  cases e
theorem rO{H G:Hp}(s:bN H G):∀a,G a=Z7->H a=Z7:=fun a n=>by
 cases z:H a with
 |none=>rfl
 |some o=>
  rw[s _ _ z]at n
  cases n
section
variable{P:aQ}{w:bU}{K:af}{mg:Str->Option aj}{base:cG}{f fC fI CM CS:ae}{fd fdC fdI:cm}
def rP(n:Nat):Sp:=fun vs H Q _=>∃v,vs=[v]/\Tree H n v/\∀(Z:V) (H':Hp),bN H H'->Alike H (Nw H H') n v Z->Q Z H'
theorem scC:bX ["thing"] ["thing"] (aT nL):=eQ
theorem BJ:(["part","thing"]:List Str).Nodup:=by decide +kernel
theorem wO{Z Y:Type}{R:Z->Y->Prop}{xs:List Z}{ys:List Y}{i:Nat}{x:Z}{y:Y}(r:aO R (xs.take i) ys)(hx:xs[i]?=Z8 x)(h:R x y):aO R (xs.take (i+1)) (ys++[y]):=by
 have e:xs.take (i+1)=xs.take i++[x]:=by rw[dh,hx];rfl
 rw[e];exact cS r h
theorem zm{n:Nat}(D:Df K mg "copied" nL ["thing"] f fd)(B:Bl mg)(G:cg P w K mg base CX0 (n+1) f fd ["thing"] (rP n)):cg P w K mg base CX0 (n+2) f fd ["thing"] (rP (n+1)):=by
 refine D.F.ok scC (fun vs H Q E h=>?_) (fun I A outer s H vs Q E M h=>?_)
 ·obtain⟨v,rfl,_⟩:=h;rfl
 obtain⟨v,rfl,Y,q⟩:=h;refine⟨_,ag (cC (hJ (cq d9 (by rfl) B.isi fZ (aq (pv 0) (aq (iu (v:=.ty "list") (by rfl) B.list boot_list rfl) ao))))
   (aA (bD (oA ["part"] (iU.closed (by decide +kernel) (by decide +kernel) rfl (by decide +kernel) (by intro n R;rcases aD.mp R with rfl;decide +kernel)) rfl (fc (pv 0)) (fun _ _ _ _=>iw (i:=0) BJ rfl (Or.inl rfl)) (fun _ _ _ _=>mI)
    (fun _ _ _ _=>pcl G M D (aq (pv 0) ao))))) bL)
  (ag (cC (hJ (cq d9 (by rfl) B.isi fZ (aq (pv 0) (aq (iu (v:=.ty "tuple") (by rfl) B.tuple boot_tuple rfl) ao))))
   (aA (bD (gB vJ (by rfl) B.tuple boot_tuple (aq (oA ["part"] (iU.closed (by decide +kernel) (by decide +kernel) rfl (by decide +kernel) (by intro n R;rcases aD.mp R with rfl;decide +kernel)) rfl (L5 (pv 0)) (fun _ _ _ _=>iw (i:=0) BJ rfl (Or.inl rfl)) (fun _ _ _ _=>mI)
    (fun _ _ _ _=>pcl G M D (aq (pv 0) ao))) ao)))) bL)
  (aA (bD (pv 0)))),?_⟩
 have big:1000<aG:=by decide
 rcases Y with Y|⟨p,xs,rfl,hp,hl,hx⟩
 ·cases v with
  |int i=>
   exact{_,Z9,_,"list",_,false,Z9,.int i,Fl,_,Z9,dP ({_,Z9,_,"tuple",_,false,Z9,.int i,Fo,_,Z9,dP ({_,Z9,q _ _ (bN.refl H) (.inl ⟨trivial,Z9⟩)})})}
  |str x=>
   exact{_,Z9,_,"list",_,false,Z9,.str x,Fn,_,Z9,dP ({_,Z9,_,"tuple",_,false,Z9,.str x,Fp,_,Z9,dP ({_,Z9,q _ _ (bN.refl H) (.inl ⟨trivial,Z9⟩)})})}
  |non=>exact Y.elim
  |bl b=>exact Y.elim
  |byt b=>exact Y.elim
  |flt b=>exact Y.elim
  |ref a=>exact Y.elim
  |ty a=>exact Y.elim
 ·rcases hp with hp|hp
  ·refine{_,Z9,_,"list",_,true,Z9,.lst hp,MH,_,Z9,eM ?_};refine{_,Z9,p,Z9,{_,SqL.of hp},qe (xs:=xs) (fun i ys H1=>i<=xs.length/\ys.length=i/\bN H H1/\aO (Alike H (Nw H H1) n) (xs.take i) ys) {bE _,Z9,bN.refl H,.nil} ?_ ?_ ?_}
   ·rintro i ys H1 hi ⟨_,h1,h2,_⟩;exact{SqL.of (h2 _ _ hp),by lia}
   ·rintro i x ys H1 hi ⟨g,h1,h2,W⟩;have U:=bJ hi;have lt:=(aC.mp hi).1;refine{Z9,?_};unfold xM;exact eM ({_,Z9,x,Z9,Tree.same h2 (hx x U),fun v' H2 s2 O=>{lt,by rw[aB,h1];rfl,h2.trans s2,wO (L2.Paired.imp' (fun _ _ z=>Alike.mono (oM s2) z) W) hi (Alike.mono (uj (rO h2)) (Alike.from h2 (hx x U) O))}})
   ·rintro ys H1 ⟨_,h1,h2,W⟩ l Z;rw[cF]at W;refine q _ _ (h2.trans (aH Z _)) (.inr (.inl {p,l,xs,ys,Z9,Z9,hp,(by rw[qJ (rO h2 _ Z)];exact ak),L2.Paired.imp' (fun _ _ z=>Alike.mono (oM (aH Z _)) z) W}))
  ·refine{_,Z9,_,"list",_,false,Z9,.tup hp,MI,_,Z9,dP ?_};refine{_,Z9,_,"tuple",_,true,Z9,.tup hp,MJ,_,Z9,eM ({_,Z9,p,Z9,{_,SqT.of hp},E4 (xs:=xs) (Q:=fun v H1=>∃z ys,[v]=[V.ref z]/\((SqL K H1 z ys/\∀l,H1 l=Z7->Q (.ref l) (upd H1 l (.tup ys)))\/(SqT K H1 z ys/\Q (.ref z) H1))) (fun i ys H1=>i<=xs.length/\ys.length=i/\bN H H1/\aO (Alike H (Nw H H1) n) (xs.take i) ys) {bE _,Z9,bN.refl H,.nil} ?_ ?_ ?_})}
   ·rintro i ys H1 hi ⟨_,h1,h2,_⟩;exact{SqT.of (h2 _ _ hp),by lia}
   ·rintro i x ys H1 hi ⟨g,h1,h2,W⟩;have U:=bJ hi;have lt:=(aC.mp hi).1;refine{Z9,?_};unfold xM;exact eM ({_,Z9,x,Z9,Tree.same h2 (hx x U),fun v' H2 s2 O=>{lt,by rw[aB,h1];rfl,h2.trans s2,wO (L2.Paired.imp' (fun _ _ z=>Alike.mono (oM s2) z) W) hi (Alike.mono (uj (rO h2)) (Alike.from h2 (hx x U) O))}})
   ·rintro ys H1 ⟨_,h1,h2,W⟩ l Z;rw[cF]at W;refine{l,ys,Z9,.inl {SqL.of ak,fun t Y=>?_}};have J:bN H1 (upd (upd H1 l (.lst ys)) t (.tup ys)):=(aH Z _).trans (aH Y _);exact q _ _ (h2.trans J) (.inr (.inr {p,t,xs,ys,Z9,Z9,hp,(by rw[qJ (rO (h2.trans (aH Z (.lst ys))) _ Y)];exact ak),L2.Paired.imp' (fun _ _ z=>Alike.mono (oM J) z) W}))
theorem zp(D:Df K mg "copied" nL ["thing"] f fd)(B:Bl mg):cg P w K mg base CX0 1 f fd ["thing"] (rP 0):=by
 refine D.F.ok scC (fun vs H Q E h=>?_) (fun Y A outer s H vs Q E W h=>?_)
 ·obtain⟨v,rfl,_⟩:=h;rfl
 obtain⟨v,rfl,Z,q⟩:=h;refine⟨_,ag (cC (hJ (cq d9 (by rfl) B.isi fZ (aq (pv 0) (aq (iu (v:=.ty "list") (by rfl) B.list boot_list rfl) ao)))) vX bL)
  (ag (cC (hJ (cq d9 (by rfl) B.isi fZ (aq (pv 0) (aq (iu (v:=.ty "tuple") (by rfl) B.tuple boot_tuple rfl) ao)))) vX bL)
  (aA (bD (pv 0)))),?_⟩
 cases v with
 |int i=>
  exact{_,Z9,_,"list",_,false,Z9,.int i,Fl,_,Z9,dP ({_,Z9,_,"tuple",_,false,Z9,.int i,Fo,_,Z9,dP ({_,Z9,q _ _ (bN.refl H) rfl})})}
 |str x=>
  exact{_,Z9,_,"list",_,false,Z9,.str x,Fn,_,Z9,dP ({_,Z9,_,"tuple",_,false,Z9,.str x,Fp,_,Z9,dP ({_,Z9,q _ _ (bN.refl H) rfl})})}
 |non=>exact Z.elim
 |bl b=>exact Z.elim
 |byt b=>exact Z.elim
 |flt b=>exact Z.elim
 |ref a=>exact Z.elim
 |ty a=>exact Z.elim
theorem wQ(D:Df K mg "copied" nL ["thing"] f fd)(B:Bl mg):∀n:Nat,cg P w K mg base CX0 (n+1) f fd ["thing"] (rP n)
 |0=>zp D B
 |n+1=>zm D B (wQ D B n)
structure MdT(K:af)(mg:Str->Option aj)(CM CS:ae):Prop where
 clM:Cls K CM
 clS:Cls K CS
 nM:ff K CM "machines"
 nB:ff K CS "boxes"
 nQ:ff K CS "queues"
 nD:ff K CS "drawn"
 nS:ff K CS "sent"
 mM:mg "Model"=Z8 (.ref CM)
 mS:mg "State"=Z8 (.ref CS)
inductive KP(CM:ae)(n:Nat)(vs:List V)(H:Hp)(Q:VK)(_e:XK):Prop where
 |mk(m dx:ae)(v:V)(_:vs=[.ref m,v])(_:H m=Z8 (.ins CM dx []))(_:Tree H n v)(_:∀(v':V) (H':Hp),bN H H'->Alike H (Nw H H') n v v'->Q .non (upd H' m (.ins CM dx (dS "machines" v' [])))):KP CM n vs H Q _e
def spMI(CM:ae)(n:Nat):Sp:=fun vs H Q Z=>KP CM n vs H Q Z
theorem scMI:bX ["self","machines"] ["self","machines"] (aT oH):=eQ
theorem ok_MI{n:Nat}(F:Fun K "__init__" "Model.__init__" oH f fd)(Y:Df K mg "copied" nL ["thing"] fC fdC)(B:Bl mg)(T:MdT K mg CM CS):cg P w K mg base CX0 (n+2) f fd ["self","machines"] (spMI CM n):=by
 refine F.ok scMI (fun vs H Q E h=>?_) (fun U A outer s H vs Q E V h=>?_)
 ·obtain⟨m,dx,v,rfl,_⟩:=h;rfl
 obtain⟨m,dx,v,rfl,W,O,q⟩:=h;exact{_,aA (gm (pv 0) (pcl (wQ Y B n) V Y (aq (pv 1) ao)) rfl),{_,Z9,v,Z9,O,fun M H' Z R=>{_,Z9,m,CM,dx,[],Z9,Z _ _ W,T.clM,T.nM,(by decide),q M H' Z R}}}
def qE(b q d e:V):List (Str×V):=dS "sent" e (dS "drawn" d (dS "queues" q (dS "boxes" b [])))
inductive KQ(CS:ae)(vs:List V)(H:Hp)(Q:VK)(_e:XK):Prop where
 |mk(m dx:ae)(b q d e:V)(_:vs=[.ref m,b,q,d,e])(_:H m=Z8 (.ins CS dx []))(_:∀H':Hp,H' m=Z8 (.ins CS dx (qE b q d e))->But m H H'->Q .non H'):KQ CS vs H Q _e
def spSI(CS:ae):Sp:=fun vs H Q Z=>KQ CS vs H Q Z
theorem scSI:bX ["self","boxes","queues","drawn","sent"] ["self","boxes","queues","drawn","sent"] (aT jN):=eQ
theorem ik(f:Str)(v:V)(fs:List (Str×V)):(dS f v fs).length<=fs.length+1:=by
 induction fs with
 |nil=>exact aF _
 |cons p r Z=>
  unfold dS
  split
  ·simp_all
  ·simp_all
theorem KS(F:Fun K "__init__" "State.__init__" jN f fd)(T:MdT K mg CM CS):cg P w K mg base CX0 1 f fd ["self","boxes","queues","drawn","sent"] (spSI CS):=by
 refine F.ok scSI (fun vs H Q E h=>?_) (fun Y A outer s H vs Q E U h=>?_)
 ·obtain⟨m,dx,b,q,d,e,rfl,_⟩:=h;rfl
 obtain⟨m,dx,b,q,d,e,rfl,Z,k⟩:=h;refine{_,ag (gm (pv 0) (pv 1) rfl) (ag (gm (pv 0) (pv 2) rfl) (ag (gm (pv 0) (pv 3) rfl) (aA (gm (pv 0) (pv 4) rfl)))),?_};have W:=ik "boxes" b [];have R:=ik "queues" q (dS "boxes" b []);have V:=ik "drawn" d (dS "queues" q (dS "boxes" b []));simp at W;exact{_,Z9,_,Z9,m,CS,dx,[],Z9,Z,T.clS,T.nB,(by decide),_,Z9,_,Z9,m,CS,dx,_,Z9,ak,T.clS,T.nQ,(by lia),_,Z9,_,Z9,m,CS,dx,_,Z9,ak,T.clS,T.nD,(by lia),_,Z9,_,Z9,m,CS,dx,_,Z9,ak,T.clS,T.nS,(by lia),k _ ak (((But.upd m H _).trans (But.upd m _ _)).trans ((But.upd m _ _).trans (But.upd m _ _)))}
inductive Fq(CM:ae)(vs:List V)(H:Hp)(Q:VK)(_e:XK):Prop where
 |mk(m dx l t b q:ae)(fs:List (Str×V))(n0 x3 x4:V)(_:vs=[.ref m,.int 0])(_:H m=Z8 (.ins CM dx fs))(_:fs.lookup ("machines":Str)=Z8 (V.ref l))(_:H l=Z8 (.lst [.ref t]))(_:H t=Z8 (.tup [n0,.ref b,.ref q,x3,x4]))(_:H b=Z8 (.lst []))(_:H q=Z8 (.lst []))(_:∀(st:ae) (H':Hp),bN H H'->Q (.ref st) H'):Fq CM vs H Q _e
theorem Ja:bX ["model","at","machine","queues","name"] ["model","at"] (aT kj):=eQ
end
section
variable{κ:Type}[DecidableEq κ]
abbrev qK(ps:List (κ×V))(m:List (κ×V)):List (κ×V):=ps.foldl (fun m p=>jU m p.1 p.2) m
end
theorem qg{H H':Hp}{n:Nat}{a:ae}{xs:List V}{y:V}(ha:H a=Z8 (.lst xs))(z:Alike H H' (n+1) (.ref a) y):∃(Y:ae) (ys:List V),y=.ref Y/\H' Y=Z8 (.lst ys)/\aO (Alike H H' n) xs ys:=by
 rcases z with⟨z,_⟩|⟨p,W,Z,ys,R,U,h1,h2,r⟩|⟨p,W,Z,ys,R,U,h1,h2,r⟩
 ·exact z.elim
 ·simp_all
 ·simp_all
theorem sN{H H':Hp}{n:Nat}{a:ae}{xs:List V}{y:V}(ha:H a=Z8 (.tup xs))(z:Alike H H' (n+1) (.ref a) y):∃(Y:ae) (ys:List V),y=.ref Y/\H' Y=Z8 (.tup ys)/\aO (Alike H H' n) xs ys:=by
 rcases z with⟨z,_⟩|⟨p,W,Z,ys,R,U,h1,h2,r⟩|⟨p,W,Z,ys,R,U,h1,h2,r⟩
 ·exact z.elim
 ·grind
 ·simp_all
theorem fi{H H':Hp}{n:Nat}{v y:V}(Z:C6 v)(z:Alike H H' n v y):y=v:=by
 cases n with
 |zero=>exact z
 |succ n=>
  rcases z with⟨_,z⟩|⟨p,U,Y,ys,W,R,h1,h2,r⟩|⟨p,U,Y,ys,W,R,h1,h2,r⟩
  ·exact z
  ·rw[W]at Z;exact Z.elim
  ·rw[W]at Z;exact Z.elim
theorem jd{H H':Hp}{n:Nat}{xs ys:List V}(r:aO (Alike H H' n) xs ys):(∀x∈xs,C6 x)->ys=xs:=by
 induction r with
 |nil=>exact fun _=>rfl
 |cons a b Z=>
  intro h;rw[fi (h _ ax) a,Z fun x hx=>h x (aa _ hx)]
def eX(H:Hp)(ps:List (Str×Int))(vs:List V):Prop:=xQ H (ps.map fun p=>(Sum.inr p.1,V.int p.2)) vs
theorem eX.same{H H':Hp}(s:bN H H'):∀{ps:List (Str×Int)} {vs:List V},eX H ps vs->eX H' ps vs
 | [],_,h=>by
  cases h;exact .nil
 |p::ps,_,h=>by
  cases h with
  |cons a b=>
   obtain⟨t,e,h⟩:=a;exact .cons {t,e,s _ _ h} (eX.same s b)
theorem eX.alike{H H':Hp}{n:Nat}:∀{ps:List (Str×Int)} {vs ys:List V},eX H ps vs->aO (Alike H H' (n+1)) vs ys->eX H' ps ys
 | [],_,_,h,r=>by
  cases h
  cases r;exact .nil
 |p::ps,_,_,h,r=>by
  cases h with
  |cons a b=>
   cases r with
   |cons Z Y=>
    obtain⟨t,rfl,h⟩:=a;obtain⟨t',ys,rfl,h',W⟩:=sN h Z;have e:=jd W (fun x hx=>by
     simp at hx
     rcases hx with rfl|rfl
     ·exact trivial
     ·exact trivial)
    rw[e]at h';exact .cons ⟨t',Z9,h'⟩ (eX.alike b Y)
theorem eX.length{H:Hp}{ps:List (Str×Int)}{vs:List V}(h:eX H ps vs):ps.length=vs.length:=by
 have z:=aM h;rw[ai]at z;exact z
theorem eX.tree{H:Hp}{n:Nat}:∀{ps:List (Str×Int)} {vs:List V},eX H ps vs->∀x∈vs,Tree H (n+1) x
 | [],_,h,x,hx=>by
  cases h
  cases hx
 |p::ps,_,h,x,hx=>by
  cases h with
  |cons a b=>
   rcases aE.mp hx with rfl|hx
   ·obtain⟨t,rfl,h⟩:=a;refine .inr {t,_,Z9,.inr h,(by show 2<1000;decide),fun y hy=>?_};simp at hy
    rcases hy with rfl|rfl
    ·cases n<;>first|exact trivial|exact .inl trivial
    ·cases n<;>first|exact trivial|exact .inl trivial
   ·exact eX.tree b x hx
theorem eX.snoc{H:Hp}{ps:List (Str×Int)}{vs:List V}(h:eX H ps vs){t:ae}{nm:Str}{z:Int}(Z:H t=Z8 (.tup [.str nm,.int z])):eX H (ps++[(nm,z)]) (vs++[.ref t]):=by
 unfold eX;rw[aU];exact cS h ⟨t,Z9,Z⟩
section
variable{P:aQ}{w:bU}{K:af}{mg:Str->Option aj}{base:cG}{f fI CM CS:ae}{fd fdI:cm}
abbrev MK(ps:List (Str×Int)):List (Key×V):=qK (ps.map fun p=>((Sum.inr p.1:Key),V.int p.2)) []
abbrev quT(qs:List Str)(Z:List ae):List (Key×V):=qK ((qs.zip Z).map fun p=>((Sum.inr p.1:Key),V.ref p.2)) []
structure New(H H':Hp)(CS st:ae)(ps:List (Str×Int))(qs:List Str)(dx bd qd:ae)(ls:List ae):Prop where
 hst:H' st=Z8 (.ins CS dx (qE (.ref bd) (.ref qd) (.int 0) (.int 0)))
 hbd:H' bd=Z8 (.dK (MK ps))
 hqd:H' qd=Z8 (.dK (quT qs ls))
 len:ls.length=qs.length
 nd:ls.Nodup
 li:∀l∈ls,H l=Z7/\H' l=Z8 (.lst [])
 ost:H st=Z7
 obd:H bd=Z7
 oqd:H qd=Z7
 ne:qd≠bd
 same:bN H H'
inductive wR(CM CS:ae)(vs:List V)(H:Hp)(Q:VK)(_e:XK):Prop where
 |mk(m dx l t b q:ae)(fs:List (Str×V))(n0 x3 x4:V)(i:Nat)(ms vb:List V)(ps:List (Str×Int))(qs:List Str)(_:vs=[.ref m,.int (i:Int)])(_:H m=Z8 (.ins CM dx fs))(_:fs.lookup ("machines":Str)=Z8 (V.ref l))(_:H l=Z8 (.lst ms))(_:ms[i]?=Z8 (.ref t))(_:H t=Z8 (.tup [n0,.ref b,.ref q,x3,x4]))(_:H b=Z8 (.lst vb))(_:eX H ps vb)(_:ps.length<=100)(_:H q=Z8 (.lst (qs.map V.str)))(_:qs.length<=100)(_:∀(st dx bd qd:ae) (ls:List ae) (H':Hp),New H H' CS st ps qs dx bd qd ls->Q (.ref st) H'):wR CM CS vs H Q _e
def zq(CM CS:ae):Sp:=fun vs H Q Z=>wR CM CS vs H Q Z
theorem Fs{Z Y:Type}{xs:List Z}{ys:List Y}{i:Nat}{x:Z}{y:Y}(W:ys.length=i)(hx:xs[i]?=Z8 x):(xs.take (i+1)).zip (ys++[y])=(xs.take i).zip ys++[(x,y)]:=by
 have lt:=(aC.mp hx).1;have e:xs.take (i+1)=xs.take i++[x]:=by rw[dh,hx];rfl
 rw[e,List.zip_append (by rw[cL,W];lia)];rfl
theorem C7(D:Df K mg "first_state" kj ["model","at"] f fd)(MS:Mk K CS fI)(FI:Fun K "__init__" "State.__init__" jN fI fdI)(bI:Binds K fdI ["self","boxes","queues","drawn","sent"] [])(B:Bl mg)(T:MdT K mg CM CS) :
  cg P w K mg base CX0 3 f fd ["model","at"] (zq CM CS):=by
 refine D.F.ok Ja (fun vs H Q E h=>?_) (fun ci A outer s H vs Q E hr h=>?_)
 ·obtain⟨m,dx,l,t,b,q,fs,n0,x3,x4,i,ms,vb,ps,qs,rfl,_⟩:=h;rfl
 obtain⟨m,dx,l,t,b,q,fs,n0,x3,x4,i,ms,vb,ps,qs,rfl,hm,cs,hl,hi,ht,hb,cn,ck,hq,cj,k⟩:=h;refine⟨_,ag (pst 2 Ja (aP cy (cK (pv 0) rfl) (pv 1)))
  (ag (pst 3 Ja lO)
  (ag (fq bV rfl (fc (aP aY (pv 2) ah)) (pgn 4 Ja) (aA (i9 (kS hr) (pv 3) (pv 4) (dO ao) rfl)))
  (aA (bD (p9 MS (KS FI T) hr (by rfl) T.mS bI .nil jM (aq (gB (AD rfl) (by rfl) B.dict boot_dict (aq (aP aY (pv 2) ah) ao)) (aq (pv 3) (aq ah (aq ah ao))))))))),?_⟩
 refine{_,Z9,m,CM,dx,_,_,Z9,hm,T.clM,T.nM,cs,_,Z9,l,_,_,_,Z9,Z9,SqL.of hl,gy hi,?_};intro d hd;have s1:bN H (upd H d (.dK [])):=aH hd _;have big:1000<aG:=by decide
 refine⟨_,Z9,t,_,_,_,Z9,Z9,SqT.of (s1 _ _ ht),(rfl),q,Z9,{_,SqL.of (s1 _ _ hq)},fX (K:=K) (a:=q) (xs:=qs.map V.str) (fun j σ G=>∃(v4:Option V) (Z:List ae),σ=[Z8 (.ref m),Z8 (.int (i:Int)),Z8 (.ref t),Z8 (.ref d),v4]/\j<=qs.length/\G d=Z8 (.dK (quT (qs.take j) Z))/\Z.length=j/\Z.Nodup/\(∀z∈Z,H z=Z7/\G z=Z8 (.lst []))/\bN H G)
  {Z7,[],Z9,bE _,ak,Z9,ji,(fun z hz=>by cases hz),s1} ?_ ?_ ?_⟩
 ·rintro j σ G _ ⟨v4,Z,rfl,_,_,_,_,_,sm⟩;exact SqL.of (sm _ _ hq)
 ·intro j x σ G M qz;refine Z0 fun Gz gz=>?_;obtain⟨v4,Z,rfl,jl,Y,O,nd,J,sm⟩:=qz;refine gz ?_;obtain⟨nm,R,rfl⟩:∃nm,qs[j]?=Z8 nm/\x=V.str nm:=by
   rw[bM]at M
   cases e:qs[j]? with
   |none=>rw[e]at M;cases M
   |some nm=>rw[e]at M;cases M;exact⟨nm,Z9,Z9⟩
  refine{bE _,fun z hz=>?_};have I:=ay Y hz;have lt:(quT (qs.take j) Z).length<aG:=by
   have U:=zg ((((qs.take j).zip Z).map fun p=>((Sum.inr p.1:Key),V.ref p.2))) [];rw[ai,vz,cL]at U;simp only[cY]at U;exact fY U (by lia)
  refine{_,Z9,_,Z9,d,_,Z9,pJ.k (k:=Sum.inr nm) (by rw[aW I];exact Y) lt,?_};have cp:z∉Z:=fun c=>by
   have U:=(J z c).2;rw[hz]at U
   cases U
  refine{_,Z++[z],Z9,((aC.mp R).1),?_,by rw[aB,O];rfl,Bs nd cp,fun y hy=>?_,?_}
  ·show upd _ d _ d=_;rw[ak];show Z8 (HO.dK (jU (quT (qs.take j) Z) (Sum.inr nm) (.ref z)))=Z8 (HO.dK (quT (qs.take (j+1)) (Z++[z])));unfold quT;rw[Fs O R,aU];unfold qK;rw[Ft];rfl
  ·rcases bY.mp hy with c|c
   ·obtain⟨c1,W⟩:=J y c;refine{c1,?_};rw[aW (jD W Y (by intro e;cases e)),aW (ay W hz)];exact W
   ·rw[aD.mp c];refine{(sm.free hz),?_};rw[aW I.symm];exact ak
  ·intro c o hc;have W:=sm _ _ hc;have cd:c≠d:=ay hc hd;rw[aW cd,aW (ay W hz)];exact W
 ·rintro σ G ⟨v4,Z,rfl,jl,Y,O,nd,J,sm⟩;rw[ai]at O Y;rw[cF]at Y;refine{_,Z9,t,_,_,_,Z9,Z9,SqT.of (sm _ _ ht),(rfl),b,vb,_,Z9,sm _ _ hb,eX.same sm cn,by rw[ai];lia,fun e he=>?_};have s2:bN G (upd G e (.dK (MK ps))):=aH he _;refine{_,Z9,?_};intro x g nx cr cl;refine{x,g,_,_,_,_,Z9,ak,fun H' hx bt=>{Z9,k x g e d Z H' ?_}};have up:∀{c:ae} {o:HO},upd G e (.dK (MK ps)) c=Z8 o->H' c=Z8 o:=fun {c o} hc=>by
   have cx:c≠x:=ay hc nx;refine bt c o ?_ cx;rw[aW cx,aW (ay hc cr)];exact hc
  exact{hx,up ak,up (s2 _ _ Y),O,nd,fun z hz=>{(J z hz).1,up (s2 _ _ (J z hz).2)},sm.free (s2.free nx),sm.free he,hd,ay Y he,fun c o hc=>up (s2 _ _ (sm _ _ hc))}
end
section
variable{P:aQ}{w:bU}{K:af}{mg:Str->Option aj}{base:cG}{f:ae}{fd:cm}
def BK:Sp:=fun vs H Q _=>∃n:Int,vs=[.int n]/\Q (.bl true) H
theorem scWh:bX ["_law_found"] ["_law_found"] (aT mK):=eQ
theorem Fu(D:Df K mg "_law_whole" mK ["_law_found"] f fd)(B:Bl mg):cg P w K mg base CX0 1 f fd ["_law_found"] BK:=by
 refine D.F.ok scWh (fun vs H Q E h=>?_) (fun Z A outer s H vs Q E Y h=>?_)
 ·obtain⟨n,rfl,_⟩:=h;rfl
 obtain⟨n,rfl,q⟩:=h;exact{_,aA (bD (Et (cq d9 (by rfl) B.isi fZ (aq (pv 0) (aq (iu (v:=.ty "int") (by rfl) B.int boot_int rfl) ao))) (Es (LV (cq d9 (by rfl) B.isi fZ (aq (pv 0) (aq (iu (v:=.ty "bool") (by rfl) B.bool boot_bool rfl) ao))))))),{_,Z9,_,"int",_,true,Z9,.int n,MA,_,Z9,eM ({_,Z9,_,"bool",_,false,Z9,.int n,MG,_,Z9,q})}}
end
section
variable{κ:Type}[DecidableEq κ]
theorem AJ:∀(ps m:List (κ×V)),((m++ps).map (·.1)).Nodup->qK ps m=m++ps
 | [],m,_=>by simp[qK]
 |p::r,m,h=>by
  have nk:kP m p.1=Z7:=by
   cases e:kP m p.1 with
   |none=>rfl
   |some v=>
    exfalso;rw[aU,cP]at h;exact (eR.mp h).2.2 p.1 (II e) p.1 ax rfl
  show qK r (jU m p.1 p.2)=_;rw[EZ p.2 nk,AJ r (m++[(p.1,p.2)]) (by rw[iX];exact h),iX];rfl
end
theorem AK{Z zs:List Str}{lo hi:Option Int}(h:qR (Z.map V.str) lo hi=zs.map V.str)(W:Z.Nodup):zs.Nodup:=by
 have Y:(qR (Z.map V.str) lo hi).Nodup:=by
  exact ((nU.mpr (wU (fun n e=>n (V.str.inj e)) W)).sublist (List.drop_sublist _ _)).sublist (hZ _ _)
 rw[h]at Y;exact wU (fun n e=>n (by rw[e])) (nU.mp Y)
theorem eX.tups{H H':Hp}(s:∀t xs,H t=Z8 (.tup xs)->H' t=Z8 (.tup xs)):∀{ps:List (Str×Int)} {vs:List V},eX H ps vs->eX H' ps vs
 | [],_,h=>by
  cases h;exact .nil
 |p::ps,_,h=>by
  cases h with
  |cons a b=>
   obtain⟨t,e,h⟩:=a;exact .cons {t,e,s _ _ h} (eX.tups s b)
def wV:List Str:=["plus","less","times","part","rest","below","same"]
inductive Fm where
 |num(n:Int)
 |box(x:Str)
 |long(x:Str)
 |got(j:Bool)
 |now
 |two(k:Str)(f g:Fm)
def Fm.depth:Fm->Nat
 |.two _ f g=>max f.depth g.depth+1
 |_=>1
inductive Rs where
 |ok(r:Int)
 |nought
 |great
def rQ(k:Str)(a b:Int):Rs:=
 if k="plus" then .ok (a+b) else if k="less" then .ok (a-b) else if k="times" then .ok (a*b) else if k="below" then .ok (if a<b then 1 else 0)
 else if k="same" then .ok (if a=b then 1 else 0) else if b=0 then .nought else if k="part" then .ok (a.fdiv b) else .ok (a.fmod b)
def oU(r:Int):Int:=if r<0 then -r else r
def cap:Rs->Rs
 |.ok r=>if 10^15<oU r then .great else .ok r
 |.nought=>.nought
 |.great=>.great
structure tR where
 bx:Str->Int
 lg:Str->Nat
 g0:Int
 g1:Int
 nw:Int
def ev(e:tR):Fm->Rs
 |.num n=>.ok n
 |.box x=>.ok (e.bx x)
 |.long x=>.ok (e.lg x)
 |.got j=>.ok (if j then e.g1 else e.g0)
 |.now=>.ok e.nw
 |.two k f g=>match ev e f with
  |.ok a=>(match ev e g with
   |.ok b=>cap (rQ k a b)
   |.nought=>.nought
   |.great=>.great)
  |.nought=>.nought
  |.great=>.great
def Wo(a:Int):Prop:=-(10^15)<=a/\a<=10^15
structure tR.Ok(e:tR)(bs qs:List Str):Prop where
 bx:∀x∈bs,Wo (e.bx x)
 lg:∀x∈qs,e.lg x<=1000
 g0:Wo e.g0
 g1:Wo e.g1
 nw:Wo e.nw
inductive iY(bs qs:List Str)(H:Hp):V->Fm->Prop where
 |num{t:ae}{n:Int}:H t=Z8 (.tup [.str "number",.int n])->Wo n->iY bs qs H (.ref t) (.num n)
 |box{t:ae}{x:Str}:H t=Z8 (.tup [.str "box",.str x])->x∈bs->iY bs qs H (.ref t) (.box x)
 |long{t:ae}{x:Str}:H t=Z8 (.tup [.str "long",.str x])->x∈qs->iY bs qs H (.ref t) (.long x)
 |got{t:ae}{j:Bool}:H t=Z8 (.tup [.str "got",.int (if j then 1 else 0)])->iY bs qs H (.ref t) (.got j)
 |now{t:ae}:H t=Z8 (.tup [.str "now"])->iY bs qs H (.ref t) .now
 |two{t:ae}{k:Str}{u v:V}{f g:Fm}:H t=Z8 (.tup [.str k,u,v])->k∈wV->iY bs qs H u f->iY bs qs H v g->iY bs qs H (.ref t) (.two k f g)
theorem iY.mono{bs qs:List Str}{H H':Hp}{v:V}{f:Fm}(h:iY bs qs H v f)(s:∀t xs,H t=Z8 (.tup xs)->H' t=Z8 (.tup xs)):iY bs qs H' v f:=by
 induction h with
 |num h1 h2=>exact .num (s _ _ h1) h2
 |box h1 h2=>exact .box (s _ _ h1) h2
 |long h1 h2=>exact .long (s _ _ h1) h2
 |got h1=>exact .got (s _ _ h1)
 |now h1=>exact .now (s _ _ h1)
 |two h1 h2 _ _ Z Y=>exact .two (s _ _ h1) h2 Z Y
theorem iY.same{bs qs:List Str}{H H':Hp}{v:V}{f:Fm}(h:iY bs qs H v f)(s:bN H H'):iY bs qs H' v f:=h.mono fun _ _ e=>s _ _ e
theorem Fv{r:Int}(h:¬10^15<oU r):Wo r:=by
 unfold oU at h;unfold Wo
 split at h<;>lia
theorem Fw{r:Int}(h:Wo r):¬10^15<oU r:=by
 unfold Wo at h;unfold oU
 split<;>lia
theorem ML{x:Rs}{r:Int}(h:cap x=.ok r):Wo r:=by
 cases x with
 |ok y=>
  unfold cap at h;dsimp only at h
  by_cases c:10^15<oU y
  ·simp_all
  ·rw[if_neg c]at h;injection h with h;subst h;exact Fv c
 |nought=>cases h
 |great=>cases h
theorem lg_wo{n:Nat}(h:n<=1000):Wo (n:Int):=by
 unfold Wo
 lia
theorem kU{bs qs:List Str}{H:Hp}{e:tR}(ok:e.Ok bs qs){v:V}{f:Fm}(h:iY bs qs H v f):∀{r:Int},ev e f=.ok r->Wo r:=by
 induction h with
 |num h1 h2=>
  intro r q;injection q with q;subst q;exact h2
 |box h1 h2=>
  intro r q;injection q with q;subst q;exact ok.bx _ h2
 |long h1 h2=>
  intro r q;injection q with q;subst q;exact lg_wo (ok.lg _ h2)
 |@got t j h1=>
  intro r q;injection q with q;subst q
  cases j
  ·exact ok.g0
  ·exact ok.g1
 |now h1=>
  intro r q;injection q with q;subst q;exact ok.nw
 |@two t k u v f g h1 h2 _ _ Z Y=>
  intro r q;unfold ev at q
  cases e1:ev e f with
  |ok a=>
   rw[e1]at q
   cases e2:ev e g with
   |ok b=>
    rw[e2]at q;exact ML q
   |nought=>rw[e2]at q;cases q
   |great=>rw[e2]at q;cases q
  |nought=>rw[e1]at q;cases q
  |great=>rw[e1]at q;cases q
def wW(CN CG:ae)(r:Rs)(Q:VK)(E:XK)(H:Hp):Prop:=match r with
 |.ok r=>Q (.int r) H
 |.nought=>E (.ref CN) Z7 H
 |.great=>E (.ref CG) Z7 H
def Jb:Rs->V
 |.ok r=>.int r
 |.nought=>.str "nought"
 |.great=>.str "great"
theorem Fy:∀k∈wV,¬k="number"/\¬k="box"/\¬k="long"/\¬k="got"/\¬k="now":=by decide +kernel
section
variable{P:aQ}{w:bU}{K:af}{mg:Str->Option aj}{base:cG}{f fD fT fL CN CG CM CS:ae}{fd fdD fdT fdL:cm}
structure Fts(K:af)(mg:Str->Option aj)(CN CG:ae):Prop where
 mN:mg "Nought"=Z8 (.ref CN)
 mG:mg "Great"=Z8 (.ref CG)
 xN:dN K CN rH "ValueError.__new__"=true
 xG:dN K CG rH "ValueError.__new__"=true
 nn:dC K (.ref CN) (.ref CN)=Z8 true
 gn:dC K (.ref CG) (.ref CN)=Z8 false
 gg:dC K (.ref CG) (.ref CG)=Z8 true
inductive Fz(CN:ae)(vs:List V)(H:Hp)(Q:VK)(E:XK):Prop where
 |mk(k:Str)(a b:Int)(_:vs=[.str k,.int a,.int b])(_:Wo b)(_:(b=0->E (.ref CN) Z7 H))(_:(¬b=0->k="part"->Q (.int (a.fdiv b)) H))(_:(¬b=0->¬k="part"->Q (.int (a.fmod b)) H)):Fz CN vs H Q E
def spDiv(CN:ae):Sp:=fun vs H Q E=>Fz CN vs H Q E
theorem scDv:bX ["kind","first","second"] ["kind","first","second"] (aT eg):=eQ
theorem lW{a b:Int}(h:V.int a=V.int b):a=b:=V.int.inj h
theorem iM{a b:Str}(h:V.str a=V.str b):a=b:=V.str.inj h
theorem MP(D:Df K mg "number_of_division" eg ["kind","first","second"] f fd)(T:Fts K mg CN CG):cg P w K mg base (CXo P w) 1 f fd ["kind","first","second"] (spDiv CN):=by
 refine D.F.okX scDv (fun vs H Q E h=>?_) (fun V A outer s H vs Q E U h=>?_)
 ·obtain⟨k,a,b,rfl,_⟩:=h;rfl
 obtain⟨k,a,b,rfl,hb,h1,h2,W⟩:=h;refine⟨_,ag (cC (aZ cZ (pv 2) ah) (aA (lQ dU rfl rfl T.mN T.xN (aq bP ao))) bL)
  (ag (cC (aZ cZ (pv 0) bP) (aA (bD (cI zf (pv 1) (pv 2)))) bL)
  (aA (bD (cI Iu (pv 1) (pv 2))))),?_⟩
 refine{_,Z9,Z9,_,Z9,gr (fun c=>?_) (fun c=>?_)}
 ·exact{(by decide),h1 (lW (fK c))}
 ·have Z:¬b=0:=fun z=>gR c (by rw[z]);refine{_,Z9,Z9,_,Z9,gr (fun Y=>?_) (fun Y=>?_)}
  ·refine{_,Z9,_,Z9,_,_,Z9,Z9,{Z,?_},h2 Z (iM (fK Y))};unfold Wo at hb;omega
  ·exact{_,Z9,_,Z9,_,_,Z9,Z9,Z,W Z (fun z=>gR Y (by rw[z]))}
inductive FA(CN CG:ae)(vs:List V)(H:Hp)(Q:VK)(E:XK):Prop where
 |mk(k:Str)(a b:Int)(_:vs=[.str k,.int a,.int b])(_:Wo a)(_:Wo b)(_:wW CN CG (rQ k a b) Q E H):FA CN CG vs H Q E
def spTwo(CN CG:ae):Sp:=fun vs H Q E=>FA CN CG vs H Q E
theorem scTw:bX ["kind","first","second"] ["kind","first","second"] (aT gW):=eQ
theorem MT(D:Df K mg "number_of_two" gW ["kind","first","second"] f fd)(Y:Df K mg "number_of_division" eg ["kind","first","second"] fD fdD)(T:Fts K mg CN CG) :
  cg P w K mg base (CXo P w) 2 f fd ["kind","first","second"] (spTwo CN CG):=by
 refine D.F.okX scTw (fun vs H Q E h=>?_) (fun U A outer s H vs Q E R h=>?_)
 ·obtain⟨k,a,b,rfl,_⟩:=h;rfl
 obtain⟨k,a,b,rfl,ha,hb,h⟩:=h;unfold rQ at h;refine⟨_,ag (cC (aZ cZ (pv 0) bP) (aA (bD (cI gj (pv 1) (pv 2)))) bL)
  (ag (cC (aZ cZ (pv 0) bP) (aA (bD (cI jm (pv 1) (pv 2)))) bL)
  (ag (cC (aZ cZ (pv 0) bP) (aA (bD (cI lH (pv 1) (pv 2)))) bL)
  (ag (cC (aZ cZ (pv 0) bP) (aA (bD (uA (aZ oQ (pv 1) (pv 2)) ah ah))) bL)
  (ag (cC (aZ cZ (pv 0) bP) (aA (bD (uA (aZ cZ (pv 1) (pv 2)) ah ah))) bL)
  (aA (bD (iy (MP Y T) R rfl Y.m Y.F.kp Y.b .nil (dU.passes fun _ _ _ z=>z) (aq (pv 0) (aq (pv 1) (aq (pv 2) ao)))))))))),?_⟩
 refine{_,Z9,Z9,_,Z9,gr (fun c=>?_) (fun c=>?_)}
 ·rw[if_pos (iM (fK c))]at h;exact{_,Z9,_,Z9,_,_,Z9,Z9,h}
 rw[if_neg fun z=>gR c (by rw[z])]at h;refine{_,Z9,Z9,_,Z9,gr (fun c=>?_) (fun c=>?_)}
 ·rw[if_pos (iM (fK c))]at h;exact{_,Z9,_,Z9,_,_,Z9,Z9,h}
 rw[if_neg fun z=>gR c (by rw[z])]at h;refine{_,Z9,Z9,_,Z9,gr (fun c=>?_) (fun c=>?_)}
 ·rw[if_pos (iM (fK c))]at h;refine{_,Z9,_,Z9,_,_,Z9,Z9,.inl {?_,?_},h}
  ·unfold Wo at ha;lia
  ·unfold Wo at ha;lia
 rw[if_neg fun z=>gR c (by rw[z])]at h;refine{_,Z9,Z9,_,Z9,gr (fun c=>?_) (fun c=>?_)}
 ·rw[if_pos (iM (fK c))]at h;refine{_,Z9,_,Z9,_,_,Z9,Z9,_,Z9,gr (fun Z=>?_) (fun Z=>?_)}
  ·rw[if_pos (fK Z)]at h;exact h
  ·rw[if_neg (gR Z)]at h;exact h
 rw[if_neg fun z=>gR c (by rw[z])]at h;refine{_,Z9,Z9,_,Z9,gr (fun c=>?_) (fun c=>?_)}
 ·rw[if_pos (iM (fK c))]at h;refine{_,Z9,_,Z9,Z9,_,Z9,gr (fun Z=>?_) (fun Z=>?_)}
  ·rw[if_pos (lW (fK Z))]at h;exact h
  ·rw[if_neg fun z=>gR Z (by rw[z])]at h;exact h
 rw[if_neg fun z=>gR c (by rw[z])]at h;refine{_,Z9,_,Z9,_,Z9,k,a,b,Z9,hb,fun z=>?_,fun V W=>?_,fun V W=>?_}
 ·rw[if_pos z]at h;exact h
 ·rw[if_neg V,if_pos W]at h;exact h
 ·rw[if_neg V,if_neg W]at h;exact h
structure Holds(K:af)(CS:ae)(bs qs:List Str)(H:Hp)(st gl:ae)(e:tR):Prop where
 ex:∃(dx bd qd:ae) (fs:List (Str×V)) (bk qk:List (Key×V)),H st=Z8 (.ins CS dx fs)/\fs.lookup ("boxes":Str)=Z8 (.ref bd)/\fs.lookup ("queues":Str)=Z8 (.ref qd)/\H bd=Z8 (.dK bk)/\H qd=Z8 (.dK qk) /\
  (∀x∈bs,kP bk (Sum.inr x)=Z8 (.int (e.bx x)))/\(∀x∈qs,∃l xs,kP qk (Sum.inr x)=Z8 (.ref l)/\H l=Z8 (.lst xs)/\xs.length=e.lg x)
 hgl:H gl=Z8 (.lst [.int e.g0,.int e.g1])
inductive BL(K:af)(CS:ae)(bs qs:List Str)(vs:List V)(H:Hp)(Q:VK)(_e:XK):Prop where
 |mk(v:V)(F:Fm)(st gl:ae)(e:tR)(_:vs=[v,.ref st,.int e.nw,.ref gl])(_:iY bs qs H v F)(_:F.depth<=1)(_:Holds K CS bs qs H st gl e)(_:∀r,ev e F=.ok r->Q (.int r) H):BL K CS bs qs vs H Q _e
def FB(K:af)(CS:ae)(bs qs:List Str):Sp:=fun vs H Q Z=>BL K CS bs qs vs H Q Z
theorem scLf:bX ["formula","state","now","got","kind"] ["formula","state","now","got"] (aT gD):=eQ
theorem zr:¬(("box":Str)="number")/\¬(("long":Str)="number")/\¬(("long":Str)="box")/\¬(("got":Str)="number")/\¬(("got":Str)="box")/\¬(("got":Str)="long")/\¬(("now":Str)="number")/\¬(("now":Str)="box")/\¬(("now":Str)="long")/\¬(("now":Str)="got"):=by decide +kernel
theorem lX{a b:Str}(h:¬a=b):decide (V.str a=V.str b)=false:=decide_eq_false fun z=>h (V.str.inj z)
theorem tS(a:Str):decide (V.str a=V.str a)=true:=decide_eq_true rfl
theorem gE{c:Bool}{b:Bool}{p q:Prop}(h:c=b)(t:if b=true then p else q):if c=true then p else q:=by
 rw[h];exact t
theorem Jc{bs qs:List Str}(D:Df K mg "number_of_leaf" gD ["formula","state","now","got"] f fd)(T:MdT K mg CM CS)(B:Bl mg):cg P w K mg base CX0 1 f fd ["formula","state","now","got"] (FB K CS bs qs):=by
 refine D.F.ok scLf (fun vs H Q E h=>?_) (fun bG A outer s H vs Q E hr h=>?_)
 ·obtain⟨v,F,st,V,e,rfl,_⟩:=h;rfl
 refine Z0 fun Gz W=>?_;obtain⟨v,F,st,V,e,rfl,hF,hd,⟨⟨dx,bd,qd,fs,bk,qk,h1,h2,g,M,h5,h6,G⟩,U⟩,q⟩:=h;refine W ?_;have hu:=kS hr;refine⟨_,ag (pst 4 scLf (aP aY (pv 0) ah))
  (ag (cC (aZ cZ (pv 4) bP) (aA (bD (aP aY (pv 0) ah))) bL)
  (ag (cC (aZ cZ (pv 4) bP) (aA (bD (iO hu (cK (pv 1) rfl) (aP aY (pv 0) ah)))) bL)
  (ag (cC (aZ cZ (pv 4) bP) (aA (bD (cq gX (by rfl) B.len bO (aq (iO hu (cK (pv 1) rfl) (aP aY (pv 0) ah)) ao)))) bL)
  (ag (cC (aZ cZ (pv 4) bP) (aA (bD (aP cy (pv 3) (aP aY (pv 0) ah)))) bL)
  (aA (bD (pv 2))))))),?_⟩
 refine Z0 fun Gz W=>?_;obtain⟨k1,k2,k3,k4,k5,k6,k7,I,k9,Y⟩:=zr;refine W ?_
 cases hF with
 |@num t n Z hn=>
  exact{_,Z9,t,_,_,_,Z9,Z9,SqT.of Z,Z9,_,Z9,Z9,_,Z9,gE (tS _) (eM ({_,Z9,t,_,_,_,Z9,Z9,SqT.of Z,Z9,q _ rfl}))}
 |@box t x Z hx=>
  exact{_,Z9,t,_,_,_,Z9,Z9,SqT.of Z,Z9,_,Z9,Z9,_,Z9,gE (lX k1) (dP ({_,Z9,Z9,_,Z9,gE (tS _) (eM ({_,Z9,st,CS,dx,_,_,Z9,h1,T.clS,T.nB,h2,_,Z9,t,_,_,_,Z9,Z9,SqT.of Z,Z9,bd,_,Z9,(by have z:=nr.k (k:=Sum.inr x) M;rw[h6 x hx]at z;exact z),q _ rfl}))}))}
 |@long t x Z hx=>
  obtain⟨l,xs,O,R,J⟩:=G x hx;exact{_,Z9,t,_,_,_,Z9,Z9,SqT.of Z,Z9,_,Z9,Z9,_,Z9,gE (lX k2) (dP ({_,Z9,Z9,_,Z9,gE (lX k3) (dP ({_,Z9,Z9,_,Z9,gE (tS _) (eM ({_,Z9,st,CS,dx,_,_,Z9,h1,T.clS,T.nQ,g,_,Z9,t,_,_,_,Z9,Z9,SqT.of Z,Z9,qd,_,Z9,(by have z:=nr.k (k:=Sum.inr x) h5;rw[O]at z;exact z),l,xs,Z9,.inl (SqL.of R),q _ (by rw[J];rfl)}))}))}))}
 |@got t j Z=>
  refine{_,Z9,t,_,_,_,Z9,Z9,SqT.of Z,Z9,_,Z9,Z9,_,Z9,gE (lX k4) (dP ({_,Z9,Z9,_,Z9,gE (lX k5) (dP ({_,Z9,Z9,_,Z9,gE (lX k6) (dP ({_,Z9,Z9,_,Z9,gE (tS _) (eM ?_)}))}))}))}
  cases j
  ·exact{_,Z9,_,Z9,t,_,_,_,Z9,Z9,SqT.of Z,Z9,V,_,_,_,Z9,Z9,SqL.of U,Z9,q _ rfl}
  ·exact{_,Z9,_,Z9,t,_,_,_,Z9,Z9,SqT.of Z,Z9,V,_,_,_,Z9,Z9,SqL.of U,Z9,q _ rfl}
 |@now t Z=>
  refine{_,Z9,t,_,_,_,Z9,Z9,SqT.of Z,Z9,_,Z9,Z9,_,Z9,gE (lX k7) (dP ({_,Z9,Z9,_,Z9,gE (lX I) (dP ?_)}))};refine{_,Z9,Z9,_,Z9,gE (lX k9) (dP ?_)};refine{_,Z9,Z9,_,Z9,gE (lX Y) (dP ?_)};exact{_,Z9,q _ rfl}
 |@two t k u v f1 f2 Z hk h1 h2=>
  have z1:0<f1.depth:=by cases f1<;>exact tT _
  unfold Fm.depth at hd;omega
inductive KU(K:af)(CS CN CG:ae)(bs qs:List Str)(n:Nat)(vs:List V)(H:Hp)(Q:VK)(E:XK):Prop where
 |mk(v:V)(F:Fm)(st gl:ae)(e:tR)(_:vs=[v,.ref st,.int e.nw,.ref gl])(_:iY bs qs H v F)(_:F.depth<=n)(_:Holds K CS bs qs H st gl e)(_:e.Ok bs qs)(_:wW CN CG (ev e F) Q E H):KU K CS CN CG bs qs n vs H Q E
def FC(K:af)(CS CN CG:ae)(bs qs:List Str)(n:Nat):Sp:=fun vs H Q E=>KU K CS CN CG bs qs n vs H Q E
theorem FD:bX ["formula","state","now","got","first","second","number"] ["formula","state","now","got"] (aT lS):=eQ
theorem Jd{bs qs:List Str}{H:Hp}{v:V}{F:Fm}(h:iY bs qs H v F):(∃t xs,v=.ref t/\H t=Z8 (.tup xs)/\¬(xs.length:Int)=3/\F.depth<=1/\∀e:tR,∃r,ev e F=.ok r) \/
  ∃t k u w f g,v=.ref t/\F=.two k f g/\H t=Z8 (.tup [.str k,u,w])/\k∈wV/\iY bs qs H u f/\iY bs qs H w g:=by
 cases h with
 |num h1 h2=>exact .inl {_,_,Z9,h1,by show ¬((2:Nat):Int)=3;decide,aF _,fun e=>{_,Z9}}
 |box h1 h2=>exact .inl {_,_,Z9,h1,by show ¬((2:Nat):Int)=3;decide,aF _,fun e=>{_,Z9}}
 |long h1 h2=>exact .inl {_,_,Z9,h1,by show ¬((2:Nat):Int)=3;decide,aF _,fun e=>{_,Z9}}
 |got h1=>exact .inl {_,_,Z9,h1,by show ¬((2:Nat):Int)=3;decide,aF _,fun e=>{_,Z9}}
 |now h1=>exact .inl {_,_,Z9,h1,by decide,aF _,fun e=>{_,Z9}}
 |two h1 h2 Z Y=>exact .inr {_,_,_,_,_,_,Z9,Z9,h1,h2,Z,Y}
theorem Je{bs qs:List Str}{n:Nat}(D:Df K mg "worth_of" lS ["formula","state","now","got"] f fd)(DT:Df K mg "number_of_two" gW ["kind","first","second"] fT fdT)(DD:Df K mg "number_of_division" eg ["kind","first","second"] fD fdD)
  (DL:Df K mg "number_of_leaf" gD ["formula","state","now","got"] fL fdL) (T:Fts K mg CN CG) (TM:MdT K mg CM CS) (B:Bl mg) (G:cg P w K mg base (CXo P w) (n+2) f fd ["formula","state","now","got"] (FC K CS CN CG bs qs n)) :
  cg P w K mg base (CXo P w) (n+3) f fd ["formula","state","now","got"] (FC K CS CN CG bs qs (n+1)):=by
 have GL:cg P w K mg base CX0 1 fL fdL ["formula","state","now","got"] (FB K CS bs qs):=Jc DL TM B;refine D.F.okX FD (fun vs H Q E h=>?_) (fun bo A outer s H vs Q E U h=>?_)
 ·obtain⟨v,F,st,R,e,rfl,_⟩:=h;rfl
 obtain⟨v,F,st,R,e,rfl,M,g,I,Y,h⟩:=h;refine⟨_,ag (cC (aZ cZ (cq gX (by rfl) B.len bO (aq (pv 0) ao)) ah)
   (ag (pst 4 FD (iy G U rfl D.m D.F.kp D.b .nil (dU.passes fun _ _ _ z=>z) (aq (aP aY (pv 0) ah) (aq (pv 1) (aq (pv 2) (aq (pv 3) ao))))))
   (ag (pst 5 FD (iy G U rfl D.m D.F.kp D.b .nil (dU.passes fun _ _ _ z=>z) (aq (aP aY (pv 0) ah) (aq (pv 1) (aq (pv 2) (aq (pv 3) ao))))))
   (aA (pst 6 FD (iy (MT DT DD T) (U.mono (by lia)) rfl DT.m DT.F.kp DT.b .nil (dU.passes fun _ _ _ z=>z) (aq (aP aY (pv 0) ah) (aq (pv 4) (aq (pv 5) ao))))))))
   (aA (pst 6 FD (pcl GL (U.mono (by lia)) DL (aq (pv 0) (aq (pv 1) (aq (pv 2) (aq (pv 3) ao))))))))
  (ag (cC (aZ lI (cq EG (by rfl) B.abs boot_abs (aq (pv 6) ao)) (cI j1 ah ah)) (aA (lQ dU rfl rfl T.mG T.xG (aq bP ao))) bL)
  (aA (bD (pv 6)))),?_⟩
 have W:Af 10 15:={by decide,by decide,by decide}
 rcases Jd M with⟨t,xs,rfl,Z,hx,O,hv⟩|⟨t,k,u,v',f1,J,rfl,rfl,Z,hk,h1,h2⟩
 ·obtain⟨r,bq⟩:=hv e;refine{_,Z9,t,_,Z9,.inr (SqT.of Z),Z9,_,Z9,gr (fun c=>absurd (lW (fK c)) hx) (fun c=>{_,Z9,_,Z9,_,Z9,_,Z9,.ref t,F,st,R,e,Z9,M,O,I,fun r' V=>{_,Z9,_,Z9,_,_,Z9,Z9,W,_,_,Z9,Z9,_,Z9,gr (fun c=>?_) (fun c=>?_)}})}
  ·exact absurd (fK c) (Fw (kU Y M V))
  ·rw[V]at h;exact{_,Z9,h}
 ·have d1:f1.depth<=n:=by
   unfold Fm.depth at g
   lia
  have d2:J.depth<=n:=by
   unfold Fm.depth at g
   lia
  refine{_,Z9,t,_,Z9,.inr (SqT.of Z),Z9,_,Z9,gr (fun c=>{_,Z9,t,_,_,_,Z9,Z9,SqT.of Z,Z9,_,Z9,_,Z9,_,Z9,u,f1,st,R,e,Z9,h1,d1,I,Y,?_}) (fun c=>absurd rfl (gR c))};unfold ev at h
  cases e1:ev e f1 with
  |nought=>rw[e1]at h;exact h
  |great=>rw[e1]at h;exact h
  |ok a=>
   rw[e1]at h;refine{_,Z9,t,_,_,_,Z9,Z9,SqT.of Z,Z9,_,Z9,_,Z9,_,Z9,v',J,st,R,e,Z9,h2,d2,I,Y,?_}
   cases e2:ev e J with
   |nought=>rw[e2]at h;exact h
   |great=>rw[e2]at h;exact h
   |ok b=>
    rw[e2]at h;have h:wW CN CG (cap (rQ k a b)) Q E H:=h;refine{_,Z9,t,_,_,_,Z9,Z9,SqT.of Z,Z9,_,Z9,_,Z9,k,a,b,Z9,kU Y h1 e1,kU Y h2 e2,?_}
    cases e3:rQ k a b with
    |nought=>rw[e3]at h;exact h
    |great=>rw[e3]at h;exact h
    |ok r=>
     rw[e3]at h;have h':wW CN CG (if 10^15<oU r then .great else .ok r) Q E H:=h;refine{_,Z9,_,Z9,_,_,Z9,Z9,W,_,_,Z9,Z9,_,Z9,gr (fun c=>?_) (fun c=>?_)}
     ·rw[if_pos (show 10^15<oU r from fK c)]at h';exact{(by decide),h'}
     ·rw[if_neg (show ¬10^15<oU r from gR c)]at h';exact{_,Z9,h'}
theorem wX(F:Fm):0<F.depth:=by cases F<;>exact tT _
theorem KW{bs qs:List Str}(D:Df K mg "worth_of" lS ["formula","state","now","got"] f fd)(DT:Df K mg "number_of_two" gW ["kind","first","second"] fT fdT)(Z:Df K mg "number_of_division" eg ["kind","first","second"] fD fdD)
  (Y:Df K mg "number_of_leaf" gD ["formula","state","now","got"] fL fdL) (T:Fts K mg CN CG) (W:MdT K mg CM CS) (B:Bl mg):∀n:Nat,cg P w K mg base (CXo P w) (n+2) f fd ["formula","state","now","got"] (FC K CS CN CG bs qs n)
 |0=>by
  have V:∀vs H Q E,¬FC K CS CN CG bs qs 0 vs H Q E:=fun vs H Q E h=>by
   obtain⟨v,F,st,O,e,_,_,R,_⟩:=h;have:=wX F
   lia
  exact{fun vs H Q E h=>absurd h (V vs H Q E),fun A outer s H args U vs Q E _ _ _ _ h=>absurd h (V vs H Q E)}
 |n+1=>Je D DT Z Y T W B (KW D DT Z Y T W B n)
end
mutual
inductive Dd where
 |put(x:Str)(f:Fm)
 |push(q:Str)(f:Fm)
 |pull(q x:Str)(o:Ds)
 |draw(x:Str)(f:Fm)
 |send(to:Int)(sg:Str)(sp:Fm)(rk:Int)(a b:Fm)
 |ife(f:Fm)(t e:Ds)
 |fin
inductive Ds where
 |nil
 |cons(d:Dd)(r:Ds)
end
inductive Flt where
 |nought
 |great
 |full
 |dry
 |span
 |late
structure Ev where
 t:Int
 r:Int
 fr:Int
 c:Int
 to:Int
 sg:Str
 a:Int
 b:Int
structure Wk where
 bx:List (Str×Int)
 qu:List (Str×List Int)
 dr:Nat
 se:Int
 wr:List Str
 out:List Ev
 en:Bool
 rk:List Fm
 qn:List Str
def Wk.len(w:Wk):Nat:=w.out.length+w.rk.length
def qU(ps:List (Str×Int))(x:Str):Int:=(ps.lookup x).getD 0
def ie(ps:List (Str×List Int))(x:Str):List Int:=(ps.lookup x).getD []
def jQ{Z:Type}(ps:List (Str×Z))(x:Str)(n:Z):List (Str×Z):=ps.map fun p=>if p.1=x then (p.1,n) else p
def iq(xs:List Str)(x:Str):List Str:=if x∈xs then xs else xs++[x]
def iz(h:Ev)(w:Wk):tR:={qU w.bx,fun q=>(ie w.qu q).length,h.a,h.b,h.t}
def rck(h:Ev)(w:Wk)(f:Fm)(k:Wk->Int->Except Flt Wk):Except Flt Wk:=match ev (iz h w) f with
 |.ok n=>k {w with rk:=w.rk++[f]} n
 |.nought=>.error .nought
 |.great=>.error .great
def zt(w:Wk)(x:Str)(n:Int):Wk:={w with bx:=jQ w.bx x n,wr:=iq w.wr x}
def KY(h:Ev)(w:Wk)(to:Int)(Z:Str)(rk t a b:Int):Wk:={w with se:=w.se+1,out:=w.out++[⟨t,rk,h.to,w.se,to,Z,a,b⟩]}
mutual
def doD(h:Ev)(ds:List Int):Dd->Wk->Except Flt Wk
 |.put x f,w=>rck h w f fun w n=>.ok (zt w x n)
 |.push q f,w=>rck h w f fun w n=>if 30<=(ie w.qu q).length then .error .full else .ok {w with qu:=jQ w.qu q (ie w.qu q++[n]),wr:=iq w.wr q,qn:=iq w.qn q}
 |.pull q x o,w=>match ie w.qu q with
  | []=>doS h ds o {w with qn:=iq w.qn q}
  |n::ns=>.ok {w with qu:=jQ w.qu q ns,bx:=jQ w.bx x n,wr:=iq (iq w.wr x) q,qn:=iq w.qn q}
 |.draw x f,w=>rck h w f fun w n=>if n<1 then .error .nought else if ds=[] then .error .dry else .ok (zt {w with dr:=w.dr+1} x (ds.getD (w.dr%ds.length) 0%n))
 |.send to Z sp rk a b,w=>rck h w sp fun w n=>if n<1\/10^6<n then .error .span else rck h w a fun w x=>rck h w b fun w y=>if 10^12<h.t+n then .error .late else .ok (KY h w to Z rk (h.t+n) x y)
 |.ife f t e,w=>rck h w f fun w n=>if n=0 then doS h ds e w else doS h ds t w
 |.fin,w=>.ok {w with en:=true}
def doS(h:Ev)(ds:List Int):Ds->Wk->Except Flt Wk
 |.nil,w=>.ok w
 |.cons d r,w=>match doD h ds d w with
  |.ok Z=>doS h ds r Z
  |.error e=>.error e
end
mutual
def Dd.deep:Dd->Nat
 |.pull _ _ o=>o.deep+1
 |.ife _ t e=>max t.deep e.deep+1
 |_=>0
def Ds.deep:Ds->Nat
 |.nil=>0
 |.cons d r=>max d.deep r.deep
end
def mR(H:Hp)(R:List V->Prop)(v:V):Prop:=∃l vs,v=.ref l/\H l=Z8 (.lst vs)/\vs.length<1000/\R vs
def FmI(bs qs:List Str)(H:Hp)(v:V)(f:Fm):Prop:=iY bs qs H v f/\f.depth<=15
mutual
def dR(bs qs:List Str)(H:Hp):Dd->V->Prop
 |.put x f,v=>∃t u,v=.ref t/\H t=Z8 (.tup [.str "put",.str x,u])/\x∈bs/\FmI bs qs H u f
 |.push q f,v=>∃t u,v=.ref t/\H t=Z8 (.tup [.str "push",.str q,u])/\q∈qs/\FmI bs qs H u f
 |.pull q x o,v=>∃t u,v=.ref t/\H t=Z8 (.tup [.str "pull",.str q,.str x,u])/\q∈qs/\x∈bs/\mR H (eF bs qs H o) u
 |.draw x f,v=>∃t u,v=.ref t/\H t=Z8 (.tup [.str "draw",.str x,u])/\x∈bs/\FmI bs qs H u f
 |.send to Z sp rk a b,v=>∃t u u1 u2,v=.ref t/\H t=Z8 (.tup [.str "send",.int to,.str Z,u,.int rk,u1,u2])/\FmI bs qs H u sp/\FmI bs qs H u1 a/\FmI bs qs H u2 b
 |.ife f x y,v=>∃t u u1 u2,v=.ref t/\H t=Z8 (.tup [.str "if",u,u1,u2])/\FmI bs qs H u f/\mR H (eF bs qs H x) u1/\mR H (eF bs qs H y) u2
 |.fin,v=>∃t,v=.ref t/\H t=Z8 (.tup [.str "end"])
def eF(bs qs:List Str)(H:Hp):Ds->List V->Prop
 |.nil,vs=>vs=[]
 |.cons d r,vs=>∃v Z,vs=v::Z/\dR bs qs H d v/\eF bs qs H r Z
end
theorem mR.same{H H':Hp}(s:bN H H'){R Z:List V->Prop}(f:∀vs,R vs->Z vs){v:V}(h:mR H R v):mR H' Z v:=by
 obtain⟨l,vs,e,h1,h2,Y⟩:=h;exact{l,vs,e,s _ _ h1,h2,f vs Y}
theorem FmI.same{bs qs:List Str}{H H':Hp}(s:bN H H'){v:V}{f:Fm}(h:FmI bs qs H v f):FmI bs qs H' v f:={h.1.same s,h.2}
mutual
theorem dR.same{bs qs:List Str}{H H':Hp}(s:bN H H'):∀(d:Dd) (v:V),dR bs qs H d v->dR bs qs H' d v
 |.put x f,v,h=>by
  obtain⟨t,u,e,h1,h2,Z⟩:=(by simpa only[dR] using h);simp only[dR];exact{t,u,e,s _ _ h1,h2,Z.same s}
 |.push q f,v,h=>by
  obtain⟨t,u,e,h1,h2,Z⟩:=(by simpa only[dR] using h);simp only[dR];exact{t,u,e,s _ _ h1,h2,Z.same s}
 |.pull q x o,v,h=>by
  obtain⟨t,u,e,h1,h2,Z,Y⟩:=(by simpa only[dR] using h);simp only[dR];exact{t,u,e,s _ _ h1,h2,Z,Y.same s (eF.same s o)}
 |.draw x f,v,h=>by
  obtain⟨t,u,e,h1,h2,Z⟩:=(by simpa only[dR] using h);simp only[dR];exact{t,u,e,s _ _ h1,h2,Z.same s}
 |.send to W sp rk a b,v,h=>by
  obtain⟨t,u,u1,u2,e,h1,h2,Z,Y⟩:=(by simpa only[dR] using h);simp only[dR];exact{t,u,u1,u2,e,s _ _ h1,h2.same s,Z.same s,Y.same s}
 |.ife f x y,v,h=>by
  obtain⟨t,u,u1,u2,e,h1,h2,Z,Y⟩:=(by simpa only[dR] using h);simp only[dR];exact{t,u,u1,u2,e,s _ _ h1,h2.same s,Z.same s (eF.same s x),Y.same s (eF.same s y)}
 |.fin,v,h=>by
  obtain⟨t,e,h1⟩:=(by simpa only[dR] using h);simp only[dR];exact{t,e,s _ _ h1}
theorem eF.same{bs qs:List Str}{H H':Hp}(s:bN H H'):∀(d:Ds) (vs:List V),eF bs qs H d vs->eF bs qs H' d vs
 |.nil,vs,h=>by
  simpa only[eF] using h
 |.cons d r,vs,h=>by
  obtain⟨v,Z,e,h1,h2⟩:=(by simpa only[eF] using h);simp only[eF];exact{v,Z,e,dR.same s d v h1,eF.same s r Z h2}
end
def fH(H:Hp)(v:V)(e:Ev):Prop:=∃t k,v=.ref t/\H t=Z8 (.tup [.ref k,.int e.to,.str e.sg,.int e.a,.int e.b])/\H k=Z8 (.tup [.int e.t,.int e.r,.int e.fr,.int e.c])
theorem fH.same{H H':Hp}(s:bN H H'){v:V}{e:Ev}(h:fH H v e):fH H' v e:=by
 obtain⟨t,k,Z,h1,h2⟩:=h;exact{t,k,Z,s _ _ h1,s _ _ h2}
def boK(ps:List (Str×Int)):List (Key×V):=ps.map fun p=>((Sum.inr p.1:Key),V.int p.2)
def quK(ps:List (Str×ae)):List (Key×V):=ps.map fun p=>((Sum.inr p.1:Key),V.ref p.2)
def wrK(xs:List Str):List (Key×V):=xs.map fun x=>((Sum.inr x:Key),V.bl true)
theorem qh{Z:Type}(g:Z->V)(x:Str):∀ps:List (Str×Z),kP (ps.map fun p=>((Sum.inr p.1:Key),g p.2)) (Sum.inr x)=(ps.lookup x).map g
 | []=>rfl
 |p::ps=>by
  rw[cP]
  by_cases c:p.1=x
  ·rw[pG (by rw[c])];obtain⟨a,b⟩:=p;subst c;rw[dJ];rfl
  ·rw[pH (fun z=>c (zu z)),qh g x ps];obtain⟨a,b⟩:=p;rw[cM];have:(x==a)=false:=beq_eq_false_iff_ne.mpr fun z=>c z.symm;rw[this]
theorem Jf{Z:Type}(g:Z->V)(x:Str)(n:Z){ps:List (Str×Z)}(h:(ps.lookup x).isSome=true):jU (ps.map fun p=>((Sum.inr p.1:Key),g p.2)) (Sum.inr x) (g n)=(jQ ps x n).map fun p=>((Sum.inr p.1:Key),g p.2):=by
 unfold jU;rw[kx,qh,r9,h,if_pos rfl];unfold jQ;rw[eI,eI];apply jB;intro p _
 by_cases c:p.1=x
 ·simp only[Function.comp,c,if_true]
 ·simp_all
theorem BM(xs:List Str)(x:Str):kP (wrK xs) (Sum.inr x)=if x∈xs then Z8 (.bl true) else Z7:=by
 induction xs with
 |nil=>rfl
 |cons y xs Z=>
  unfold wrK at Z |-;rw[cP]
  by_cases c:y=x
  ·rw[pG (by rw[c]),if_pos (c ▸ ax)]
  ·rw[pH (fun z=>c (zu z)),Z]
   by_cases m:x∈xs
   ·simp_all
   ·grind
theorem BN(xs:List Str)(x:Str):jU (wrK xs) (Sum.inr x) (.bl true)=wrK (iq xs x):=by
 unfold jU;rw[kx,BM]
 by_cases m:x∈xs
 ·rw[if_pos m];unfold iq;rw[if_pos m];show (if true=true then _ else _)=_;unfold wrK;rw[eI];apply jB;intro y _
  by_cases c:y=x
  ·simp_all
  ·simp_all
 ·rw[if_neg m];unfold iq;rw[if_neg m];unfold wrK;rw[aU];rfl
theorem qi{Z:Type}(ps:List (Str×Z))(x:Str)(n:Z):(jQ ps x n).map (·.1)=ps.map (·.1):=by
 unfold jQ;rw[eI];apply jB;intro p _;show (if p.1=x then (p.1,n) else p).1=p.1
 split<;>rfl
theorem nV{Z:Type}{x:Str}:∀{ps:List (Str×Z)},x∈ps.map (·.1)->∃a,ps.lookup x=Z8 a/\(x,a)∈ps
 | [],h=>by cases h
 |p::ps,h=>by
  obtain⟨k,a⟩:=p
  by_cases c:x=k
  ·subst c;exact⟨a,dJ,ax⟩
  ·have h':x∈ps.map (·.1):=by
    rcases aE.mp h with z|z
    ·exact absurd z c
    ·exact z
   obtain⟨b,h1,h2⟩:=nV h';refine{b,?_,aa _ h2};rw[cM,beq_eq_false_iff_ne.mpr c];exact h1
theorem rR{Z:Type}{x:Str}{n:Z}{ps:List (Str×Z)}{q:Str×Z}(h:q∈jQ ps x n):q∈ps\/q.2=n:=by
 obtain⟨p,hp,e⟩:=cD.mp h
 by_cases c:p.1=x
 ·rw[if_pos c]at e;subst e;exact .inr rfl
 ·rw[if_neg c]at e;subst e;exact .inl hp
structure DT(K:af)(mg:Str->Option aj)(CD:ae):Prop where
 cl:Cls K CD
 nM:ff K CD "machine"
 nH:ff K CD "happening"
 nS:ff K CD "state"
 nW:ff K CD "written"
 nO:ff K CD "outgoing"
 nE:ff K CD "ends"
 nR:ff K CD "reckoned"
 nQ:ff K CD "queued"
 mD:mg "Doing"=Z8 (.ref CD)
def dF(m h:V)(st Y od:ae)(en:Bool)(W Z:ae):List (Str×V):=[("machine",m),("happening",h),("state",.ref st),("written",.ref Y),("outgoing",.ref od),("ends",.bl en),("reckoned",.ref W),("queued",.ref Z)]
abbrev AL:List Str:=["machine","happening","state","written","outgoing","ends","reckoned","queued"]
theorem MU(m h:V)(st Y od:ae)(en:Bool)(W Z:ae):(dF m h st Y od en W Z).lookup ("machine":Str)=Z8 m:=dJ
theorem kE{k x:Str}{v:V}{r:List (Str×V)}(h:(x==k)=false):((k,v)::r).lookup x=r.lookup x:=by rw[cM,h]
theorem Jg(m h:V)(st Y od:ae)(en:Bool)(W Z:ae):(dF m h st Y od en W Z).lookup ("happening":Str)=Z8 h:=by
 rfl
theorem vP(m h:V)(st Y od:ae)(en:Bool)(W Z:ae):(dF m h st Y od en W Z).lookup ("state":Str)=Z8 (.ref st):=by
 rfl
theorem FE(m h:V)(st Z od:ae)(en:Bool)(W Y:ae):(dF m h st Z od en W Y).lookup ("written":Str)=Z8 (.ref Z):=by
 rfl
theorem dF_o(m h:V)(st Y od:ae)(en:Bool)(W Z:ae):(dF m h st Y od en W Z).lookup ("outgoing":Str)=Z8 (.ref od):=by
 rfl
theorem dF_e(m h:V)(st Y od:ae)(en:Bool)(W Z:ae):(dF m h st Y od en W Z).lookup ("ends":Str)=Z8 (.bl en):=by
 rfl
theorem dF_r(m h:V)(st W od:ae)(en:Bool)(Z Y:ae):(dF m h st W od en Z Y).lookup ("reckoned":Str)=Z8 (.ref Z):=by
 rfl
theorem dF_u(m h:V)(st Y od:ae)(en:Bool)(W Z:ae):(dF m h st Y od en W Z).lookup ("queued":Str)=Z8 (.ref Z):=by
 rfl
theorem oV(m h:V)(st Y od:ae)(en:Bool)(W Z:ae){x:Str}(hx:AL.contains x=false):(dF m h st Y od en W Z).lookup x=Z7:=by
 have z:∀k∈AL,(x==k)=false:=fun k hk=>beq_eq_false_iff_ne.mpr fun e=>by
  rw[e,qj.mpr hk]at hx
  cases hx
 unfold dF;rw[kE (z _ (by simp)),kE (z _ (by simp)),kE (z _ (by simp)),kE (z _ (by simp)),kE (z _ (by simp)),kE (z _ (by simp)),kE (z _ (by simp)),kE (z _ (by simp))];rfl
theorem sne{a b:Str}(h:(a==b)=false):¬a=b:=by
 simp_all
theorem MV(m h:V)(st Y od:ae)(en:Bool)(W Z:ae):dS "queued" (.ref Z) (dS "reckoned" (.ref W) (dS "ends" (.bl en) (dS "outgoing" (.ref od) (dS "written" (.ref Y) (dS "state" (.ref st) (dS "happening" h (dS "machine" m [])))))))=dF m h st Y od en W Z:=by
 rfl
theorem MX(m h:V)(st W od:ae)(en Z:Bool)(U Y:ae):dS "ends" (.bl Z) (dF m h st W od en U Y)=dF m h st W od Z U Y:=by
 rfl
theorem BO(b q d e:V):qE b q d e=([("boxes",b),("queues",q),("drawn",d),("sent",e)]:List (Str×V)):=by
 rfl
theorem MY(b q d e Z:V):dS "sent" Z (qE b q d e)=qE b q d Z:=by
 rfl
theorem C8(b q d e:V):(qE b q d e).lookup ("boxes":Str)=Z8 b:=by rw[BO,dJ]
theorem FG(b q d e:V):(qE b q d e).lookup ("queues":Str)=Z8 q:=by
 rfl
theorem FH(b q d e:V):(qE b q d e).lookup ("drawn":Str)=Z8 d:=by
 rfl
theorem FJ(b q d e:V):(qE b q d e).lookup ("sent":Str)=Z8 e:=by
 rfl
theorem st_no(b q d e:V){x:Str}(hx:(["boxes","queues","drawn","sent"]:List Str).contains x=false):(qE b q d e).lookup x=Z7:=by
 have z:∀k∈(["boxes","queues","drawn","sent"]:List Str),(x==k)=false:=fun k hk=>beq_eq_false_iff_ne.mpr fun e=>by
  rw[e,qj.mpr hk]at hx
  cases hx
 rw[BO,kE (z _ (by simp)),kE (z _ (by simp)),kE (z _ (by simp)),kE (z _ (by simp))];rfl
theorem FK(b q d e:V):(qE b q d e).length<1000:=by
 show 4<1000;decide
theorem MZ(m h:V)(st Y od:ae)(en:Bool)(W Z:ae):(dF m h st Y od en W Z).length<1000:=by show 8<1000;decide
structure Lay where
 d:ae
 dx:ae
 st:ae
 dxs:ae
 bd:ae
 qd:ae
 wd:ae
 od:ae
 rd:ae
 ud:ae
 m:V
 hv:V
 qa:List (Str×ae)
def Lay.all(L:Lay):List ae:=L.d::L.st::L.bd::L.qd::L.wd::L.od::L.rd::L.ud::L.qa.map (·.2)
def eN(G:Hp):List (Str×ae)->List (Str×List Int)->Prop:=aO fun p q=>p.1=q.1/\G p.2=Z8 (.lst (q.2.map V.int))
structure m5(bs qs:List Str)(w:Wk):Prop where
 kb:w.bx.map (·.1)=bs
 kq:w.qu.map (·.1)=qs
 nb:bs.Nodup
 nq:qs.Nodup
 wb:∀p∈w.bx,Wo p.2
 wq:∀p∈w.qu,p.2.length<=30/\∀n∈p.2,Wo n
 nw:w.wr.Nodup
 sw:∀x∈w.wr,x∈bs++qs
 nu:w.qn.Nodup
 su:∀x∈w.qn,x∈bs++qs
 wo:∀e∈w.out,Wo e.a/\Wo e.b
 fw:(bs++qs).length<100
structure Dg(CD CS:ae)(bs qs:List Str)(H0 G:Hp)(L:Lay)(h:Ev)(ds:List Int)(w:Wk):Prop where
 sm:bN H0 G
 hd:G L.d=Z8 (.ins CD L.dx (dF L.m L.hv L.st L.wd L.od w.en L.rd L.ud))
 hst:G L.st=Z8 (.ins CS L.dxs (qE (.ref L.bd) (.ref L.qd) (.int w.dr) (.int w.se)))
 hb:G L.bd=Z8 (.dK (boK w.bx))
 hq:G L.qd=Z8 (.dK (quK L.qa))
 hl:eN G L.qa w.qu
 hw:G L.wd=Z8 (.dK (wrK w.wr))
 ho:∃vs,G L.od=Z8 (.lst vs)/\aO (fH G) vs w.out
 hr:∃rs,G L.rd=Z8 (.lst rs)/\aO (FmI bs qs H0) rs w.rk
 hu:G L.ud=Z8 (.dK (wrK w.qn))
 hh:fH H0 L.hv h
 hm:∃t x1 x2 x3 x4 dl,L.m=.ref t/\H0 t=Z8 (.tup [x1,x2,x3,.ref dl,x4])/\H0 dl=Z8 (.lst (ds.map V.int))
 nd:L.all.Nodup
 fr:∀a∈L.all,H0 a=Z7
 ok:m5 bs qs w
 wt:Wo h.t
 wa:Wo h.a
 wb:Wo h.b
section
variable{CD CS:ae}{bs qs:List Str}{H0 G G':Hp}{L:Lay}{h:Ev}{ds:List Int}{w:Wk}
theorem eN.keep(k:∀a u,G a=Z8 u->a∈L.qa.map (·.2)->G' a=Z8 u){Z:List (Str×ae)}{qu:List (Str×List Int)}(sub:∀p∈Z,p∈L.qa)(q:eN G Z qu):eN G' Z qu:=by
 induction q with
 |nil=>exact .nil
 |cons a _ Y=>exact .cons {a.1,k _ _ a.2 (cD.mpr {_,sub _ ax,Z9})} (Y fun p hp=>sub p (aa _ hp))
theorem Paired.mono{Z Y:Type}{R S:Z->Y->Prop}(f:∀a b,R a b->S a b){xs:List Z}{ys:List Y}(r:aO R xs ys):aO S xs ys:=L2.Paired.imp' f r
theorem Dg.same(g:Dg CD CS bs qs H0 G L h ds w)(s:bN G G'):Dg CD CS bs qs H0 G' L h ds w:=by
 obtain⟨vs,V,Y⟩:=g.ho;obtain⟨rs,Z,W⟩:=g.hr;exact{g.sm.trans s,s _ _ g.hd,s _ _ g.hst,s _ _ g.hb,s _ _ g.hq,g.hl.keep (fun a u e _=>s _ _ e) (fun _ hp=>hp),s _ _ g.hw,{vs,s _ _ V,Paired.mono (fun _ _ z=>z.same s) Y},{rs,s _ _ Z,W},s _ _ g.hu,g.hh,g.hm,g.nd,g.fr,g.ok,g.wt,g.wa,g.wb}
structure Lay.Ne(L:Lay):Prop where
 ds:L.d≠L.st
 db:L.d≠L.bd
 dq:L.d≠L.qd
 dw:L.d≠L.wd
 do_:L.d≠L.od
 dr:L.d≠L.rd
 du:L.d≠L.ud
 dl:∀a∈L.qa.map (·.2),L.d≠a
 sb:L.st≠L.bd
 sq:L.st≠L.qd
 sw:L.st≠L.wd
 so:L.st≠L.od
 sr:L.st≠L.rd
 su:L.st≠L.ud
 sl:∀a∈L.qa.map (·.2),L.st≠a
 bq:L.bd≠L.qd
 bw:L.bd≠L.wd
 bo:L.bd≠L.od
 br:L.bd≠L.rd
 bu:L.bd≠L.ud
 bl:∀a∈L.qa.map (·.2),L.bd≠a
 qw:L.qd≠L.wd
 qo:L.qd≠L.od
 qr:L.qd≠L.rd
 qu:L.qd≠L.ud
 ql:∀a∈L.qa.map (·.2),L.qd≠a
 wo:L.wd≠L.od
 wr:L.wd≠L.rd
 wu:L.wd≠L.ud
 wl:∀a∈L.qa.map (·.2),L.wd≠a
 or:L.od≠L.rd
 ou:L.od≠L.ud
 ol:∀a∈L.qa.map (·.2),L.od≠a
 ru:L.rd≠L.ud
 rl:∀a∈L.qa.map (·.2),L.rd≠a
 ul:∀a∈L.qa.map (·.2),L.ud≠a
 ll:(L.qa.map (·.2)).Nodup
theorem Lay.ne(W:L.all.Nodup):L.Ne:=by
 have cut:∀{a:ae} {xs:List ae},(a::xs).Nodup->(∀b∈xs,a≠b)/\xs.Nodup:=fun {a xs} z=>by
  obtain⟨U,V⟩:=cu.mp z;exact{fun b hb e=>U (e ▸ hb),V}
 obtain⟨a1,W⟩:=cut W;obtain⟨a2,W⟩:=cut W;obtain⟨a3,W⟩:=cut W;obtain⟨a4,W⟩:=cut W;obtain⟨a5,W⟩:=cut W;obtain⟨a6,W⟩:=cut W;obtain⟨a7,W⟩:=cut W;obtain⟨a8,W⟩:=cut W;have Y:∀{b:ae} {xs:List ae},b∈b::xs:=ax;have Z:∀{a b:ae} {xs:List ae},b∈xs->b∈a::xs:=fun z=>aa _ z;exact{a1 _ Y,a1 _ (Z Y),a1 _ (Z (Z Y)),a1 _ (Z (Z (Z Y))),a1 _ (Z (Z (Z (Z Y)))),a1 _ (Z (Z (Z (Z (Z Y))))),a1 _ (Z (Z (Z (Z (Z (Z Y)))))),fun a ha=>a1 _ (Z (Z (Z (Z (Z (Z (Z ha))))))),a2 _ Y,a2 _ (Z Y),a2 _ (Z (Z Y)),a2 _ (Z (Z (Z Y))),a2 _ (Z (Z (Z (Z Y)))),a2 _ (Z (Z (Z (Z (Z Y))))),fun a ha=>a2 _ (Z (Z (Z (Z (Z (Z ha)))))),a3 _ Y,a3 _ (Z Y),a3 _ (Z (Z Y)),a3 _ (Z (Z (Z Y))),a3 _ (Z (Z (Z (Z Y)))),fun a ha=>a3 _ (Z (Z (Z (Z (Z ha))))),a4 _ Y,a4 _ (Z Y),a4 _ (Z (Z Y)),a4 _ (Z (Z (Z Y))),fun a ha=>a4 _ (Z (Z (Z (Z ha)))),a5 _ Y,a5 _ (Z Y),a5 _ (Z (Z Y)),fun a ha=>a5 _ (Z (Z (Z ha))),a6 _ Y,a6 _ (Z Y),fun a ha=>a6 _ (Z (Z ha)),a7 _ Y,fun a ha=>a7 _ (Z ha),fun a ha=>a8 _ ha,W}
theorem iA{a:ae}{o:HO}(Z:∀xs,G a≠Z8 (.tup xs)){vs:List V}{es:List Ev}(r:aO (fH G) vs es):aO (fH (upd G a o)) vs es:=
 Paired.mono (fun v e z=>by
  obtain⟨t,k,Y,h1,h2⟩:=z;refine{t,k,Y,?_,?_}
  ·rw[aW fun y=>Z _ (by rw[<- y];exact h1)];exact h1
  ·rw[aW fun y=>Z _ (by rw[<- y];exact h2)];exact h2) r
theorem Dg.sm_upd(g:Dg CD CS bs qs H0 G L h ds w){a:ae}(ha:a∈L.all)(o:HO):bN H0 (upd G a o):=fun b u e=>by
 rw[aW (ay e (g.fr a ha))];exact g.sm _ _ e
theorem in_d:L.d∈L.all:=ax
theorem KZ:L.st∈L.all:=aa _ ax
theorem K0:L.bd∈L.all:=aa _ (aa _ ax)
theorem in_qd:L.qd∈L.all:=aa _ (aa _ (aa _ ax))
theorem in_wd:L.wd∈L.all:=aa _ (aa _ (aa _ (aa _ ax)))
theorem K1:L.od∈L.all:=aa _ (aa _ (aa _ (aa _ (aa _ ax))))
theorem in_rd:L.rd∈L.all:=aa _ (aa _ (aa _ (aa _ (aa _ (aa _ ax)))))
theorem in_ud:L.ud∈L.all:=aa _ (aa _ (aa _ (aa _ (aa _ (aa _ (aa _ ax))))))
theorem in_l{a:ae}(h:a∈L.qa.map (·.2)):a∈L.all:=aa _ (aa _ (aa _ (aa _ (aa _ (aa _ (aa _ (aa _ h)))))))
theorem aN{o o':HO}{a b:ae}(e:G a=Z8 o)(n:a≠b):upd G b o' a=Z8 o:=by rw[aW n];exact e
theorem iB{o:HO}{a:ae}(e:G a=Z8 o)(n:∀xs,o≠.tup xs):∀xs,G a≠Z8 (.tup xs):=by
 simp_all
theorem Dg.box(g:Dg CD CS bs qs H0 G L h ds w){x:Str}{n:Int}(W:Wo n):Dg CD CS bs qs H0 (upd G L.bd (.dK (boK (jQ w.bx x n)))) L h ds {w with bx:=jQ w.bx x n}:=by
 have N:=Lay.ne g.nd;obtain⟨vs,J,D⟩:=g.ho;obtain⟨rs,I,t⟩:=g.hr;refine{g.sm_upd K0 _,aN g.hd N.db,aN g.hst N.sb,ak,aN g.hq N.bq.symm,g.hl.keep (fun a u e m=>aN e (N.bl a m).symm) (fun _ hp=>hp),aN g.hw N.bw.symm,{vs,aN J N.bo.symm,iA (iB g.hb (fun _ z=>by cases z)) D},{rs,aN I N.br.symm,t},aN g.hu N.bu.symm,g.hh,g.hm,g.nd,g.fr,?_,g.wt,g.wa,g.wb};obtain⟨V,R,E,M,Z,Y,f,B,U,su,O,fw⟩:=g.ok;refine{(qi _ _ _).trans V,R,E,M,fun p hp=>?_,Y,f,B,U,su,O,fw}
 rcases rR hp with z|z
 ·exact Z p z
 ·rw[z];exact W
theorem mT{xs:List Str}{x:Str}(h:xs.Nodup):(iq xs x).Nodup:=by
 unfold iq
 by_cases c:x∈xs
 ·simp_all
 ·rw[if_neg c];refine eR.mpr {h,by simp,fun a ha b hb=>?_};rw[aD.mp hb];exact fun z=>c (z ▸ ha)
theorem kF{xs:List Str}{x y:Str}(h:y∈iq xs x):y∈xs\/y=x:=by
 unfold iq at h
 by_cases c:x∈xs
 ·rw[if_pos c]at h;exact .inl h
 ·simp_all
theorem FL{xs:List Str}:∀{ys:List Str},xs.Nodup->(∀x∈xs,x∈ys)->xs.length<=ys.length:=by
 induction xs with
 |nil=>intro ys _ _;exact bE _
 |cons x xs Z=>
  intro ys W s;obtain⟨V,Y⟩:=cu.mp W;have hx:=s x ax;have:=Z (ys:=ys.erase x) Y fun z hz=>(List.mem_erase_of_ne (fun e=>V (by rw[<- e];exact hz))).mpr (s z (aa _ hz));rw[List.length_erase_of_mem hx]at this;have:=List.length_pos_of_mem hx;rw[cw]
  lia
theorem m5.few(k:m5 bs qs w):w.wr.length<100:=fY (FL k.nw k.sw) k.fw
theorem m5.few2(k:m5 bs qs w):w.qn.length<100:=fY (FL k.nu k.su) k.fw
theorem BP(xs:List Str):(wrK xs).length=xs.length:=ai _
theorem dW:1000<aG:=by decide
theorem Dg.wrote(g:Dg CD CS bs qs H0 G L h ds w){x:Str}(hx:x∈bs++qs):Dg CD CS bs qs H0 (upd G L.wd (.dK (wrK (iq w.wr x)))) L h ds {w with wr:=iq w.wr x}:=by
 have N:=Lay.ne g.nd;obtain⟨vs,M,E⟩:=g.ho;obtain⟨rs,J,B⟩:=g.hr;refine{g.sm_upd in_wd _,aN g.hd N.dw,aN g.hst N.sw,aN g.hb N.bw,aN g.hq N.qw,g.hl.keep (fun a u e m=>aN e (N.wl a m).symm) (fun _ hp=>hp),ak,{vs,aN M N.wo.symm,iA (iB g.hw (fun _ z=>by cases z)) E},{rs,aN J N.wr.symm,B},aN g.hu N.wu.symm,g.hh,g.hm,g.nd,g.fr,?_,g.wt,g.wa,g.wb};obtain⟨V,W,I,O,Z,Y,t,D,U,f,R,fw⟩:=g.ok;refine{V,W,I,O,Z,Y,mT t,fun y hy=>?_,U,f,R,fw}
 rcases kF hy with z|z
 ·exact D y z
 ·rw[z];exact hx
theorem eN.at_{x:Str}:∀{Z:List (Str×ae)} {qu:List (Str×List Int)},eN G Z qu->x∈qu.map (·.1)->∃l,Z.lookup x=Z8 l/\G l=Z8 (.lst ((ie qu x).map V.int))/\l∈Z.map (·.2)
 |_,_,.nil,m=>by cases m
 |(k,l)::Z,(R,xs)::qu,.cons a b,m=>by
  obtain⟨e,ha⟩:=a;dsimp only at e ha;subst e
  by_cases c:x=k
  ·subst c;refine{l,dJ,?_,ax};unfold ie;rw[dJ];exact ha
  ·have U:x∈qu.map (·.1):=by
    rcases aE.mp m with z|z
    ·exact absurd z c
    ·exact z
   obtain⟨W,h1,h2,Y⟩:=eN.at_ b U;refine{W,?_,?_,aa _ Y}
   ·rw[cM,beq_eq_false_iff_ne.mpr c];exact h1
   ·unfold ie at h2 |-;rw[cM,beq_eq_false_iff_ne.mpr c];exact h2
theorem kH{Z:Type}{x:Str}{a:Z}:∀{ps:List (Str×Z)},ps.lookup x=Z8 a->(x,a)∈ps
 | [],h=>by cases h
 |(k,b)::ps,h=>by
  by_cases c:x=k
  ·subst c;rw[dJ]at h
   cases h;exact ax
  ·rw[cM,beq_eq_false_iff_ne.mpr c]at h;exact aa _ (kH h)
theorem C9{Z:Type}{x:Str}{n:Z}{ps:List (Str×Z)}(h:x∉ps.map (·.1)):jQ ps x n=ps:=by
 unfold jQ;have:∀p∈ps,(if p.1=x then (p.1,n) else p)=p:=fun p hp=>if_neg fun e=>h (cD.mpr ⟨p,hp,e⟩);rw[jB this];exact List.map_id _
theorem eN.set{x:Str}{l:ae}{ns:List Int}:∀{Z:List (Str×ae)} {qu:List (Str×List Int)},eN G Z qu->(Z.map (·.2)).Nodup->(qu.map (·.1)).Nodup->Z.lookup x=Z8 l->eN (upd G l (.lst (ns.map V.int))) Z (jQ qu x ns)
 |_,_,.nil,_,_,e=>by cases e
 |(k,R)::Z,(I,xs)::qu,.cons a b,U,nk,e=>by
  obtain⟨W,ha⟩:=a;dsimp only at W ha;subst W;obtain⟨Y,J⟩:=cu.mp U;obtain⟨O,M⟩:=cu.mp nk
  by_cases c:x=k
  ·subst c;rw[dJ]at e;injection e with e;subst e;show eN _ _ ((if x=x then (x,ns) else (x,xs))::jQ qu x ns);rw[if_pos rfl,C9 O];refine .cons ⟨Z9,ak⟩ (eN.keep (L:={0,0,0,0,0,0,0,0,0,0,.non,.non,Z}) (fun a u e m=>aN e fun z=>Y (by rw[<- z];exact m)) (fun _ hp=>hp) b)
  ·rw[cM,beq_eq_false_iff_ne.mpr c]at e;show eN _ _ ((if k=x then (k,ns) else (k,xs))::jQ qu x ns);rw[if_neg fun z=>c z.symm];refine .cons {Z9,aN ha fun z=>Y ?_} (eN.set b J M e);rw[show R=l from z];exact cD.mpr {_,kH e,Z9}
theorem Dg.queue(g:Dg CD CS bs qs H0 G L h ds w){x:Str}{l:ae}{ns:List Int}(U:L.qa.lookup x=Z8 l)(len:ns.length<=30)(wn:∀n∈ns,Wo n):Dg CD CS bs qs H0 (upd G l (.lst (ns.map V.int))) L h ds {w with qu:=jQ w.qu x ns}:=by
 have N:=Lay.ne g.nd;have Z:l∈L.qa.map (·.2):=cD.mpr {_,kH U,Z9};refine Z0 fun Gz gz=>?_;obtain⟨vs,M,I⟩:=g.ho;obtain⟨rs,J,r2⟩:=g.hr;obtain⟨kb,R,nb,O,wb,wq,D,E,t,su,wo,B⟩:=g.ok;have Y:∃xs,G l=Z8 (.lst xs):=by
  have key:∀{W:List (Str×ae)} {qu:List (Str×List Int)},eN G W qu->l∈W.map (·.2)->∃xs,G l=Z8 (.lst xs):=fun {W qu} q=>by
   induction q with
   |nil=>intro m;cases m
   |cons a _ f=>
    intro m
    rcases aE.mp m with z|z
    ·rw[z];exact{_,a.2}
    ·exact f z
  exact key g.hl Z
 obtain⟨xs,Y⟩:=Y;refine gz ({g.sm_upd (in_l Z) _,aN g.hd (N.dl l Z),aN g.hst (N.sl l Z),aN g.hb (N.bl l Z),aN g.hq (N.ql l Z),g.hl.set N.ll (R ▸ O) U,aN g.hw (N.wl l Z),{vs,aN M (N.ol l Z),iA (iB Y (fun _ z=>by cases z)) I},{rs,aN J (N.rl l Z),r2},aN g.hu (N.ul l Z),g.hh,g.hm,g.nd,g.fr,{kb,(qi _ _ _).trans R,nb,O,wb,fun p hp=>?_,D,E,t,su,wo,B},g.wt,g.wa,g.wb})
 rcases rR hp with z|z
 ·exact wq p z
 ·rw[z];exact⟨len,wn⟩
theorem Dg.counts(g:Dg CD CS bs qs H0 G L h ds w)(dr:Nat)(se:Int):Dg CD CS bs qs H0 (upd G L.st (.ins CS L.dxs (qE (.ref L.bd) (.ref L.qd) (.int dr) (.int se)))) L h ds {w with dr:=dr,se:=se}:=by
 have N:=Lay.ne g.nd;refine Z0 fun Gz Z=>?_;obtain⟨vs,J,D⟩:=g.ho;obtain⟨rs,I,t⟩:=g.hr;obtain⟨U,V,E,M,Y,W,f,B,R,su,O,fw⟩:=g.ok;exact Z ({g.sm_upd KZ _,aN g.hd N.ds,ak,aN g.hb N.sb.symm,aN g.hq N.sq.symm,g.hl.keep (fun a u e m=>aN e (N.sl a m).symm) (fun _ hp=>hp),aN g.hw N.sw.symm,{vs,aN J N.so.symm,iA (iB g.hst (fun _ z=>by cases z)) D},{rs,aN I N.sr.symm,t},aN g.hu N.su.symm,g.hh,g.hm,g.nd,g.fr,⟨U,V,E,M,Y,W,f,B,R,su,O,fw⟩,g.wt,g.wa,g.wb})
theorem Dg.sent(g:Dg CD CS bs qs H0 G L h ds w){vs:List V}{v:V}{e:Ev}(Y:G L.od=Z8 (.lst vs))(he:fH G v e)(W:Wo e.a/\Wo e.b):Dg CD CS bs qs H0 (upd G L.od (.lst (vs++[v]))) L h ds {w with out:=w.out++[e]}:=by
 have N:=Lay.ne g.nd;obtain⟨bn,Z,R⟩:=g.ho;obtain⟨rs,U,t⟩:=g.hr;rw[Y]at Z
 cases dy Z;obtain⟨B,kq,nb,nq,f,D,M,O,I,E,wo,J⟩:=g.ok;exact{g.sm_upd K1 _,aN g.hd N.do_,aN g.hst N.so,aN g.hb N.bo,aN g.hq N.qo,g.hl.keep (fun a u e m=>aN e (N.ol a m).symm) (fun _ hp=>hp),aN g.hw N.wo,{_,ak,iA (iB Y (fun _ z=>by cases z)) (cS R he)},{rs,aN U N.or.symm,t},aN g.hu N.ou.symm,g.hh,g.hm,g.nd,g.fr,{B,kq,nb,nq,f,D,M,O,I,E,fun x hx=>(bY.mp hx).elim (wo x) fun z=>by rw[aD.mp z];exact W,J},g.wt,g.wa,g.wb}
theorem Dg.ended(g:Dg CD CS bs qs H0 G L h ds w):Dg CD CS bs qs H0 (upd G L.d (.ins CD L.dx (dF L.m L.hv L.st L.wd L.od true L.rd L.ud))) L h ds {w with en:=true}:=by
 have N:=Lay.ne g.nd;refine Z0 fun Gz Z=>?_;obtain⟨vs,J,D⟩:=g.ho;obtain⟨rs,I,t⟩:=g.hr;obtain⟨U,V,E,M,Y,W,f,B,R,su,O,fw⟩:=g.ok;exact Z ({g.sm_upd in_d _,ak,aN g.hst N.ds.symm,aN g.hb N.db.symm,aN g.hq N.dq.symm,g.hl.keep (fun a u e m=>aN e (N.dl a m).symm) (fun _ hp=>hp),aN g.hw N.dw.symm,{vs,aN J N.do_.symm,iA (iB g.hd (fun _ z=>by cases z)) D},{rs,aN I N.dr.symm,t},aN g.hu N.du.symm,g.hh,g.hm,g.nd,g.fr,⟨U,V,E,M,Y,W,f,B,R,su,O,fw⟩,g.wt,g.wa,g.wb})
theorem Dg.reckoned(g:Dg CD CS bs qs H0 G L h ds w){rs:List V}{v:V}{F:Fm}(Y:G L.rd=Z8 (.lst rs))(E:FmI bs qs H0 v F):Dg CD CS bs qs H0 (upd G L.rd (.lst (rs++[v]))) L h ds {w with rk:=w.rk++[F]}:=by
 have N:=Lay.ne g.nd;obtain⟨vs,W,U⟩:=g.ho;obtain⟨D,Z,f⟩:=g.hr;rw[Y]at Z
 cases dy Z;obtain⟨t,kq,nb,nq,wb,B,O,R,J,I,wo,M⟩:=g.ok;exact{g.sm_upd in_rd _,aN g.hd N.dr,aN g.hst N.sr,aN g.hb N.br,aN g.hq N.qr,g.hl.keep (fun a u e m=>aN e (N.rl a m).symm) (fun _ hp=>hp),aN g.hw N.wr,{vs,aN W N.or,iA (iB Y (fun _ z=>by cases z)) U},{_,ak,cS f E},aN g.hu N.ru.symm,g.hh,g.hm,g.nd,g.fr,⟨t,kq,nb,nq,wb,B,O,R,J,I,wo,M⟩,g.wt,g.wa,g.wb}
theorem Dg.queued(g:Dg CD CS bs qs H0 G L h ds w){x:Str}(hx:x∈bs++qs):Dg CD CS bs qs H0 (upd G L.ud (.dK (wrK (iq w.qn x)))) L h ds {w with qn:=iq w.qn x}:=by
 have N:=Lay.ne g.nd;obtain⟨vs,M,E⟩:=g.ho;obtain⟨rs,J,B⟩:=g.hr;obtain⟨V,W,I,O,Z,Y,t,D,U,f,R,fw⟩:=g.ok;refine{g.sm_upd in_ud _,aN g.hd N.du,aN g.hst N.su,aN g.hb N.bu,aN g.hq N.qu,g.hl.keep (fun a u e m=>aN e (N.ul a m).symm) (fun _ hp=>hp),aN g.hw N.wu,{vs,aN M N.ou,iA (iB g.hu (fun _ z=>by cases z)) E},{rs,aN J N.ru,B},ak,g.hh,g.hm,g.nd,g.fr,{V,W,I,O,Z,Y,t,D,mT U,fun y hy=>?_,R,fw},g.wt,g.wa,g.wb}
 rcases kF hy with z|z
 ·exact f y z
 ·rw[z];exact hx
theorem xY{x:Str}{ps:List (Str×Int)}(m:x∈ps.map (·.1)):kP (boK ps) (Sum.inr x)=Z8 (.int (qU ps x)):=by
 obtain⟨a,h1,_⟩:=nV m;have z:=qh V.int x ps;rw[h1]at z;unfold qU;rw[h1];exact z
theorem uU{x:Str}{l:ae}{Z:List (Str×ae)}(m:Z.lookup x=Z8 l):kP (quK Z) (Sum.inr x)=Z8 (.ref l):=by
 have z:=qh V.ref x Z;rw[m]at z;exact z
theorem BQ{x:Str}(k:m5 bs qs w)(m:x∈bs):Wo (qU w.bx x):=by
 obtain⟨a,h1,h2⟩:=nV (k.kb ▸ m);unfold qU;rw[h1];exact k.wb _ h2
theorem qm{x:Str}(k:m5 bs qs w)(m:x∈qs):(ie w.qu x).length<=30/\∀n∈ie w.qu x,Wo n:=by
 obtain⟨a,h1,h2⟩:=nV (k.kq ▸ m);unfold ie;rw[h1];exact k.wq _ h2
theorem Dg.asks(g:Dg CD CS bs qs H0 G L h ds w):(iz h w).Ok bs qs:=
 ⟨fun x m=>BQ g.ok m,fun x m=>by
  have:=(qm g.ok m).1;show (ie w.qu x).length<=1000
  lia,g.wa,g.wb,g.wt⟩
theorem Dg.holds{K:af}(g:Dg CD CS bs qs H0 G L h ds w){Z:ae}(Y:G Z=Z8 (.lst [.int h.a,.int h.b])):Holds K CS bs qs G L.st Z (iz h w):=
 ⟨⟨L.dxs,L.bd,L.qd,_,_,_,g.hst,C8 _ _ _ _,FG _ _ _ _,g.hb,g.hq,fun x m=>xY (g.ok.kb ▸ m),fun x m=>by
  obtain⟨l,h1,h2,_⟩:=g.hl.at_ (g.ok.kq ▸ m);exact{l,_,uU h1,h2,ai _}⟩,Y⟩
end
end My
namespace L2
open PySem
theorem tj.own{X:Cx}{E:XK}(hb:tj X E):PassesOwn (bR X.prog X.w) X.A X.env X.xe:=by
 rw[hb.xe];exact PassesOwn.leaving
end L2
namespace My
open PySem L2
structure Mt(K:af)(C:ae)(x qual:Str)(st:c9)(ps:List Str)(f:ae)(fd:cm):Prop where
 F:Fun K x qual st f fd
 b:Binds K fd ps []
 m:xr K C x f
structure FM(K:af)(mg:Str->Option aj)(cf:Flt->ae):Prop where
 two:Fts K mg (cf .nought) (cf .great)
 mF:mg "Full"=Z8 (.ref (cf .full))
 mD:mg "Dry"=Z8 (.ref (cf .dry))
 mS:mg "Span"=Z8 (.ref (cf .span))
 mL:mg "Late"=Z8 (.ref (cf .late))
 xF:dN K (cf .full) rH "ValueError.__new__"=true
 xD:dN K (cf .dry) rH "ValueError.__new__"=true
 xS:dN K (cf .span) rH "ValueError.__new__"=true
 xL:dN K (cf .late) rH "ValueError.__new__"=true
def sO(cf:Flt->ae)(Y:Wk->Hp->Prop)(H0:Hp)(n:Nat)(r:Except Flt Wk)(Q:VK)(E:XK):Prop:=match r with
 |.ok Z=>∀G',Y Z G'->Z.len<=n->Q .non G'
 |.error e=>∀G',bN H0 G'->E (.ref (cf e)) Z7 G'
theorem lY{cf:Flt->ae}{Y:Wk->Hp->Prop}{H0 G':Hp}{n:Nat}{h:Ev}{w:Wk}{f:Fm}{k:Wk->Int->Except Flt Wk}{Z Q:VK}{E:XK}(p:sO cf Y H0 n (rck h w f k) Z E)(s:bN H0 G')
  (hq:∀r,ev (iz h w) f=.ok r->sO cf Y H0 n (k {w with rk:=w.rk++[f]} r) Z E->Q (.int r) G'):wW (cf .nought) (cf .great) (ev (iz h w) f) Q E G':=by
 unfold rck at p
 cases e:ev (iz h w) f with
 |ok r=>
  rw[e]at p;exact hq r e p
 |nought=>
  rw[e]at p;exact p G' s
 |great=>
  rw[e]at p;exact p G' s
theorem AM{w:Wk}{F:Fm}:w.out.length+(w.rk++[F]).length<=w.len+4:=by
 rw[aB];show _+(_+1)<=w.out.length+w.rk.length+4
 lia
theorem Jh{w:Wk}{F F1 F2:Fm}{e:Ev}:(w.out++[e]).length+(w.rk++[F]++[F1]++[F2]).length<=w.len+4:=by
 rw[aB,aB,aB,aB];show _+1+(_+1+1+1)<=w.out.length+w.rk.length+4
 lia
theorem BR{x:Str}{n:Int}{ps:List (Str×Int)}(m:x∈ps.map (·.1)):jU (boK ps) (Sum.inr x) (.int n)=boK (jQ ps x n):=by
 obtain⟨a,h1,_⟩:=nV m;exact Jf V.int x n (by rw[h1];rfl)
theorem xZ(ps:List (Str×Int)):(boK ps).length=ps.length:=ai _
section
variable{CD CS:ae}{bs qs:List Str}{H0 G G':Hp}{L:Lay}{h:Ev}{ds:List Int}{w:Wk}
theorem Dg.few(g:Dg CD CS bs qs H0 G L h ds w):(boK w.bx).length<aG/\(wrK w.wr).length<aG:=by
 have:=g.ok.few;have:=g.ok.fw;have:=dW;rw[xZ,BP];have e:=congrArg jK g.ok.kb;rw[ai]at e;rw[aB]at *
 lia
theorem Dg.putB(g:Dg CD CS bs qs H0 G L h ds w){x:Str}{n:Int}(m:x∈bs):pJ G L.bd (.str x) (.int n) (upd G L.bd (.dK (boK (jQ w.bx x n)))):=by
 have z:=pJ.k (k:=Sum.inr x) (v:=.int n) g.hb g.few.1;rw[BR (g.ok.kb ▸ m)]at z;exact z
theorem Dg.putW(g:Dg CD CS bs qs H0 G L h ds w)(x:Str):pJ G L.wd (.str x) (.bl true) (upd G L.wd (.dK (wrK (iq w.wr x)))):=by
 have z:=pJ.k (k:=Sum.inr x) (v:=.bl true) g.hw g.few.2;rw[BN]at z;exact z
theorem Dg.putU(g:Dg CD CS bs qs H0 G L h ds w)(x:Str):pJ G L.ud (.str x) (.bl true) (upd G L.ud (.dK (wrK (iq w.qn x)))):=by
 have z:=pJ.k (k:=Sum.inr x) (v:=.bl true) g.hu (by
  have:=g.ok.few2;have:=dW;rw[BP]
  lia)
 rw[BN]at z;exact z
theorem Dg.getL(g:Dg CD CS bs qs H0 G L h ds w){x:Str}(m:x∈qs):∃l,L.qa.lookup x=Z8 l/\G l=Z8 (.lst ((ie w.qu x).map V.int))/\nr G L.qd (.str x) (Z8 (.ref l)):=by
 obtain⟨l,h1,h2,_⟩:=g.hl.at_ (g.ok.kq ▸ m);refine{l,h1,h2,?_};have z:=nr.k (k:=Sum.inr x) g.hq;rw[uU h1]at z;exact z
end
section
variable{P:aQ}{w:bU}{K:af}{mg:Str->Option aj}{base:cG}{f fN fR fF fW fT fD fL fQ CD CS CM:ae}{fd fdN fdR fdF fdW fdT fdD fdL fdQ:cm}{cf:Flt->ae}{bs qs:List Str}
inductive FN(CD CS:ae)(bs qs:List Str)(vs:List V)(H:Hp)(Q:VK)(_e:XK):Prop where
 |mk(H0:Hp)(L:Lay)(h:Ev)(ds:List Int)(w:Wk)(_:vs=[.ref L.d])(_:Dg CD CS bs qs H0 H L h ds w)(_:Q (.int h.t) H):FN CD CS bs qs vs H Q _e
def FO(CD CS:ae)(bs qs:List Str):Sp:=fun vs H Q Z=>FN CD CS bs qs vs H Q Z
theorem scNw:bX ["self"] ["self"] (aT jF):=eQ
theorem FP(M:Mt K CD "now" "Doing.now" jF ["self"] f fd)(T:DT K mg CD):cg P w K mg base CX0 1 f fd ["self"] (FO CD CS bs qs):=by
 refine M.F.ok scNw (fun vs H Q E h=>?_) (fun Z A outer s H vs Q E Y h=>?_)
 ·obtain⟨H0,L,e,ds,w,rfl,_⟩:=h;rfl
 obtain⟨H0,L,e,ds,w,rfl,g,q⟩:=h;obtain⟨t,k,ev,h1,h2⟩:=g.hh;exact{_,aA (bD (aP aY (aP aY (cK (pv 0) rfl) ah) ah)),{_,Z9,L.d,CD,L.dx,_,_,Z9,g.hd,T.cl,T.nH,Jg _ _ _ _ _ _ _ _,t,_,_,_,ev,Z9,SqT.of (g.sm _ _ h1),Z9,k,_,_,_,Z9,Z9,SqT.of (g.sm _ _ h2),Z9,q}}
inductive BU(cf:Flt->ae)(CD CS:ae)(bs qs:List Str)(vs:List V)(H:Hp)(Q:VK)(E:XK):Prop where
 |mk(H0:Hp)(L:Lay)(h:Ev)(ds:List Int)(w:Wk)(v:V)(F:Fm)(_:vs=[.ref L.d,v])(_:Dg CD CS bs qs H0 H L h ds w)(_:FmI bs qs H0 v F)(_:w.len<400000)(_:∀G',Dg CD CS bs qs H0 G' L h ds {w with rk:=w.rk++[F]}->wW (cf .nought) (cf .great) (ev (iz h w) F) Q E G'):BU cf CD CS bs qs vs H Q E
def sP(cf:Flt->ae)(CD CS:ae)(bs qs:List Str):Sp:=fun vs H Q E=>BU cf CD CS bs qs vs H Q E
theorem scRk:bX ["self","formula"] ["self","formula"] (aT fh):=eQ
theorem uk(M:Mt K CD "reckon" "Doing.reckon" fh ["self","formula"] f fd)(O:Mt K CD "now" "Doing.now" jF ["self"] fN fdN)(V:Df K mg "worth_of" lS ["formula","state","now","got"] fW fdW)(R:Df K mg "number_of_two" gW ["kind","first","second"] fT fdT)(DD:Df K mg "number_of_division" eg ["kind","first","second"] fD fdD)
  (DL:Df K mg "number_of_leaf" gD ["formula","state","now","got"] fL fdL) (T:DT K mg CD) (TF:FM K mg cf) (TM:MdT K mg CM CS) (B:Bl mg):cg P w K mg base (CXo P w) 18 f fd ["self","formula"] (sP cf CD CS bs qs):=by
 have GN:cg P w K mg base CX0 1 fN fdN ["self"] (FO CD CS bs qs):=FP O T;have GW:cg P w K mg base (CXo P w) 17 fW fdW ["formula","state","now","got"] (FC K CS (cf .nought) (cf .great) bs qs 15):=KW V R DD DL TF.two TM B 15;refine M.F.okX scRk (fun vs H Q E h=>?_) (fun bn A outer s H vs Q E I h=>?_)
 ·obtain⟨H0,L,e,ds,w,v,F,rfl,_⟩:=h;rfl
 refine Z0 fun Gz gz=>?_;obtain⟨H0,L,e,ds,w,v,F,rfl,g,U,D,q⟩:=h;obtain⟨t,k,J,h1,h2⟩:=g.hh;obtain⟨rs,Y,r2⟩:=g.hr;refine gz ?_;have Z:=g.reckoned Y U;refine{_,ag (cV (ia aL bA bC dI (cK (pv 0) rfl) (aq (pv 1) ao))) (aA (bD (iy GW I rfl V.m V.F.kp V.b .nil (dU.passes fun _ _ _ z=>z) (aq (pv 1) (aq (cK (pv 0) rfl) (aq (rB (pv 0) T.cl O.m GN (I.mono (by lia)) O.b .nil jM) (aq (dO (aq (aP aY (cK (pv 0) rfl) ah) (aq (aP aY (cK (pv 0) rfl) ah) ao))) ao))))))),?_};have rl:rs.length<aG:=by
  have z:=aM r2;have:400000<aG:=by decide
  have:w.out.length+w.rk.length<400000:=D
  lia
 refine{_,Z9,L.d,CD,L.dx,_,_,Z9,g.hd,T.cl,T.nR,dF_r _ _ _ _ _ _ _ _,.inl {Z9,_,SqL.of Y},_,Z9,L.rd,_,_,Z9,Z9,Y,rl,{_,Z9,_,Z9,L.d,CD,L.dx,_,_,Z9,Z.hd,T.cl,T.nS,vP _ _ _ _ _ _ _ _,{_,Z9,L.d,L.dx,_,Z9,Z.hd,oV _ _ _ _ _ _ _ _ (by decide +kernel),H0,L,e,ds,_,Z9,Z,{_,Z9,L.d,CD,L.dx,_,_,Z9,Z.hd,T.cl,T.nH,Jg _ _ _ _ _ _ _ _,t,_,_,_,J,Z9,SqT.of (Z.sm _ _ h1),Z9,{_,Z9,L.d,CD,L.dx,_,_,Z9,Z.hd,T.cl,T.nH,Jg _ _ _ _ _ _ _ _,t,_,_,_,J,Z9,SqT.of (Z.sm _ _ h1),Z9,{lt2,fun l G=>?_}}}}}};have W:=Z.same (aH G (.lst [.int e.a,.int e.b]));exact{v,F,L.st,l,iz e w,Z9,(U.1.same W.sm),U.2,W.holds ak,W.asks,q _ W}
inductive FQ(CD CS:ae)(bs qs:List Str)(vs:List V)(H:Hp)(Q:VK)(_e:XK):Prop where
 |mk(H0:Hp)(L:Lay)(h:Ev)(ds:List Int)(w:Wk)(x:Str)(_:vs=[.ref L.d,.str x])(_:Dg CD CS bs qs H0 H L h ds w)(_:x∈qs)(_:∀G' l,Dg CD CS bs qs H0 G' L h ds {w with qn:=iq w.qn x}->L.qa.lookup x=Z8 l->G' l=Z8 (.lst ((ie w.qu x).map V.int))->Q (.ref l) G'):FQ CD CS bs qs vs H Q _e
def FR(CD CS:ae)(bs qs:List Str):Sp:=fun vs H Q Z=>FQ CD CS bs qs vs H Q Z
theorem scQo:bX ["self","name"] ["self","name"] (aT eW):=eQ
theorem FS(M:Mt K CD "queue_of" "Doing.queue_of" eW ["self","name"] f fd)(T:DT K mg CD)(Y:MdT K mg CM CS):cg P w K mg base CX0 1 f fd ["self","name"] (FR CD CS bs qs):=by
 refine M.F.ok scQo (fun vs H Q E h=>?_) (fun U A outer s H vs Q E R h=>?_)
 ·obtain⟨H0,L,e,ds,w,x,rfl,_⟩:=h;rfl
 obtain⟨H0,L,e,ds,w,x,rfl,g,hx,q⟩:=h;have hu:=kS R;refine{_,ag (i9 hu (cK (pv 0) rfl) (pv 1) km rfl) (aA (bD (iO hu (cK (cK (pv 0) rfl) rfl) (pv 1)))),?_};have Z:=g.queued (aV _ hx);obtain⟨l,V,O,W⟩:=Z.getL hx;exact{_,Z9,L.d,CD,L.dx,_,_,Z9,g.hd,T.cl,T.nQ,dF_u _ _ _ _ _ _ _ _,_,Z9,L.ud,_,Z9,g.putU x,{_,Z9,L.d,CD,L.dx,_,_,Z9,Z.hd,T.cl,T.nS,vP _ _ _ _ _ _ _ _,L.st,CS,L.dxs,_,_,Z9,Z.hst,Y.clS,Y.nQ,FG _ _ _ _,_,Z9,L.qd,_,Z9,W,q _ l Z V O}}
inductive BV(CD CS:ae)(bs qs:List Str)(vs:List V)(H:Hp)(Q:VK)(_e:XK):Prop where
 |mk(H0:Hp)(L:Lay)(h:Ev)(ds:List Int)(w:Wk)(x:Str)(n:Int)(_:vs=[.ref L.d,.str x,.int n])(_:Dg CD CS bs qs H0 H L h ds w)(_:x∈bs)(_:Wo n)(_:∀G',Dg CD CS bs qs H0 G' L h ds (zt w x n)->Q .non G'):BV CD CS bs qs vs H Q _e
def x5(CD CS:ae)(bs qs:List Str):Sp:=fun vs H Q Z=>BV CD CS bs qs vs H Q Z
theorem scFl:bX ["self","box","worth"] ["self","box","worth"] (aT gY):=eQ
theorem x6(M:Mt K CD "fill" "Doing.fill" gY ["self","box","worth"] f fd)(T:DT K mg CD)(Y:MdT K mg CM CS):cg P w K mg base CX0 1 f fd ["self","box","worth"] (x5 CD CS bs qs):=by
 refine M.F.ok scFl (fun vs H Q E h=>?_) (fun U A outer s H vs Q E V h=>?_)
 ·obtain⟨H0,L,e,ds,w,x,n,rfl,_⟩:=h;rfl
 obtain⟨H0,L,e,ds,w,x,n,rfl,g,hx,W,q⟩:=h;have hu:=kS V;refine{_,ag (i9 hu (cK (cK (pv 0) rfl) rfl) (pv 1) (pv 2) rfl) (aA (i9 hu (cK (pv 0) rfl) (pv 1) km rfl)),?_};have Z:=g.box (x:=x) W;exact{_,Z9,_,Z9,L.d,CD,L.dx,_,_,Z9,g.hd,T.cl,T.nS,vP _ _ _ _ _ _ _ _,L.st,CS,L.dxs,_,_,Z9,g.hst,Y.clS,Y.nB,C8 _ _ _ _,_,Z9,L.bd,_,Z9,g.putB hx,{_,Z9,L.d,CD,L.dx,_,_,Z9,Z.hd,T.cl,T.nW,FE _ _ _ _ _ _ _ _,_,Z9,L.wd,_,Z9,Z.putW x,q _ (Z.wrote (dD _ hx))}}
inductive BX(cf:Flt->ae)(CD CS:ae)(bs qs:List Str)(vs:List V)(H:Hp)(Q:VK)(E:XK):Prop where
 |mk(H0:Hp)(L:Lay)(h:Ev)(ds:List Int)(w:Wk)(x:Str)(v:V)(F:Fm)(_:vs=[.ref L.d,.str x,v])(_:Dg CD CS bs qs H0 H L h ds w)(_:x∈qs)(_:FmI bs qs H0 v F)(_:w.len<400000)(_:sO cf (fun w' G'=>Dg CD CS bs qs H0 G' L h ds w') H0 (w.len+4) (doD h ds (.push x F) w) Q E):BX cf CD CS bs qs vs H Q E
def AN(cf:Flt->ae)(CD CS:ae)(bs qs:List Str):Sp:=fun vs H Q E=>BX cf CD CS bs qs vs H Q E
theorem M3:bX ["doing","name","formula","worth","queue"] ["doing","name","formula"] (aT nG):=eQ
theorem Ji(D:Df K mg "do_push" nG ["doing","name","formula"] f fd)(I:Mt K CD "reckon" "Doing.reckon" fh ["self","formula"] fR fdR)(G:cg P w K mg base (CXo P w) 18 fR fdR ["self","formula"] (sP cf CD CS bs qs))(U:Mt K CD "queue_of" "Doing.queue_of" eW ["self","name"] fQ fdQ)(T:DT K mg CD)(J:FM K mg cf)(TM:MdT K mg CM CS)(B:Bl mg) :
  cg P w K mg base (CXo P w) 19 f fd ["doing","name","formula"] (AN cf CD CS bs qs):=by
 have GQ:cg P w K mg base CX0 1 fQ fdQ ["self","name"] (FR CD CS bs qs):=FS U T TM;refine D.F.okX M3 (fun vs H Q E h=>?_) (fun bi A outer s H vs Q E R h=>?_)
 ·obtain⟨H0,L,e,ds,w,x,v,F,rfl,_⟩:=h;rfl
 obtain⟨H0,L,e,ds,w,x,v,F,rfl,g,hx,M,fw,p⟩:=h;refine⟨_,ag (pst 3 M3 (iN (pv 0) T.cl I.m G R I.b .nil (dU.passes fun _ _ _ z=>z) (aq (pv 2) ao)))
  (ag (pst 4 M3 (iN (pv 0) T.cl U.m GQ (R.mono (by lia)) U.b .nil jM (aq (pv 1) ao)))
  (ag (cC (aZ op_ge (cq gX (by rfl) B.len bO (aq (pv 4) ao)) ah) (aA (lQ dU rfl rfl J.mF J.xF (aq bP ao))) bL)
  (ag (cV (ia aL bA bC dI (pv 4) (aq (pv 3) ao)))
  (aA (i9 (kS R) (cK (pv 0) rfl) (pv 1) km rfl))))),?_⟩
 simp only[doD]at p;refine{_,Z9,L.d,L.dx,_,Z9,g.hd,oV _ _ _ _ _ _ _ _ (by decide +kernel),_,Z9,H0,L,e,ds,w,v,F,Z9,g,M,fw,fun G0 O=>lY p O.sm fun n en p=>?_};dsimp only at p;refine{_,Z9,L.d,L.dx,_,Z9,O.hd,oV _ _ _ _ _ _ _ _ (by decide +kernel),_,Z9,H0,L,e,ds,_,x,Z9,O,hx,fun G1 l Z hl W=>{_,Z9,l,_,Z9,.inl (SqL.of W),_,_,Z9,Z9,_,Z9,gr (fun c=>?_) (fun c=>?_)}}
 ·have c:(30:Int)<=((((ie w.qu x).map V.int).length:Nat):Int):=fK c;rw[ai]at c;rw[if_pos (by lia)]at p;exact{(by decide),p _ Z.sm}
 ·have c:¬(30:Int)<=((((ie w.qu x).map V.int).length:Nat):Int):=gR c;rw[ai]at c;rw[if_neg (by lia)]at p;have Y:=Z.queue (ns:=ie w.qu x++[n]) hl (by rw[aB];simp;lia) (fun m t=>by
   rcases bY.mp t with z|z
   ·exact (qm Z.ok hx).2 m z
   ·rw[aD.mp z];exact (kU Z.asks (M.1.same Z.sm) en))
  have lt:((ie w.qu x).map V.int).length<aG:=by
   rw[ai];have:=dW
   lia
  refine{_,Z9,.inl {Z9,_,SqL.of W},_,Z9,l,_,_,Z9,Z9,W,lt,?_};have eq:(ie w.qu x).map V.int++[V.int n]=(ie w.qu x++[n]).map V.int:=by rw[aU];rfl
  rw[eq];exact{_,Z9,L.d,CD,L.dx,_,_,Z9,Y.hd,T.cl,T.nW,FE _ _ _ _ _ _ _ _,_,Z9,L.wd,_,Z9,Y.putW x,p _ (Y.wrote (aV _ hx)) (AM (w:=w))}
end
theorem zv(ds:List Int)(i:Nat)(h:i<ds.length):(ds.map V.int)[i]?=Z8 (.int (ds.getD i 0)):=by
 simp_all
section
variable{P:aQ}{w:bU}{K:af}{mg:Str->Option aj}{base:cG}{f fN fR fF CD CS CM:ae}{fd fdN fdR fdF:cm}{cf:Flt->ae}{bs qs:List Str}
inductive zw(cf:Flt->ae)(CD CS:ae)(bs qs:List Str)(vs:List V)(H:Hp)(Q:VK)(E:XK):Prop where
 |mk(H0:Hp)(L:Lay)(h:Ev)(ds:List Int)(w:Wk)(x:Str)(v:V)(F:Fm)(_:vs=[.ref L.d,.str x,v])(_:Dg CD CS bs qs H0 H L h ds w)(_:x∈bs)(_:FmI bs qs H0 v F)(_:w.len<400000)(_:sO cf (fun w' G'=>Dg CD CS bs qs H0 G' L h ds w') H0 (w.len+4) (doD h ds (.draw x F) w) Q E):zw cf CD CS bs qs vs H Q E
def x8(cf:Flt->ae)(CD CS:ae)(bs qs:List Str):Sp:=fun vs H Q E=>zw cf CD CS bs qs vs H Q E
theorem Jj:bX ["doing","box","formula","divisor","draws","draw"] ["doing","box","formula"] (aT nJ):=eQ
theorem FT(D:Df K mg "do_draw" nJ ["doing","box","formula"] f fd)(I:Mt K CD "reckon" "Doing.reckon" fh ["self","formula"] fR fdR)(GR:cg P w K mg base (CXo P w) 18 fR fdR ["self","formula"] (sP cf CD CS bs qs))(R:Mt K CD "fill" "Doing.fill" gY ["self","box","worth"] fF fdF)(T:DT K mg CD)(U:FM K mg cf)(W:MdT K mg CM CS)(B:Bl mg) :
  cg P w K mg base (CXo P w) 19 f fd ["doing","box","formula"] (x8 cf CD CS bs qs):=by
 have GF:cg P w K mg base CX0 1 fF fdF ["self","box","worth"] (x5 CD CS bs qs):=x6 R T W;refine D.F.okX Jj (fun vs H Q E h=>?_) (fun bz A outer s H vs Q E J h=>?_)
 ·obtain⟨H0,L,e,ds,w,x,v,F,rfl,_⟩:=h;rfl
 obtain⟨H0,L,e,ds,w,x,v,F,rfl,g,hx,G,fw,p⟩:=h;refine⟨_,ag (pst 3 Jj (iN (pv 0) T.cl I.m GR J I.b .nil (dU.passes fun _ _ _ z=>z) (aq (pv 2) ao)))
  (ag (cC (aZ oQ (pv 3) ah) (aA (lQ dU rfl rfl U.two.mN U.two.xN (aq bP ao))) bL)
  (ag (pst 4 Jj (aP aY (cK (pv 0) rfl) ah))
  (ag (cC (kL (uF (pv 4) (fun _=>rfl))) (aA (lQ dU rfl rfl U.mD U.xD (aq bP ao))) bL)
  (ag (pst 5 Jj (aP cy (pv 4) (cI mV (cK (cK (pv 0) rfl) rfl) (cq gX (by rfl) B.len bO (aq (pv 4) ao)))))
  (ag (vZ (cK (pv 0) rfl) ah EL)
  (aA (cV (iN (pv 0) T.cl R.m GF (J.mono (by lia)) R.b .nil jM (aq (pv 1) (aq (cI mV (pv 5) (pv 3)) ao)))))))))),?_⟩
 simp only[doD]at p;refine{_,Z9,L.d,L.dx,_,Z9,g.hd,oV _ _ _ _ _ _ _ _ (by decide +kernel),_,Z9,H0,L,e,ds,w,v,F,Z9,g,G,fw,fun G1 Z=>lY p Z.sm fun n en p=>{_,Z9,_,_,Z9,Z9,_,Z9,gr (fun c=>?_) (fun c=>?_)}}
 ·rw[if_pos (fK c)]at p;exact{(by show 1<=aG;decide),p _ Z.sm}
 have c:=gR c;rw[if_neg c]at p;refine Z0 fun Gz gz=>?_;obtain⟨t,x1,x2,x3,x4,M,em,hm,hdl⟩:=Z.hm;refine gz ({_,Z9,L.d,CD,L.dx,_,_,Z9,Z.hd,T.cl,T.nM,MU _ _ _ _ _ _ _ _,t,_,_,_,em,Z9,SqT.of (Z.sm _ _ hm),Z9,?_});have Y:=Z.sm _ _ hdl;refine{_,Z9,_,.inl {_,SqL.of Y,Z9},?_}
 cases hds:ds with
 |nil=>
  rw[hds]at p;exact eM ({(by show 1<=aG;decide),p _ Z.sm})
 |cons d0 dr=>
  rw[<- hds];rw[if_neg (by rw[hds];intro z;cases z)]at p;have nb:(!(!(ds.map V.int).isEmpty))=false:=by rw[hds];rfl
  rw[nb];refine dP ?_;have lt:w.dr%ds.length<ds.length:=Nat.mod_lt _ (by rw[hds];exact tT _);have ix:atI (ds.map V.int) ((w.dr:Int)%(((ds.map V.int).length:Nat):Int))=Z8 (.int (ds.getD (w.dr%ds.length) 0)):=by
   rw[ai,<- Jk];exact gy (zv ds _ lt)
  refine{_,Z9,_,Z9,L.d,CD,L.dx,_,_,Z9,Z.hd,T.cl,T.nS,vP _ _ _ _ _ _ _ _,L.st,CS,L.dxs,_,_,Z9,Z.hst,W.clS,W.nD,FH _ _ _ _,_,Z9,M,_,Z9,.inl (SqL.of Y),_,_,Z9,Z9,(by rw[ai];lia),M,_,_,_,Z9,Z9,SqL.of Y,ix,{_,Z9,L.d,CD,L.dx,_,_,Z9,Z.hd,T.cl,T.nS,vP _ _ _ _ _ _ _ _,L.st,CS,L.dxs,_,_,Z9,Z.hst,W.clS,W.nD,FH _ _ _ _,_,_,Z9,Z9,L.dxs,_,Z.hst,FK _ _ _ _,?_}};have O:=Z.counts (w.dr+1) w.se;have wn:Wo n:=kU Z.asks (G.1.same Z.sm) en;have wm:Wo (ds.getD (w.dr%ds.length) 0%n):=by
   have a1:=jI (ds.getD (w.dr%ds.length) 0) (show n≠0 by lia);have a2:=iL (ds.getD (w.dr%ds.length) 0) (show 0<n by lia);unfold Wo at wn |-
   lia
  exact{_,Z9,L.d,L.dx,_,Z9,O.hd,oV _ _ _ _ _ _ _ _ (by decide +kernel),_,Z9,_,Z9,_,Z9,_,_,Z9,Z9,(by lia),H0,L,e,ds,_,x,_,Z9,O,hx,wm,fun G' g3=>p G' g3 (AM (w:=w) (F:=F))}
inductive BY(cf:Flt->ae)(CD CS:ae)(bs qs:List Str)(vs:List V)(H:Hp)(Q:VK)(E:XK):Prop where
 |mk(H0:Hp)(L:Lay)(h:Ev)(ds:List Int)(w:Wk)(t:ae)(u u1 u2:V)(to:Int)(sg:Str)(rk:Int)(F F1 F2:Fm)(_:vs=[.ref L.d,.ref t])(_:Dg CD CS bs qs H0 H L h ds w)(_:H0 t=Z8 (.tup [.str "send",.int to,.str sg,u,.int rk,u1,u2]))(_:FmI bs qs H0 u F)(_:FmI bs qs H0 u1 F1)(_:FmI bs qs H0 u2 F2)(_:w.len+4<400000)(_:sO cf (fun w' G'=>Dg CD CS bs qs H0 G' L h ds w') H0 (w.len+4) (doD h ds (.send to sg F rk F1 F2) w) Q E):BY cf CD CS bs qs vs H Q E
def AO(cf:Flt->ae)(CD CS:ae)(bs qs:List Str):Sp:=fun vs H Q E=>BY cf CD CS bs qs vs H Q E
theorem Da:bX ["doing","deed","span","first","second","when","key"] ["doing","deed"] (aT nK):=eQ
theorem Jl(D:Df K mg "do_send" nK ["doing","deed"] f fd)(R:Mt K CD "reckon" "Doing.reckon" fh ["self","formula"] fR fdR)(GR:cg P w K mg base (CXo P w) 18 fR fdR ["self","formula"] (sP cf CD CS bs qs))(MN:Mt K CD "now" "Doing.now" jF ["self"] fN fdN)(T:DT K mg CD)(TF:FM K mg cf)(TM:MdT K mg CM CS)(B:Bl mg) :
  cg P w K mg base (CXo P w) 19 f fd ["doing","deed"] (AO cf CD CS bs qs):=by
 have GN:cg P w K mg base CX0 1 fN fdN ["self"] (FO CD CS bs qs):=FP MN T;refine D.F.okX Da (fun vs H Q E h=>?_) (fun cj A outer s H vs Q E hr h=>?_)
 ·obtain⟨H0,L,e,ds,w,t,u,u1,u2,to,sg,rk,F,F1,F2,rfl,_⟩:=h;rfl
 obtain⟨H0,L,e,ds,w,t,u,u1,u2,to,sg,rk,F,F1,F2,rfl,g,ht,hF,O,J,lo,p⟩:=h;refine⟨_,ag (pst 2 Da (iN (pv 0) T.cl R.m GR hr R.b .nil (dU.passes fun _ _ _ z=>z) (aq (aP aY (pv 1) ah) ao)))
  (ag (cC (mB (aZ oQ (pv 2) ah) (lE (aZ lI (pv 2) (cI j1 ah ah)))).pt (aA (lQ dU rfl rfl TF.mS TF.xS (aq bP ao))) bL)
  (ag (pst 3 Da (iN (pv 0) T.cl R.m GR hr R.b .nil (dU.passes fun _ _ _ z=>z) (aq (aP aY (pv 1) ah) ao)))
  (ag (pst 4 Da (iN (pv 0) T.cl R.m GR hr R.b .nil (dU.passes fun _ _ _ z=>z) (aq (aP aY (pv 1) ah) ao)))
  (ag (pst 5 Da (cI gj (rB (pv 0) T.cl MN.m GN (hr.mono (by lia)) MN.b .nil jM) (pv 2)))
  (ag (cC (aZ lI (pv 5) (cI j1 ah ah)) (aA (lQ dU rfl rfl TF.mL TF.xL (aq bP ao))) bL)
  (ag (pst 6 Da (cW (aq (pv 5) (aq (aP aY (pv 1) ah) (aq (aP aY (cK (pv 0) rfl) ah) (aq (cK (cK (pv 0) rfl) rfl) ao))))))
  (ag (vZ (cK (pv 0) rfl) ah EL)
  (aA (cV (ia aL bA bC dI (cK (pv 0) rfl) (aq (cW (aq (pv 6) (aq (aP aY (pv 1) ah) (aq (aP aY (pv 1) ah) (aq (pv 3) (aq (pv 4) ao)))))) ao))))))))))),?_⟩
 simp only[doD]at p;have f0:w.len<400000:=by lia
 have f1:Wk.len {w with rk:=w.rk++[F]}<400000:=by
  show w.out.length+(w.rk++[F]).length<400000;rw[aB];have:w.out.length+w.rk.length+4<400000:=lo;show _+(_+1)<_
  lia
 have f2:Wk.len {w with rk:=w.rk++[F]++[F1]}<400000:=by
  show w.out.length+(w.rk++[F]++[F1]).length<400000;rw[aB,aB];have:w.out.length+w.rk.length+4<400000:=lo;show _+(_+1+1)<_
  lia
 have l1:1<=aG:=by decide
 have V:∀{G:Hp},bN H0 G->SqT K G t [.str "send",.int to,.str sg,u,.int rk,u1,u2]:=fun {G} z=>SqT.of (z _ _ ht);refine{_,Z9,L.d,L.dx,_,Z9,g.hd,oV _ _ _ _ _ _ _ _ (by decide +kernel),_,Z9,t,_,_,_,Z9,Z9,V g.sm,Z9,H0,L,e,ds,w,u,F,Z9,g,hF,f0,fun G1 Y=>lY p Y.sm fun n en p=>{_,Z9,_,_,Z9,Z9,_,Z9,gr (fun c=>?_) (fun c=>?_)}}
 ·rw[if_pos (.inl (fK c))]at p;exact eM {l1,p _ Y.sm}
 have c:=gR c;refine{_,Z9,_,_,Z9,Z9,({by decide,by decide,by decide}),_,_,Z9,Z9,_,Z9,gr (fun M=>?_) (fun M=>?_)}
 ·rw[if_pos (.inr (fK M))]at p;exact{l1,p _ Y.sm}
 have M:¬10^6<n:=gR M;rw[if_neg (fun z=>z.elim c M)]at p;refine{_,Z9,L.d,L.dx,_,Z9,Y.hd,oV _ _ _ _ _ _ _ _ (by decide +kernel),_,Z9,t,_,_,_,Z9,Z9,V Y.sm,Z9,H0,L,e,ds,_,u1,F1,Z9,Y,O,f1,fun G2 W=>?_};refine lY p W.sm fun n1 cr p=>?_;refine{_,Z9,L.d,L.dx,_,Z9,W.hd,oV _ _ _ _ _ _ _ _ (by decide +kernel),_,Z9,t,_,_,_,Z9,Z9,V W.sm,Z9,H0,L,e,ds,_,u2,F2,Z9,W,J,f2,fun G3 Z=>?_};refine lY p Z.sm fun n2 cp p=>?_;refine{_,Z9,L.d,L.dx,_,Z9,Z.hd,oV _ _ _ _ _ _ _ _ (by decide +kernel),H0,L,e,ds,_,Z9,Z,_,Z9,_,_,Z9,Z9,?_};refine{_,Z9,_,_,Z9,Z9,({by decide,by decide,by decide}),_,_,Z9,Z9,_,Z9,gr (fun c3=>?_) (fun c3=>?_)}
 ·rw[if_pos (show 10^12<e.t+n from fK c3)]at p;exact{l1,p _ Z.sm}
 rw[if_neg (show ¬10^12<e.t+n from gR c3)]at p;obtain⟨th,kh,eh,h1,h2⟩:=Z.hh;refine{_,Z9,_,Z9,t,_,_,_,Z9,Z9,V Z.sm,Z9,_,Z9,L.d,CD,L.dx,_,_,Z9,Z.hd,T.cl,T.nH,Jg _ _ _ _ _ _ _ _,th,_,_,_,eh,Z9,SqT.of (Z.sm _ _ h1),Z9,_,Z9,L.d,CD,L.dx,_,_,Z9,Z.hd,T.cl,T.nS,vP _ _ _ _ _ _ _ _,L.st,CS,L.dxs,_,_,Z9,Z.hst,TM.clS,TM.nS,FJ _ _ _ _,(by show 4<=aG;decide),fun U hk=>?_};have s4:=aH hk (.tup [.int (e.t+n),.int rk,.int e.to,.int w.se]);have g4:=Z.same s4;refine{_,Z9,L.d,CD,L.dx,_,_,Z9,g4.hd,T.cl,T.nS,vP _ _ _ _ _ _ _ _,L.st,CS,L.dxs,_,_,Z9,g4.hst,TM.clS,TM.nS,FJ _ _ _ _,_,_,Z9,Z9,L.dxs,_,g4.hst,FK _ _ _ _,?_};rw[MY];have I:=g4.counts w.dr (w.se+1);have ck:∀{G:Hp} {o o':HO},G U=Z8 (.tup [.int (e.t+n),.int rk,.int e.to,.int w.se])->G L.st=Z8 o'->(∀xs,o'≠.tup xs)->upd G L.st o U=Z8 (.tup [.int (e.t+n),.int rk,.int e.to,.int w.se]):=fun h1 h2 h3=>aN h1 (jD h1 h2 (fun z=>h3 _ z.symm));have k5:=ck (o:=.ins CS L.dxs (qE (.ref L.bd) (.ref L.qd) (.int w.dr) (.int (w.se+1)))) (ak:upd G3 U _ U=_) g4.hst (fun xs z=>by cases z);obtain⟨vs,o1,o2⟩:=I.ho;refine{_,Z9,L.d,CD,L.dx,_,_,Z9,I.hd,T.cl,T.nO,dF_o _ _ _ _ _ _ _ _,.inl {Z9,_,SqL.of o1},?_};refine{_,Z9,_,Z9,t,_,_,_,Z9,Z9,V I.sm,Z9,_,Z9,t,_,_,_,Z9,Z9,V I.sm,Z9,_,Z9,_,Z9,lt5,fun ev cn=>?_};have s6:=aH cn (.tup [.ref U,.int to,.str sg,.int n1,.int n2]);have g6:=I.same s6;have ol:vs.length<aG:=by
  have:=aM o2;have z:vs.length=w.out.length:=this;have:400000<aG:=by decide
  have:w.out.length+w.rk.length+4<400000:=lo
  lia
 refine{L.od,vs,_,Z9,Z9,s6 _ _ o1,ol,?_};have g7:=g6.sent (v:=.ref ev) (e:={e.t+n,rk,e.to,w.se,to,sg,n1,n2}) (s6 _ _ o1) {ev,U,Z9,ak,s6 _ _ k5} {kU Y.asks (O.1.same Y.sm) cr,kU W.asks (J.1.same W.sm) cp};exact p _ g7 (Jh (w:=w) (F:=F) (F1:=F1) (F2:=F2))
end
mutual
def Dd.size:Dd->Nat
 |.pull _ _ o=>o.size+1
 |.ife _ t e=>t.size+e.size+1
 |_=>1
def Ds.size:Ds->Nat
 |.nil=>0
 |.cons d r=>d.size+r.size
end
theorem sO.le{cf:Flt->ae}{Z:Wk->Hp->Prop}{H0:Hp}{m n:Nat}{r:Except Flt Wk}{Q:VK}{E:XK}(p:sO cf Z H0 n r Q E)(h:m<=n):sO cf Z H0 m r Q E:=by
 cases r with
 |ok w=>exact fun G g l=>p G g (cR l h)
 |error e=>exact p
section
variable{P:aQ}{w:bU}{K:af}{mg:Str->Option aj}{base:cG}{f fR fF fP fD fU fW fS f1 fQ CD CS CM:ae}{fd fdR fdF fdP fdD fdU fdW fdS fd1 fdQ:cm}{cf:Flt->ae}{bs qs:List Str}
inductive FU(cf:Flt->ae)(CD CS:ae)(bs qs:List Str)(n:Nat)(vs:List V)(H:Hp)(Q:VK)(E:XK):Prop where
 |mk(H0:Hp)(L:Lay)(h:Ev)(ds:List Int)(w:Wk)(v:V)(D:Ds)(_:vs=[.ref L.d,v])(_:Dg CD CS bs qs H0 H L h ds w)(_:mR H0 (eF bs qs H0 D) v)(_:D.deep<n)(_:w.len+4*D.size<400000)(_:sO cf (fun w' G'=>Dg CD CS bs qs H0 G' L h ds w') H0 (w.len+4*D.size) (doS h ds D w) Q E):FU cf CD CS bs qs n vs H Q E
def uV(cf:Flt->ae)(CD CS:ae)(bs qs:List Str)(n:Nat):Sp:=fun vs H Q E=>FU cf CD CS bs qs n vs H Q E
inductive K2(cf:Flt->ae)(CD CS:ae)(bs qs:List Str)(n:Nat)(vs:List V)(H:Hp)(Q:VK)(E:XK):Prop where
 |mk(H0:Hp)(L:Lay)(h:Ev)(ds:List Int)(w:Wk)(v:V)(D:Dd)(_:vs=[.ref L.d,v])(_:Dg CD CS bs qs H0 H L h ds w)(_:dR bs qs H0 D v)(_:D.deep<n)(_:w.len+4*D.size<400000)(_:sO cf (fun w' G'=>Dg CD CS bs qs H0 G' L h ds w') H0 (w.len+4*D.size) (doD h ds D w) Q E):K2 cf CD CS bs qs n vs H Q E
def spDd(cf:Flt->ae)(CD CS:ae)(bs qs:List Str)(n:Nat):Sp:=fun vs H Q E=>K2 cf CD CS bs qs n vs H Q E
inductive BZ(cf:Flt->ae)(CD CS:ae)(bs qs:List Str)(n:Nat)(vs:List V)(H:Hp)(Q:VK)(E:XK):Prop where
 |mk(H0:Hp)(L:Lay)(h:Ev)(ds:List Int)(w:Wk)(q x:Str)(v:V)(D:Ds)(_:vs=[.ref L.d,.str q,.str x,v])(_:Dg CD CS bs qs H0 H L h ds w)(_:q∈qs)(_:x∈bs)(_:mR H0 (eF bs qs H0 D) v)(_:D.deep<n)(_:w.len+4*D.size<400000)(_:sO cf (fun w' G'=>Dg CD CS bs qs H0 G' L h ds w') H0 (w.len+4*D.size) (doD h ds (.pull q x D) w) Q E):BZ cf CD CS bs qs n vs H Q E
def M5(cf:Flt->ae)(CD CS:ae)(bs qs:List Str)(n:Nat):Sp:=fun vs H Q E=>BZ cf CD CS bs qs n vs H Q E
theorem scPl:bX ["doing","name","box","otherwise","queue"] ["doing","name","box","otherwise"] (aT nI):=eQ
theorem Jm{n k:Nat}(hk:1<=k)(D:Df K mg "do_pull" nI ["doing","name","box","otherwise"] f fd)(M:Df K mg "do_deeds" iV ["doing","deeds"] fD fdD)(B:cg P w K mg base (CXo P w) k fD fdD ["doing","deeds"] (uV cf CD CS bs qs n))(R:Mt K CD "fill" "Doing.fill" gY ["self","box","worth"] fF fdF)(V:Mt K CD "queue_of" "Doing.queue_of" eW ["self","name"] fQ fdQ)(T:DT K mg CD)(I:MdT K mg CM CS) :
  cg P w K mg base (CXo P w) (k+1) f fd ["doing","name","box","otherwise"] (M5 cf CD CS bs qs n):=by
 have GF:cg P w K mg base CX0 1 fF fdF ["self","box","worth"] (x5 CD CS bs qs):=x6 R T I;have GQ:cg P w K mg base CX0 1 fQ fdQ ["self","name"] (FR CD CS bs qs):=FS V T I;refine D.F.okX scPl (fun vs H Q E h=>?_) (fun bo A outer s H vs Q E U h=>?_)
 ·obtain⟨H0,L,e,ds,w,q,x,v,D,rfl,_⟩:=h;rfl
 obtain⟨H0,L,e,ds,w,q,x,v,D,rfl,g,hq,hx,t,hn,ho,p⟩:=h;have J:=U.mono hk;refine⟨_,ag (pst 4 scPl (iN (pv 0) T.cl V.m GQ J V.b .nil jM (aq (pv 1) ao)))
  (aA (cC (uF (pv 4) (fun _=>rfl))
   (ag (cV (iN (pv 0) T.cl R.m GF J R.b .nil jM (aq (pv 2) (aq (ia aL jX jY yW (pv 4) (aq ah ao)) ao))))
   (aA (i9 (kS U) (cK (pv 0) rfl) (pv 1) km rfl)))
   (aA (cV (iy B U rfl M.m M.F.kp M.b .nil (dU.passes fun _ _ _ z=>z) (aq (pv 0) (aq (pv 3) ao))))))),?_⟩
 simp only[doD]at p;refine{_,Z9,L.d,L.dx,_,Z9,g.hd,oV _ _ _ _ _ _ _ _ (by decide +kernel),_,Z9,H0,L,e,ds,w,q,Z9,g,hq,fun G0 l O G Y=>{_,Z9,_,.inl {_,SqL.of Y,Z9},?_}};have Z:=qm g.ok hq
 cases e1:ie w.qu q with
 |nil=>
  rw[e1]at p;exact dP ({_,Z9,_,Z9,H0,L,e,ds,_,v,D,Z9,O,t,hn,ho,p})
 |cons m ms=>
  rw[e1]at p Y Z;exact eM ({_,Z9,L.d,L.dx,_,Z9,O.hd,oV _ _ _ _ _ _ _ _ (by decide +kernel),_,Z9,_,Z9,.inl {Z9,_,SqL.of Y},l,_,_,0,.int m,Z9,Z9,Y,(by decide),(by decide),(tZ (by unfold ixN;rw[if_pos (by decide),if_pos (by rw[ai,cw];lia)];rfl)).1,Z9,{H0,L,e,ds,_,x,m,Z9,(O.queue G (by have:=Z.1;rw[cw]at this;lia) (fun z hz=>Z.2 z (aa _ hz))),hx,Z.2 m ax,fun G2 W=>{_,Z9,L.d,CD,L.dx,_,_,Z9,W.hd,T.cl,T.nW,FE _ _ _ _ _ _ _ _,_,Z9,L.wd,_,Z9,W.putW q,p _ (W.wrote (aV _ hq)) (Jn _ _)}}})
theorem scDd:bX ["doing","deed","kind"] ["doing","deed"] (aT nF):=eQ
theorem Jo{n k:Nat}(hk:19<=k)(D:Df K mg "do_deed" nF ["doing","deed"] f fd)(DD:Df K mg "do_deeds" iV ["doing","deeds"] fD fdD)(GD:cg P w K mg base (CXo P w) k fD fdD ["doing","deeds"] (uV cf CD CS bs qs n))
  (MF:Mt K CD "fill" "Doing.fill" gY ["self","box","worth"] fF fdF) (MR:Mt K CD "reckon" "Doing.reckon" fh ["self","formula"] fR fdR) (GR:cg P w K mg base (CXo P w) 18 fR fdR ["self","formula"] (sP cf CD CS bs qs))
  (DP:Df K mg "do_pull" nI ["doing","name","box","otherwise"] fP fdP) (DU:Df K mg "do_push" nG ["doing","name","formula"] fU fdU) (GU:cg P w K mg base (CXo P w) 19 fU fdU ["doing","name","formula"] (AN cf CD CS bs qs))
  (DW:Df K mg "do_draw" nJ ["doing","box","formula"] fW fdW) (GW:cg P w K mg base (CXo P w) 19 fW fdW ["doing","box","formula"] (x8 cf CD CS bs qs)) (DS:Df K mg "do_send" nK ["doing","deed"] fS fdS) (GS:cg P w K mg base (CXo P w) 19 fS fdS ["doing","deed"] (AO cf CD CS bs qs)) (MQ:Mt K CD "queue_of" "Doing.queue_of" eW ["self","name"] fQ fdQ) (T:DT K mg CD) (TM:MdT K mg CM CS) :
  cg P w K mg base (CXo P w) (k+2) f fd ["doing","deed"] (spDd cf CD CS bs qs (n+1)):=by
 have GF:cg P w K mg base CX0 1 fF fdF ["self","box","worth"] (x5 CD CS bs qs):=x6 MF T TM;refine D.F.okX scDd (fun vs H Q E h=>?_) (fun cj A outer s H vs Q E J h=>?_)
 ·obtain⟨H0,L,e,ds,w,v,D,rfl,_⟩:=h;rfl
 obtain⟨H0,L,e,ds,w,v,D,rfl,g,O,hn,ho,p⟩:=h;have G:e8 18 _:=J.mono (by lia);have M:e8 19 _:=J.mono (by lia);have rk:e8 k _:=J.mono (by lia);refine⟨_,ag (pst 2 scDd (aP aY (pv 1) ah))
  (aA (cC (aZ cZ (pv 2) bP) (aA (cV (iN (pv 0) T.cl MF.m GF (J.mono (by lia)) MF.b .nil jM (aq (aP aY (pv 1) ah) (aq (iN (pv 0) T.cl MR.m GR G MR.b .nil (dU.passes fun _ _ _ z=>z) (aq (aP aY (pv 1) ah) ao)) ao)))))
  (aA (cC (aZ cZ (pv 2) bP) (aA (cV (iy GU M rfl DU.m DU.F.kp DU.b .nil (dU.passes fun _ _ _ z=>z) (aq (pv 0) (aq (aP aY (pv 1) ah) (aq (aP aY (pv 1) ah) ao))))))
  (aA (cC (aZ cZ (pv 2) bP) (aA (cV (iy (Jm (by lia) DP DD GD MF MQ T TM) J rfl DP.m DP.F.kp DP.b .nil (dU.passes fun _ _ _ z=>z) (aq (pv 0) (aq (aP aY (pv 1) ah) (aq (aP aY (pv 1) ah) (aq (aP aY (pv 1) ah) ao)))))))
  (aA (cC (aZ cZ (pv 2) bP) (aA (cV (iy GW M rfl DW.m DW.F.kp DW.b .nil (dU.passes fun _ _ _ z=>z) (aq (pv 0) (aq (aP aY (pv 1) ah) (aq (aP aY (pv 1) ah) ao))))))
  (aA (cC (aZ cZ (pv 2) bP) (aA (cV (iy GS M rfl DS.m DS.F.kp DS.b .nil (dU.passes fun _ _ _ z=>z) (aq (pv 0) (aq (pv 1) ao)))))
  (aA (cC (aZ cZ (pv 2) bP) (aA (cV (iy GD rk rfl DD.m DD.F.kp DD.b .nil (dU.passes fun _ _ _ z=>z) (aq (pv 0) (aq (uA (aZ Bj (iN (pv 0) T.cl MR.m GR G MR.b .nil (dU.passes fun _ _ _ z=>z) (aq (aP aY (pv 1) ah) ao)) ah) (aP aY (pv 1) ah) (aP aY (pv 1) ah)) ao)))))
  (aA (cC (aZ cZ (pv 2) bP) (aA (gm (pv 0) km rfl)) bL)))))))))))))),?_⟩
 have no:∀{m:Str},AL.contains m=false->(dF L.m L.hv L.st L.wd L.od w.en L.rd L.ud).lookup m=Z7:=fun z=>oV _ _ _ _ _ _ _ _ z;have nx:∀{a b:Str} {p1 p2:Prop},(a==b)=false->p2->(if decide (V.str a=V.str b)=true then p1 else p2):=fun z q=>gE (lX (sne z)) (dP q);have R:∀{a:Str} {p1 p2:Prop},p1->(if decide (V.str a=V.str a)=true then p1 else p2):=fun q=>gE (tS _) (eM q);have fw:w.len<400000:=by lia
 cases D with
 |put x F=>
  obtain⟨t,u,rfl,Y,hx,W⟩:=(by simpa only[dR] using O);have Z:=SqT.of (K:=K) (g.sm _ _ Y);simp only[doD]at p;refine{_,Z9,t,_,_,_,Z9,Z9,Z,Z9,_,Z9,Z9,_,Z9,R ?_};refine{_,Z9,L.d,L.dx,_,Z9,g.hd,no (by decide +kernel),_,Z9,t,_,_,_,Z9,Z9,Z,Z9,?_};refine{_,Z9,L.d,L.dx,_,Z9,g.hd,no (by decide +kernel),_,Z9,t,_,_,_,Z9,Z9,Z,Z9,H0,L,e,ds,w,u,F,Z9,g,W,fw,fun G1 U=>?_};refine lY p U.sm fun m em p=>?_;exact{H0,L,e,ds,_,x,m,Z9,U,hx,kU U.asks (W.1.same U.sm) em,fun G' g'=>p G' g' (AM (w:=w) (F:=F))}
 |push x F=>
  obtain⟨t,u,rfl,Y,hx,W⟩:=(by simpa only[dR] using O);have Z:=SqT.of (K:=K) (g.sm _ _ Y);refine{_,Z9,t,_,_,_,Z9,Z9,Z,Z9,_,Z9,Z9,_,Z9,nx (by decide +kernel) ?_};refine{_,Z9,Z9,_,Z9,R ?_};exact{_,Z9,_,Z9,t,_,_,_,Z9,Z9,Z,Z9,_,Z9,t,_,_,_,Z9,Z9,Z,Z9,H0,L,e,ds,w,x,u,F,Z9,g,hx,W,fw,p}
 |pull q x o=>
  obtain⟨t,u,rfl,Y,hq,hx,hl⟩:=(by simpa only[dR] using O);have Z:=SqT.of (K:=K) (g.sm _ _ Y);simp only[Dd.deep]at hn;simp only[Dd.size]at ho p;refine{_,Z9,t,_,_,_,Z9,Z9,Z,Z9,_,Z9,Z9,_,Z9,nx (by decide +kernel) ?_};refine{_,Z9,Z9,_,Z9,nx (by decide +kernel) ?_};refine{_,Z9,Z9,_,Z9,R ?_};exact{_,Z9,_,Z9,t,_,_,_,Z9,Z9,Z,Z9,_,Z9,t,_,_,_,Z9,Z9,Z,Z9,_,Z9,t,_,_,_,Z9,Z9,Z,Z9,H0,L,e,ds,w,q,x,u,o,Z9,g,hq,hx,hl,(by lia),(by lia),p.le (by lia)}
 |draw x F=>
  obtain⟨t,u,rfl,Y,hx,W⟩:=(by simpa only[dR] using O);have Z:=SqT.of (K:=K) (g.sm _ _ Y);refine{_,Z9,t,_,_,_,Z9,Z9,Z,Z9,_,Z9,Z9,_,Z9,nx (by decide +kernel) ?_};refine{_,Z9,Z9,_,Z9,nx (by decide +kernel) ?_};refine{_,Z9,Z9,_,Z9,nx (by decide +kernel) ?_};refine{_,Z9,Z9,_,Z9,R ?_};exact{_,Z9,_,Z9,t,_,_,_,Z9,Z9,Z,Z9,_,Z9,t,_,_,_,Z9,Z9,Z,Z9,H0,L,e,ds,w,x,u,F,Z9,g,hx,W,fw,p}
 |send to sg F rk F1 F2=>
  refine Z0 fun Gz gz=>?_;obtain⟨t,u,u1,u2,rfl,Y,W,cn,ck⟩:=(by simpa only[dR] using O);refine gz ?_;have Z:=SqT.of (K:=K) (g.sm _ _ Y);simp only[Dd.size]at ho p;refine{_,Z9,t,_,_,_,Z9,Z9,Z,Z9,_,Z9,Z9,_,Z9,nx (by decide +kernel) ?_};refine{_,Z9,Z9,_,Z9,nx (by decide +kernel) ?_};refine{_,Z9,Z9,_,Z9,nx (by decide +kernel) ?_};refine{_,Z9,Z9,_,Z9,nx (by decide +kernel) ?_};refine{_,Z9,Z9,_,Z9,R ?_};exact{_,Z9,_,Z9,H0,L,e,ds,w,t,u,u1,u2,to,sg,rk,F,F1,F2,Z9,g,Y,W,cn,ck,(by lia),p}
 |ife F x y=>
  obtain⟨t,u,u1,u2,rfl,Y,W,hX,hY⟩:=(by simpa only[dR] using O);simp only[Dd.deep]at hn;simp only[Dd.size]at ho p;simp only[doD]at p;have Z:=SqT.of (K:=K) (g.sm _ _ Y);refine{_,Z9,t,_,_,_,Z9,Z9,Z,Z9,_,Z9,Z9,_,Z9,nx (by decide +kernel) ?_};refine{_,Z9,Z9,_,Z9,nx (by decide +kernel) ?_};refine{_,Z9,Z9,_,Z9,nx (by decide +kernel) ?_};refine{_,Z9,Z9,_,Z9,nx (by decide +kernel) ?_};refine{_,Z9,Z9,_,Z9,nx (by decide +kernel) ?_};refine{_,Z9,Z9,_,Z9,R ?_};refine{_,Z9,_,Z9,L.d,L.dx,_,Z9,g.hd,no (by decide +kernel),_,Z9,t,_,_,_,Z9,Z9,Z,Z9,H0,L,e,ds,w,u,F,Z9,g,W,fw,fun G1 U=>?_};have I:=SqT.of (K:=K) (U.sm _ _ Y);have B:Wk.len {w with rk:=w.rk++[F]}=w.len+1:=by
   show w.out.length+(w.rk++[F]).length=w.out.length+w.rk.length+1;rw[aB];rfl
  refine lY p U.sm fun m em p=>?_;refine{Z9,_,Z9,?_}
  by_cases c:m=0
  ·subst c;rw[if_pos rfl]at p;refine gE (b:=false) rfl (dP ?_);exact{_,Z9,t,_,_,_,Z9,Z9,I,Z9,H0,L,e,ds,_,u2,y,Z9,U,hY,(by lia),(by rw[B];lia),p.le (by rw[B];lia)}
  ·rw[if_neg c]at p;refine gE (b:=true) (by rw[decide_eq_false (fun z=>c (lW z))];rfl) (eM ?_);exact{_,Z9,t,_,_,_,Z9,Z9,I,Z9,H0,L,e,ds,_,u1,x,Z9,U,hX,(by lia),(by rw[B];lia),p.le (by rw[B];lia)}
 |fin=>
  obtain⟨t,rfl,Y⟩:=(by simpa only[dR] using O);have Z:=SqT.of (K:=K) (g.sm _ _ Y);simp only[doD]at p;refine{_,Z9,t,_,_,_,Z9,Z9,Z,Z9,_,Z9,Z9,_,Z9,nx (by decide +kernel) ?_};refine{_,Z9,Z9,_,Z9,nx (by decide +kernel) ?_};refine{_,Z9,Z9,_,Z9,nx (by decide +kernel) ?_};refine{_,Z9,Z9,_,Z9,nx (by decide +kernel) ?_};refine{_,Z9,Z9,_,Z9,nx (by decide +kernel) ?_};refine{_,Z9,Z9,_,Z9,nx (by decide +kernel) ?_};refine{_,Z9,Z9,_,Z9,R ?_};refine{_,Z9,L.d,CD,L.dx,_,Z9,g.hd,T.cl,T.nE,MZ _ _ _ _ _ _ _ _,?_};rw[MX];exact p _ g.ended (Jn _ _)
theorem scDs:bX ["doing","deeds","deed"] ["doing","deeds"] (aT iV):=eQ
theorem Dc{n k:Nat}(D:Df K mg "do_deeds" iV ["doing","deeds"] f fd)(I:Df K mg "do_deed" nF ["doing","deed"] f1 fd1)(G1:cg P w K mg base (CXo P w) k f1 fd1 ["doing","deed"] (spDd cf CD CS bs qs n)) :
  cg P w K mg base (CXo P w) (k+1) f fd ["doing","deeds"] (uV cf CD CS bs qs n):=by
 refine D.F.okX scDs (fun vs H Q E h=>?_) (fun bw A outer s H vs Q E hr h=>?_)
 ·obtain⟨H0,L,e,ds,w,v,D,rfl,_⟩:=h;rfl
 obtain⟨H0,L,e,ds,w,v,D,rfl,g,⟨l,vs,rfl,B,t,hD⟩,hn,ho,p⟩:=h;refine⟨_,aA (fq dU.own rfl (fc (pv 1)) (pgn 2 scDs) (aA (cV (iy G1 hr rfl I.m I.F.kp I.b .nil (dU.passes fun _ _ _ z=>z) (aq (pv 0) (aq (pv 2) ao)))))),⟨_,Z9,l,Z9,{_,SqL.of (g.sm _ _ B)},fX (K:=K) (xs:=vs) (fun i σ G=>∃(W:Ds) (Y:Wk) (u:Option V),σ=[Z8 (.ref L.d),Z8 (.ref l),u]/\Dg CD CS bs qs H0 G L e ds Y/\eF bs qs H0 W (vs.drop i)/\W.deep<n/\Y.len+4*W.size<=w.len+4*D.size /\
  sO cf (fun Y G'=>Dg CD CS bs qs H0 G' L e ds Y) H0 (w.len+4*D.size) (doS e ds W Y) Q E) {D,w,Z7,Z9,g,hD,hn,aF _,p} ?_ ?_ ?_⟩⟩
 ·rintro i σ G _ ⟨W,Y,u,rfl,g',_⟩;exact SqL.of (g'.sm _ _ B)
 ·intro i x σ G hi qz;refine Z0 fun Gz M=>?_;obtain⟨W,Y,u,rfl,g',Z,O,R,U⟩:=qz;refine M ?_;have lt:=(aC.mp hi).1;have hx:vs[i]=x:=(aC.mp hi).2;rw[x9 lt,hx]at Z
  cases W with
  |nil=>
   exfalso
   cases Z
  |cons d r=>
   refine Z0 fun Gz M=>?_;obtain⟨v0,vr,ev,hd,J⟩:=(by simpa only[eF] using Z);refine M (Z0 fun Gz M=>?_)
   cases ev;refine M ?_;simp only[Ds.deep]at O;simp only[Ds.size]at R;refine{_,Z9,_,Z9,H0,L,e,ds,Y,x,d,Z9,g',hd,(by lia),(by lia),?_};simp only[doS]at U
   cases ed:doD e ds d Y with
   |error er=>
    rw[ed]at U;exact U
   |ok w2=>
    rw[ed]at U;intro G2 g2 l2;exact{r,w2,_,Z9,g2,J,(by lia),(by lia),U}
 ·rintro σ G ⟨W,Y,u,rfl,g',Z,O,R,U⟩;rw[Ic]at Z
  cases W with
  |nil=>
   simp only[doS]at U;exact U G g' (by lia)
  |cons d r=>
   obtain⟨v0,vr,ev,_⟩:=(by simpa only[eF] using Z)
   cases ev
theorem zx(D:Df K mg "do_deeds" iV ["doing","deeds"] f fd)(Z:Df K mg "do_deed" nF ["doing","deed"] f1 fd1)
  (z:Mt K CD "fill" "Doing.fill" gY ["self","box","worth"] fF fdF) (t:Mt K CD "reckon" "Doing.reckon" fh ["self","formula"] fR fdR) (W:cg P w K mg base (CXo P w) 18 fR fdR ["self","formula"] (sP cf CD CS bs qs))
  (B:Df K mg "do_pull" nI ["doing","name","box","otherwise"] fP fdP) (J:Df K mg "do_push" nG ["doing","name","formula"] fU fdU) (I:cg P w K mg base (CXo P w) 19 fU fdU ["doing","name","formula"] (AN cf CD CS bs qs))
  (R:Df K mg "do_draw" nJ ["doing","box","formula"] fW fdW) (V:cg P w K mg base (CXo P w) 19 fW fdW ["doing","box","formula"] (x8 cf CD CS bs qs)) (Y:Df K mg "do_send" nK ["doing","deed"] fS fdS) (O:cg P w K mg base (CXo P w) 19 fS fdS ["doing","deed"] (AO cf CD CS bs qs)) (U:Mt K CD "queue_of" "Doing.queue_of" eW ["self","name"] fQ fdQ) (T:DT K mg CD) (M:MdT K mg CM CS) :
  ∀n:Nat,cg P w K mg base (CXo P w) (20+3*n) f fd ["doing","deeds"] (uV cf CD CS bs qs n)
 |0=>by
  have G:∀vs H Q E,¬uV cf CD CS bs qs 0 vs H Q E:=fun vs H Q E h=>by
   obtain⟨H0,L,e,ds,w,v,D,_,_,_,hn,_⟩:=h
   lia
  exact{fun vs H Q E h=>absurd h (G vs H Q E),fun A outer s H args g vs Q E _ _ _ _ h=>absurd h (G vs H Q E)}
 |n+1=>Dc D Z (Jo (k:=20+3*n) (by lia) Z D (zx D Z z t W B J I R V Y O U T M n) z t W B J I R V Y O U T M)
end
end My
namespace L2
open PySem PySem.Spec PyProof.Rows
theorem AQ{X:Cx}:lG X (.type "dict") (fun xs H Q=>∃d kvs,xs=[V.ref d]/\H d=Z8 (.dK kvs)/\∀p,H p=Z7->Q (.ref p) (upd H p (.dK kvs))):=by
 intro pins s σ H xs M Q I r h;obtain⟨d,kvs,rfl,O,q⟩:=h;obtain⟨u,rfl,Y⟩:=vals1 r;subst Y;obtain⟨hz,Z,ws,k1,R⟩:=(show hV X.prog X.w H s.heap d (.dK kvs) from I.hok d _ O);refine kt_call_dict (knd:=fV X.prog X.w) Z R (by rw[<- k1.length];exact hz) fun h' W U=>?_;have kk:∀b o,s.heap.get? b=Z8 o->h'.get? b=Z8 o:=fun b o e=>(U.2 b (aR (aS e))).trans (aK _ e);exact{.ref s.heap.objs.size,_,I.laid (a:=s.heap.objs.size) (o:=.dK kvs) (t':=s.toks) kk (aF _) (uL hz (beq_eq_false_iff_ne.mpr (dB (aR I.big))) k1 W),Z9,q _ (I.hok.fresh (aF _))}
end L2
namespace My
open PySem L2
def lZ(CS:ae)(H:Hp)(st:ae)(bx:List (Str×Int))(qu:List (Str×List Int))(dr:Nat)(se:Int):Prop:=
 ∃dx Y Z W,H st=Z8 (.ins CS dx (qE (.ref Y) (.ref Z) (.int dr) (.int se)))/\H Y=Z8 (.dK (boK bx))/\H Z=Z8 (.dK (quK W))/\eN H W qu
theorem eN.same{G G':Hp}(s:bN G G'){Z:List (Str×ae)}{qu:List (Str×List Int)}(q:eN G Z qu):eN G' Z qu:=
 eN.keep (L:={0,0,0,0,0,0,0,0,0,0,.non,.non,Z}) (fun a u e _=>s _ _ e) (fun _ h=>h) q
theorem lZ.same{CS:ae}{H H':Hp}(s:bN H H'){st:ae}{bx:List (Str×Int)}{qu:List (Str×List Int)}{dr:Nat}{se:Int}(h:lZ CS H st bx qu dr se):lZ CS H' st bx qu dr se:=by
 obtain⟨dx,U,Y,W,h1,h2,Z,V⟩:=h;exact{dx,U,Y,W,s _ _ h1,s _ _ h2,s _ _ Z,V.same s}
structure StNew(CS:ae)(H G:Hp)(st:ae)(bx:List (Str×Int))(qu:List (Str×List Int))(dr:Nat)(se:Int)(dxs bd qd:ae)(qa:List (Str×ae)):Prop where
 sm:bN H G
 hst:G st=Z8 (.ins CS dxs (qE (.ref bd) (.ref qd) (.int dr) (.int se)))
 hb:G bd=Z8 (.dK (boK bx))
 hq:G qd=Z8 (.dK (quK qa))
 hl:eN G qa qu
 nd:(st::bd::qd::qa.map (·.2)).Nodup
 fr:∀a∈st::bd::qd::qa.map (·.2),H a=Z7
inductive B0(CS:ae)(vs:List V)(H:Hp)(Q:VK)(_e:XK):Prop where
 |mk(st:ae)(bx:List (Str×Int))(qu:List (Str×List Int))(dr:Nat)(se:Int)(_:vs=[.ref st])(_:lZ CS H st bx qu dr se)(_:(qu.map (·.1)).Nodup)(_:qu.length<100)(_:∀(G:Hp) (st' dxs bd qd:ae) (qa:List (Str×ae)),StNew CS H G st' bx qu dr se dxs bd qd qa->Q (.ref st') G):B0 CS vs H Q _e
def FV(CS:ae):Sp:=fun vs H Q Z=>B0 CS vs H Q Z
theorem yb{Z:List (Str×ae)}{x:Str}{l:ae}(h:x∉Z.map (·.1)):jU (quK Z) (Sum.inr x) (.ref l)=quK (Z++[(x,l)]):=by
 have e:Z.lookup x=Z7:=by
  cases z:Z.lookup x with
  |none=>rfl
  |some a=>exact absurd (cD.mpr {_,kH z,Z9}) h
 unfold jU;have v:kP (quK Z) (Sum.inr x)=Z7:=by
  have z:=qh V.ref x Z;rw[e]at z;exact z
 rw[kx,v];unfold quK;rw[aU];rfl
theorem rS(Z:List (Str×ae)):(quK Z).length=Z.length:=ai _
theorem eN.len{G:Hp}{Z:List (Str×ae)}{qu:List (Str×List Int)}(q:eN G Z qu):Z.length=qu.length:=aM q
theorem eN.nm{G:Hp}:∀{Z:List (Str×ae)} {qu:List (Str×List Int)},eN G Z qu->Z.map (·.1)=qu.map (·.1)
 |_,_,.nil=>rfl
 |_::_,_::_,.cons a b=>by rw[cP,cP,a.1,eN.nm b]
theorem eN.nth{G:Hp}:∀{Z:List (Str×ae)} {qu:List (Str×List Int)} {i:Nat} {p:Str×ae},eN G Z qu->Z[i]?=Z8 p->∃q,qu[i]?=Z8 q/\p.1=q.1/\G p.2=Z8 (.lst (q.2.map V.int))
 |_,_,i,p,.nil,h=>by simp at h
 |_::_,_::_,0,p,.cons a b,h=>by
  simp at h;subst h;exact{_,Z9,a.1,a.2}
 |_::_,_::_,i+1,p,.cons a b,h=>by
  obtain⟨q,h1,h2⟩:=eN.nth b (by simpa using h);exact{q,by simpa using h1,h2}
section
variable{P:aQ}{w:bU}{K:af}{mg:Str->Option aj}{base:cG}{f fI CD CS CM:ae}{fd fdI:cm}
theorem Jp:bX ["self","queues","name","worths"] ["self"] (aT jO):=eQ
theorem Jq(F:Fun K "copy" "State.copy" jO f fd)(MS:Mk K CS fI)(FI:Fun K "__init__" "State.__init__" jN fI fdI)(bI:Binds K fdI ["self","boxes","queues","drawn","sent"] [])(B:Bl mg)(T:MdT K mg CM CS) :
  cg P w K mg base CX0 3 f fd ["self"] (FV CS):=by
 refine F.ok Jp (fun vs H Q E h=>?_) (fun da A outer s H vs Q E hr h=>?_)
 ·obtain⟨st,bx,qu,dr,se,rfl,_⟩:=h;rfl
 refine Z0 fun Gz gz=>?_;obtain⟨st,bx,qu,dr,se,rfl,⟨dx,bd,W,M,O,hb,hq,hl⟩,ea,lq,k⟩:=h;refine gz ?_;have hu:=kS hr;refine⟨_,ag (pst 1 Jp lO)
  (ag (BC (fq bV rfl (Fd (cK (pv 0) rfl)) (sj rfl (eP (pgn 2 Jp) (eP (pgn 3 Jp) lu))) (aA (i9 hu (pv 1) (pv 2) (gB lB (by rfl) B.list boot_list (aq (pv 3) ao)) rfl))))
  (aA (bD (p9 MS (KS FI T) hr (by rfl) T.mS bI .nil jM (aq (gB AQ (by rfl) B.dict boot_dict (aq (cK (pv 0) rfl) ao)) (aq (pv 1) (aq (cK (pv 0) rfl) (aq (cK (pv 0) rfl) ao)))))))),?_⟩
 intro d hd;have s1:bN H (upd H d (.dK [])):=aH hd _;have nf:∀(ob:Obj) (u:HO),H W≠Z8 (.frz ob u):=fun ob u z=>by
  rw[hq]at z
  cases z
 have I:d≠W:=(ay hq hd).symm;have dc:(M.map (·.1)).Nodup:=by
  rw[hl.nm];exact ea
 refine{_,Z9,st,CS,dx,_,_,Z9,s1 _ _ O,T.clS,T.nQ,FG _ _ _ _,W,_,Z9,s1 _ _ hq,nf,fun od=>?_};refine C0 (d:=W) (od:=od) (kvs:=quK M) (fun i σ G=>∃(v2 v3:Option V) (Z:List (Str×ae)),σ=[Z8 (.ref st),Z8 (.ref d),v2,v3]/\G W=Z8 (.frz od (.dK (quK M)))/\(∀b o,H b=Z8 o->b≠W->G b=Z8 o)/\G d=Z8 (.dK (quK Z)) /\
  eN G Z (qu.take i)/\(Z.map (·.2)).Nodup/\∀a∈Z.map (·.2),H a=Z7/\a≠d) {Z7,Z7,[],Z9,ak,fun b o e n=>?_,?_,?_,ji,fun a h=>by cases h} ?_ ?_ ?_
 ·rw[aW n];exact s1 _ _ e
 ·rw[aW I];exact ak
 ·rw[dE];exact .nil
 ·rintro i σ G _ ⟨_,_,_,_,h1,_⟩;exact h1
 ·rintro i kv t σ G hi ⟨v2,v3,Z,rfl,g1,g2,g3,g4,g5,g6⟩ ht;obtain⟨p,hp,rfl⟩:∃p,M[i]?=Z8 p/\kv=((Sum.inr p.1:Key),V.ref p.2):=by
   unfold quK at hi;rw[bM]at hi
   cases z:M[i]? with
   |none=>
    rw[z]at hi
    cases hi
   |some p=>
    rw[z]at hi;injection hi with hi;subst hi;exact⟨p,Z9,Z9⟩
  obtain⟨q,eb,dV,ed⟩:=hl.nth hp;have U:=aH ht (.tup [kV (Sum.inr p.1),.ref p.2]);have dl:p.2≠W:=jD ed hq (by intro z;cases z);refine{t,_,Z9,SqT.of ak,Z9,_,_,Z9,_,_,Z9,Z9,?_};refine{_,Z9,p.2,_,Z9,.inl (SqL.of (U _ _ (g2 _ _ ed dl))),fun l du=>?_};have sl:=aH du (.lst (q.2.map V.int));have dn:=sl _ _ (U _ _ g3);have db:i<qu.length:=(aC.mp eb).1;have tk:(qu.take (i+1))=qu.take i++[q]:=by
   rw[dh,eb];rfl
  have dg:p.1∉Z.map (·.1):=by
   rw[g4.nm,dV];intro z;have dG:((qu.take (i+1)).map (·.1)).Nodup:=by
    rw[oh];exact ea.sublist (hZ _ _)
   rw[tk,aU]at dG;exact (eR.mp dG).2.2 _ z q.1 (by simp) rfl
  have dw:(quK Z).length<aG:=by
   have z:=g4.len;rw[cL]at z;rw[rS];have:=dW
   lia
  have dp:=pJ.k (k:=Sum.inr p.1) (v:=.ref l) dn dw;rw[yb dg]at dp;refine{_,Z9,_,Z9,d,_,Z9,dp,?_};have Y:G l=Z7:=by
   cases z:G l with
   |none=>rfl
   |some o=>
    have:=U _ _ z;rw[du]at this
    cases this
  have dk:H l=Z7:=by
   cases z:H l with
   |none=>rfl
   |some o=>
    by_cases c:l=W
    ·rw[c,g1]at Y
     cases Y
    ·rw[g2 _ _ z c]at Y
     cases Y
  have dz:l≠d:=fun z=>by rw[z,g3]at Y;cases Y
  refine{_,_,Z++[(p.1,l)],Z9,?_,fun b o e n=>?_,ak,?_,?_,fun a ha=>?_}
  ·rw[aW I.symm];exact sl _ _ (U _ _ g1)
  ·rw[aW (ay e hd)];exact sl _ _ (U _ _ (g2 _ _ e n))
  ·rw[tk];have old:eN (upd (upd (upd G t (.tup [kV (Sum.inr p.1),.ref p.2])) l (.lst (q.2.map V.int))) d (.dK (quK (Z++[(p.1,l)])))) Z (qu.take i):=
    eN.keep (L:={0,0,0,0,0,0,0,0,0,0,.non,.non,Z}) (fun a u e m=>aN (sl _ _ (U _ _ e)) (g6 a m).2) (fun _ h=>h) g4
   exact cS old {dV,aN ak dz}
  ·rw[aU];refine eR.mpr {g5,by simp,fun a ha b hb=>?_};rw[aD.mp hb];intro z;obtain⟨pp,D,e⟩:=cD.mp ha;obtain⟨j,hj⟩:=cz D;obtain⟨_,_,_,y⟩:=g4.nth hj;rw[e,z,Y]at y
   cases y
  ·rw[aU]at ha
   rcases bY.mp ha with z|z
   ·exact g6 a z
   ·rw[aD.mp z];exact⟨dk,dz⟩
 ·rintro σ G ⟨v2,v3,Z,rfl,g1,g2,g3,g4,g5,g6⟩;rw[rS,hl.len,cF]at g4;refine{W,od,_,g1,nf,?_};have J:bN H (upd G W (.dK (quK M))):=fun b o e=>by
   by_cases c:b=W
   ·rw[c,ak];rw[c,hq]at e;exact e
   ·rw[aW c];exact g2 _ _ e c
  have R:upd G W (.dK (quK M)) d=Z8 (.dK (quK Z)):=aN g3 I;have g:eN (upd G W (.dK (quK M))) Z qu:=
   eN.keep (L:={0,0,0,0,0,0,0,0,0,0,.non,.non,Z}) (fun a u e m=>aN e (ay hq (g6 a m).1).symm) (fun _ h=>h) g4
  generalize upd G W (.dK (quK M))=G2 at J R g;refine{_,Z9,st,CS,dx,_,_,Z9,J _ _ O,T.clS,T.nB,C8 _ _ _ _,bd,_,Z9,J _ _ hb,fun e he=>?_};have s3:=aH he (.dK (boK bx));refine{_,Z9,_,Z9,st,CS,dx,_,_,Z9,s3 _ _ (J _ _ O),T.clS,T.nD,FH _ _ _ _,_,Z9,st,CS,dx,_,_,Z9,s3 _ _ (J _ _ O),T.clS,T.nS,FJ _ _ _ _,?_};intro x dt nx di de;refine{x,dt,_,_,_,_,Z9,ak,fun H' hx bt=>{Z9,?_}};have sm:bN (upd G2 e (.dK (boK bx))) H':=fun b o e2=>by
   have cx:b≠x:=ay e2 nx;refine bt b o ?_ cx;rw[aW cx,aW (ay e2 di)];exact e2
  have ef:=s3.trans sm;have fresh:∀{a:ae},upd G2 e (.dK (boK bx)) a=Z7->H a=Z7:=fun {a} z=>by
   cases y:H a with
   |none=>rfl
   |some o=>
    rw[s3 _ _ (J _ _ y)]at z
    cases z
  have dq:H e=Z7:=by
   cases y:H e with
   |none=>rfl
   |some o=>
    rw[J _ _ y]at he
    cases he
  refine k H' x dt e d Z {J.trans ef,hx,sm _ _ ak,ef _ _ R,g.same ef,?_,?_}
  ·have ee:x≠e:=(ay (ak:upd G2 e (.dK (boK bx)) e=_) nx).symm;have ec:x≠d:=(ay (s3 _ _ R) nx).symm;have dL:e≠d:=(ay R he).symm;have ql:∀a∈Z.map (·.2),∃o,G2 a=Z8 o:=fun a ha=>by
    obtain⟨pp,D,e⟩:=cD.mp ha;obtain⟨j,hj⟩:=cz D;obtain⟨_,_,_,y⟩:=g.nth hj;rw[<- e];exact{_,y}
   refine cu.mpr {fun z=>?_,cu.mpr {fun z=>?_,cu.mpr {fun z=>(g6 d z).2 rfl,g5}}}
   ·rcases aE.mp z with z|z
    ·exact ee z
    ·rcases aE.mp z with z|z
     ·exact ec z
     ·obtain⟨o,y⟩:=ql x z;exact (ay (s3 _ _ y) nx) rfl
   ·rcases aE.mp z with z|z
    ·exact dL z
    ·obtain⟨o,y⟩:=ql e z;exact (ay y he) rfl
  ·intro a ha
   rcases aE.mp ha with z|z
   ·rw[z];exact fresh nx
   ·rcases aE.mp z with z|z
    ·rw[z];exact dq
    ·rcases aE.mp z with z|z
     ·rw[z];exact hd
     ·exact (g6 a z).1
end
theorem Dg.base{CD CS:ae}{bs qs:List Str}{H0 Z G G':Hp}{L:Lay}{h:Ev}{ds:List Int}{w:Wk}(g:Dg CD CS bs qs H0 G L h ds w)(s:bN G G')(Y:bN H0 Z)(W:bN Z G')(fr:∀a∈L.all,Z a=Z7):Dg CD CS bs qs Z G' L h ds w:=by
 obtain⟨t,x1,V,R,J,U,E,O,hdl⟩:=g.hm;have g':=g.same s;obtain⟨rs,M,I⟩:=g'.hr;exact{W,g'.hd,g'.hst,g'.hb,g'.hq,g'.hl,g'.hw,g'.ho,{rs,M,Paired.mono (fun _ _ z=>z.same Y) I},g'.hu,g.hh.same Y,{t,x1,V,R,J,U,E,Y _ _ O,Y _ _ hdl},g.nd,fr,g.ok,g.wt,g.wa,g.wb}
theorem eN.there{G:Hp}{Y:List (Str×ae)}{qu:List (Str×List Int)}(q:eN G Y qu){a:ae}(h:a∈Y.map (·.2)):∃xs,G a=Z8 (.lst xs):=by
 obtain⟨V,Z,e⟩:=cD.mp h;obtain⟨j,W⟩:=cz Z;obtain⟨_,_,_,y⟩:=q.nth W;rw[<- e];exact{_,y}
theorem Dg.there{CD CS:ae}{bs qs:List Str}{H0 G:Hp}{L:Lay}{h:Ev}{ds:List Int}{w:Wk}(g:Dg CD CS bs qs H0 G L h ds w):∀a∈L.all,∃o,G a=Z8 o:=fun a ha=>by
 obtain⟨vs,Y,_⟩:=g.ho;obtain⟨rs,Z,_⟩:=g.hr;unfold Lay.all at ha;simp only[aE]at ha
 rcases ha with rfl|rfl|rfl|rfl|rfl|rfl|rfl|rfl|ha
 ·exact{_,g.hd}
 ·exact{_,g.hst}
 ·exact{_,g.hb}
 ·exact{_,g.hq}
 ·exact{_,g.hw}
 ·exact{_,Y}
 ·exact{_,Z}
 ·exact{_,g.hu}
 ·obtain⟨xs,e⟩:=g.hl.there ha;exact{_,e}
def De(bs qs:List Str)(H:Hp)(v:V)(p:Str×Ds):Prop:=∃t u,v=.ref t/\H t=Z8 (.tup [.str p.1,u])/\mR H (eF bs qs H p.2) u
def iG(hs:List (Str×Ds))(Z:Str):Ds:=(hs.lookup Z).getD .nil
theorem De.same{bs qs:List Str}{H H':Hp}(s:bN H H'){v:V}{p:Str×Ds}(h:De bs qs H v p):De bs qs H' v p:=by
 obtain⟨t,u,e,h1,h2⟩:=h;exact{t,u,e,s _ _ h1,h2.same s (eF.same s p.2)}
section
variable{P:aQ}{w:bU}{K:af}{mg:Str->Option aj}{base:cG}{f fC fI CD CS CM:ae}{fd fdC fdI:cm}{bs qs:List Str}
theorem gb{G:Hp}{a b:ae}{o:HO}(h:upd G a o b=Z7):b≠a/\G b=Z7:=by
 by_cases c:b=a
 ·rw[c,ak]at h
  cases h
 ·rw[aW c]at h;exact⟨c,h⟩
theorem zy{G:Hp}{d U od R V a:ae}{J O M I E o:HO}(W:G U=Z7)(Y:G od=Z7)(hrd:G R=Z7)(Z:G V=Z7)(e:G a=Z8 o)(n:a≠d):upd (upd (upd (upd (upd (upd (upd (upd (upd G d J) U (.dK [])) d O) od (.lst [])) d M) R (.lst [])) d I) V (.dK [])) d E a=Z8 o:=
 aN (aN (aN (aN (aN (aN (aN (aN (aN e n) (ay e W)) n) (ay e Y)) n) (ay e hrd)) n) (ay e Z)) n
inductive K3(CD CS:ae)(bs qs:List Str)(vs:List V)(H:Hp)(Q:VK)(_e:XK):Prop where
 |mk(H0:Hp)(d dx st:ae)(m hv:V)(h:Ev)(ds:List Int)(bx:List (Str×Int))(qu:List (Str×List Int))(dr:Nat)(se:Int)(_:vs=[.ref d,m,.ref st,hv])(_:H d=Z8 (.ins CD dx []))(_:H0 d=Z7)(_:bN H0 H)(_:lZ CS H0 st bx qu dr se)(_:fH H0 hv h)(_:(∃t x1 x2 x3 x4 dl,m=.ref t/\H0 t=Z8 (.tup [x1,x2,x3,.ref dl,x4])/\H0 dl=Z8 (.lst (ds.map V.int))))(_:m5 bs qs ⟨bx,qu,dr,se,[],[],false,[],[]⟩)(_:Wo h.t)(_:Wo h.a)(_:Wo h.b)(_:∀(G:Hp) (L:Lay),L.d=d->L.m=m->Dg CD CS bs qs H0 G L h ds ⟨bx,qu,dr,se,[],[],false,[],[]⟩->Q .non G):K3 CD CS bs qs vs H Q _e
def M6(CD CS:ae)(bs qs:List Str):Sp:=fun vs H Q Z=>K3 CD CS bs qs vs H Q Z
theorem scDI:bX ["self","machine","state","happening"] ["self","machine","state","happening"] (aT oE):=eQ
theorem ok_DI(F:Fun K "__init__" "Doing.__init__" oE f fd)(MC:Mt K CS "copy" "State.copy" jO ["self"] fC fdC)(GC:cg P w K mg base CX0 3 fC fdC ["self"] (FV CS))(T:DT K mg CD)(TM:MdT K mg CM CS):cg P w K mg base CX0 4 f fd ["self","machine","state","happening"] (M6 CD CS bs qs):=by
 refine F.ok scDI (fun vs H Q E h=>?_) (fun da A outer s H vs Q E hr h=>?_)
 ·obtain⟨H0,d,dx,st,m,D,h,ds,bx,qu,dr,se,rfl,_⟩:=h;rfl
 obtain⟨H0,d,dx,st,m,D,h,ds,bx,qu,dr,se,rfl,hd,dL,s0,hS,hE,hM,ok,wt,wa,wb,k⟩:=h;refine{_,ag (gm (pv 0) (pv 1) rfl) (ag (gm (pv 0) (pv 3) rfl) (ag (gm (pv 0) (rB (pv 2) TM.clS MC.m GC hr MC.b .nil jM) rfl) (ag (gm (pv 0) lO rfl) (ag (gm (pv 0) (dO ao) rfl) (ag (gm (pv 0) km rfl) (ag (gm (pv 0) (dO ao) rfl) (aA (gm (pv 0) lO rfl)))))))),?_};have l1:=ik "machine" m [];have l2:=ik "happening" D (dS "machine" m []);simp only[cY]at l1;refine{_,Z9,_,Z9,d,CD,dx,[],Z9,hd,T.cl,T.nM,(by show 0<1000;decide),{_,Z9,_,Z9,d,CD,dx,_,Z9,ak,T.cl,T.nH,(by lia),?_}};rw[Bc];have sd:∀(o:HO),bN H0 (upd H d o):=fun o b u e=>by
  rw[aW (ay e dL)];exact s0 _ _ e
 obtain⟨du,db,di,de,dp,_⟩:=id hS;refine{_,Z9,st,du,_,Z9,sd _ _ _ dp,st_no _ _ _ _ (by decide +kernel),st,bx,qu,dr,se,Z9,hS.same (sd _),(by rw[ok.kq];exact ok.nq),?_,fun G W dn bd qd qa N=>?_}
 ·have e:=congrArg jK ok.kq;rw[ai]at e;have:=ok.fw;rw[aB]at this;have e:qu.length=qs.length:=e
  lia
 have gd:G d=Z8 (.ins CD dx (dS "happening" D (dS "machine" m []))):=N.sm _ _ ak;have l3:=ik "state" (.ref W) (dS "happening" D (dS "machine" m []));have l4:=fun M=>ik "written" (.ref M) (dS "state" (.ref W) (dS "happening" D (dS "machine" m [])));have l5:=fun od M=>ik "outgoing" (.ref od) (dS "written" (.ref M) (dS "state" (.ref W) (dS "happening" D (dS "machine" m []))));refine{_,Z9,d,CD,dx,_,Z9,gd,T.cl,T.nS,(by lia),?_};have l6:=fun od M=>ik "ends" (.bl false) (dS "outgoing" (.ref od) (dS "written" (.ref M) (dS "state" (.ref W) (dS "happening" D (dS "machine" m [])))));have l7:=fun rd od M=>ik "reckoned" (.ref rd) (dS "ends" (.bl false) (dS "outgoing" (.ref od) (dS "written" (.ref M) (dS "state" (.ref W) (dS "happening" D (dS "machine" m []))))));intro M O;obtain⟨J,O⟩:=gb O;refine{_,Z9,d,CD,dx,_,Z9,(by rw[aW J.symm];exact ak),T.cl,T.nW,(by lia),bE _,fun od V=>?_};obtain⟨I,V⟩:=gb V;obtain⟨ea,V⟩:=gb V;obtain⟨_,V⟩:=gb V;have dl:=l4 M;have dg:=l5 od M;have dc:=l6 od M;refine{_,Z9,d,CD,dx,_,Z9,(by rw[aW I.symm];exact ak),T.cl,T.nO,(by lia),?_};refine{_,Z9,d,CD,dx,_,Z9,ak,T.cl,T.nE,(by lia),bE _,fun rd hrd=>?_};rw[Bc]at hrd |-;obtain⟨B,hrd⟩:=gb hrd;obtain⟨dz,hrd⟩:=gb hrd;obtain⟨_,hrd⟩:=gb hrd;obtain⟨dw,hrd⟩:=gb hrd;obtain⟨_,hrd⟩:=gb hrd;have dk:=l7 rd od M;refine{_,Z9,d,CD,dx,_,Z9,(by rw[aW B.symm];exact ak),T.cl,T.nR,(by lia),?_};intro ud Z;obtain⟨dV,Z⟩:=gb Z;obtain⟨dG,Z⟩:=gb Z;obtain⟨_,Z⟩:=gb Z;obtain⟨dq,Z⟩:=gb Z;obtain⟨_,Z⟩:=gb Z;obtain⟨dt,Z⟩:=gb Z;obtain⟨_,Z⟩:=gb Z;refine{_,Z9,d,CD,dx,_,Z9,(by rw[aW dV.symm];exact ak),T.cl,T.nQ,(by lia),?_};rw[MV];have t:∀{a:ae},G a=Z7->H0 a=Z7:=fun {a} z=>by
  cases y:H0 a with
  |none=>rfl
  |some o=>
   rw[N.sm _ _ (sd _ _ _ y)]at z
   cases z
 have U:∀a∈W::bd::qd::qa.map (·.2),H0 a=Z7/\a≠d:=fun a ha=>by
  have z:=N.fr a ha;have n:a≠d:=fun y=>by
   rw[y,ak]at z
   cases z
  rw[aW n]at z;refine{?_,n}
  cases y:H0 a with
  |none=>rfl
  |some o=>
   rw[s0 _ _ y]at z
   cases z
 have eb:∀a∈W::bd::qd::qa.map (·.2),∃o,G a=Z8 o:=fun a ha=>by
  simp only[aE]at ha
  rcases ha with rfl|rfl|rfl|ha
  ·exact{_,N.hst}
  ·exact{_,N.hb}
  ·exact{_,N.hq}
  ·obtain⟨xs,e⟩:=N.hl.there ha;exact{_,e}
 have R:∀{b:ae} {xs:List ae},b∈b::xs:=ax;have Y:∀{a b:ae} {xs:List ae},b∈xs->b∈a::xs:=fun z=>aa _ z;refine k _ ⟨d,dx,W,dn,bd,qd,M,od,rd,ud,m,D,qa⟩ rfl rfl {fun b o e=>zy O V hrd Z (N.sm _ _ (sd _ _ _ e)) (ay e dL),ak,zy O V hrd Z N.hst (U _ R).2,zy O V hrd Z N.hb (U _ (Y R)).2,zy O V hrd Z N.hq (U _ (Y (Y R))).2,?_,?_,{[],?_,.nil},{[],?_,.nil},?_,hE,hM,?_,?_,ok,wt,wa,wb}
 ·exact eN.keep (L:={0,0,0,0,0,0,0,0,0,0,.non,.non,qa}) (fun a u e m=>zy O V hrd Z e (U a (Y (Y (Y m)))).2) (fun _ h=>h) N.hl
 ·show upd _ d _ M=Z8 (.dK []);rw[aW J,aW dt.symm,aW J,aW dw.symm,aW J,aW ea.symm,aW J,ak]
 ·show upd _ d _ od=Z8 (.lst []);rw[aW I,aW dq.symm,aW I,aW dz.symm,aW I,ak]
 ·show upd _ d _ rd=Z8 (.lst []);rw[aW B,aW dG.symm,aW B,ak]
 ·show upd _ d _ ud=Z8 (.dK []);rw[aW dV,ak]
 ·have nd:=N.nd;have hn:∀{a:ae} {xs:List ae},a∉xs->xs.Nodup->(a::xs).Nodup:=fun p q=>cu.mpr ⟨p,q⟩;obtain⟨n1,nd⟩:=cu.mp nd;obtain⟨n2,nd⟩:=cu.mp nd;obtain⟨n3,nd⟩:=cu.mp nd;simp only[aE,not_or]at n1 n2 n3;have g:∀a∈W::bd::qd::qa.map (·.2),a≠M:=fun a ha z=>by
   obtain⟨o,y⟩:=eb a ha;rw[z,O]at y
   cases y
  have ee:∀a∈W::bd::qd::qa.map (·.2),a≠od:=fun a ha z=>by
   obtain⟨o,y⟩:=eb a ha;rw[z,V]at y
   cases y
  have ec:∀a∈W::bd::qd::qa.map (·.2),a≠rd:=fun a ha z=>by
   obtain⟨o,y⟩:=eb a ha;rw[z,hrd]at y
   cases y
  have ed:∀a∈W::bd::qd::qa.map (·.2),a≠ud:=fun a ha z=>by
   obtain⟨o,y⟩:=eb a ha;rw[z,Z]at y
   cases y
  show (d::W::bd::qd::M::od::rd::ud::qa.map (·.2)).Nodup;refine hn ?_ (hn ?_ (hn ?_ (hn ?_ (hn ?_ (hn ?_ (hn ?_ (hn ?_ nd)))))))
  ·simp only[aE,not_or];exact{fun z=>(U _ R).2 z.symm,fun z=>(U _ (Y R)).2 z.symm,fun z=>(U _ (Y (Y R))).2 z.symm,J.symm,I.symm,B.symm,dV.symm,fun z=>(U d (Y (Y (Y z)))).2 rfl}
  ·simp only[aE,not_or];exact{n1.1,n1.2.1,g _ R,ee _ R,ec _ R,ed _ R,n1.2.2}
  ·simp only[aE,not_or];exact{n2.1,g _ (Y R),ee _ (Y R),ec _ (Y R),ed _ (Y R),n2.2}
  ·simp only[aE,not_or];exact{g _ (Y (Y R)),ee _ (Y (Y R)),ec _ (Y (Y R)),ed _ (Y (Y R)),n3}
  ·simp only[aE,not_or];exact{ea.symm,dw.symm,dt.symm,fun z=>g M (Y (Y (Y z))) rfl}
  ·simp only[aE,not_or];exact{dz.symm,dq.symm,fun z=>ee od (Y (Y (Y z))) rfl}
  ·simp only[aE,not_or];exact{dG.symm,fun z=>ec rd (Y (Y (Y z))) rfl}
  ·exact fun z=>ed ud (Y (Y (Y z))) rfl
 ·intro a ha;unfold Lay.all at ha;simp only[aE]at ha
  rcases ha with rfl|rfl|rfl|rfl|rfl|rfl|rfl|rfl|ha
  ·exact dL
  ·exact (U _ R).1
  ·exact (U _ (Y R)).1
  ·exact (U _ (Y (Y R))).1
  ·exact t O
  ·exact t V
  ·exact t hrd
  ·exact t Z
  ·exact (U a (Y (Y (Y ha)))).1
inductive K4(bs qs:List Str)(vs:List V)(H:Hp)(Q:VK)(_e:XK):Prop where
 |mk(H0:Hp)(t hl:ae)(x0 x1 x2 x3:V)(hv:List V)(hs:List (Str×Ds))(sg:Str)(_:vs=[.ref t,.str sg])(_:bN H0 H)(_:H0 t=Z8 (.tup [x0,x1,x2,x3,.ref hl]))(_:H0 hl=Z8 (.lst hv))(_:aO (De bs qs H0) hv hs)(_:(∀u,mR H0 (eF bs qs H0 (iG hs sg)) u->Q u H))(_:∀l,H l=Z7->iG hs sg=.nil->Q (.ref l) (upd H l (.lst []))):K4 bs qs vs H Q _e
def M7(bs qs:List Str):Sp:=fun vs H Q Z=>K4 bs qs vs H Q Z
theorem scBy:bX ["machine","sign","heard"] ["machine","sign"] (aT iE):=eQ
theorem iJ{Z Y:Type}{R:Z->Y->Prop}:∀{xs:List Z} {ys:List Y} {i:Nat} {x:Z},aO R xs ys->xs[i]?=Z8 x->∃y,ys[i]?=Z8 y/\R x y
 |_,_,i,x,.nil,h=>by simp at h
 |_,_,0,x,.cons a b,h=>by
  simp at h;subst h;exact{_,Z9,a}
 |_,_,i+1,x,.cons a b,h=>by
  obtain⟨y,h1,h2⟩:=iJ b (by simpa using h);exact{y,by simpa using h1,h2}
theorem ok_by(D:Df K mg "deeds_by_sign" iE ["machine","sign"] f fd):cg P w K mg base CX0 1 f fd ["machine","sign"] (M7 bs qs):=by
 refine D.F.ok scBy (fun vs H Q E h=>?_) (fun B A outer s H vs Q E hr h=>?_)
 ·obtain⟨H0,t,U,J,x1,M,I,O,hs,W,rfl,_⟩:=h;rfl
 obtain⟨H0,t,U,J,x1,M,I,O,hs,W,rfl,sm,g,V,R,k1,k2⟩:=h;have V:=sm _ _ V;refine⟨_,ag (fq bV rfl (fc (aP aY (pv 0) ah)) (pgn 2 scBy) (aA (cC (aZ cZ (aP aY (pv 2) ah) (pv 1)) (aA (bD (aP aY (pv 2) ah))) bL)))
  (aA (bD (dO ao))),?_⟩
 refine{_,Z9,t,_,_,_,Z9,Z9,SqT.of (sm _ _ g),Z9,U,Z9,{_,SqL.of V},fX (K:=K) (xs:=O) (fun i σ G=>G=H/\(∃u,σ=[Z8 (.ref t),Z8 (.str W),u])/\iG hs W=iG (hs.drop i) W) {Z9,{_,Z9},by rw[KF]} ?_ ?_ ?_}
 ·rintro i σ G _ ⟨rfl,_⟩;exact SqL.of V
 ·rintro i x σ G hi ⟨rfl,⟨u,rfl⟩,e⟩;obtain⟨p,hp,t',u',rfl,Z,Y⟩:=iJ R hi;have Z:=sm _ _ Z;have lt:=(aC.mp hp).1;rw[x9 lt,((aC.mp hp).2)]at e;obtain⟨pn,pd⟩:=p;refine{_,Z9,t',_,_,_,Z9,Z9,SqT.of Z,Z9,_,Z9,Z9,_,Z9,?_}
  by_cases c:pn=W
  ·subst c;refine gE (tS _) (eM ({_,Z9,t',_,_,_,Z9,Z9,SqT.of Z,Z9,k1 u' ?_}));rw[e];unfold iG;rw[dJ];exact Y
  ·refine gE (lX c) (dP ?_);refine{Z9,{_,Z9},?_};rw[e];unfold iG;rw[cM,beq_eq_false_iff_ne.mpr (fun z=>c z.symm)]
 ·rintro σ G ⟨rfl,⟨u,rfl⟩,e⟩;rw[(aM R),Ic]at e;exact{bE _,fun l Y=>k2 l Y e}
end
structure tU(bs qs:List Str)(ds:List Int)(hs:List (Str×Ds))(H:Hp)(m:V):Prop where
 ex:∃(t bl ql dl hl:ae) (nm:V) (vb hv:List V),m=.ref t/\H t=Z8 (.tup [nm,.ref bl,.ref ql,.ref dl,.ref hl])/\H bl=Z8 (.lst vb)/\aO (fun v (x:Str)=>∃a n,v=.ref a/\H a=Z8 (.tup [.str x,n])) vb bs/\H ql=Z8 (.lst (qs.map V.str))/\H dl=Z8 (.lst (ds.map V.int))/\H hl=Z8 (.lst hv)/\aO (De bs qs H) hv hs
theorem tU.same{bs qs:List Str}{ds:List Int}{hs:List (Str×Ds)}{H H':Hp}(s:bN H H'){m:V}(h:tU bs qs ds hs H m):tU bs qs ds hs H' m:=by
 obtain⟨t,bl,W,Y,M,nm,R,G,e,h1,h2,U,I,J,O,Z⟩:=h;exact⟨t,bl,W,Y,M,nm,R,G,e,s _ _ h1,s _ _ h2,Paired.mono (fun v x z=>by
  obtain⟨a,n,e,y⟩:=z;exact{a,n,e,s _ _ y}) U,s _ _ I,s _ _ J,s _ _ O,Paired.mono (fun _ _ z=>z.same s) Z⟩
def wrB(bs:List Str)(w:Wk):List (Str×Int):=(bs.filter fun x=>decide (x∈w.wr)).map fun x=>(x,qU w.bx x)
def wrQ(qs:List Str)(w:Wk):List (Str×List Int):=(qs.filter fun x=>decide (x∈w.wr)).map fun x=>(x,ie w.qu x)
def vQ(G:Hp)(v:V)(p:Str×Int):Prop:=∃t,v=.ref t/\G t=Z8 (.tup [.str p.1,.int p.2])
def vR(G:Hp)(v:V)(p:Str×ae):Prop:=∃t,v=.ref t/\G t=Z8 (.tup [.str p.1,.ref p.2])
theorem vQ.keep{G G':Hp}(k:∀a xs,G a=Z8 (.tup xs)->G' a=Z8 (.tup xs)){v:V}{p:Str×Int}(h:vQ G v p):vQ G' v p:=by
 obtain⟨t,e,h1⟩:=h;exact{t,e,k _ _ h1}
theorem vR.keep{G G':Hp}(k:∀a xs,G a=Z8 (.tup xs)->G' a=Z8 (.tup xs)){v:V}{p:Str×ae}(h:vR G v p):vR G' v p:=by
 obtain⟨t,e,h1⟩:=h;exact{t,e,k _ _ h1}
structure WrIn(bs qs:List Str)(w:Wk)(H G:Hp)(wl:ae)(ws1 ws2:List V)(qa:List (Str×ae)):Prop where
 hl:G wl=Z8 (.lst (ws1++ws2))
 b:aO (vQ G) ws1 (wrB bs w)
 q:aO (vR G) ws2 qa
 l:eN G qa (wrQ qs w)
 nd:(wl::qa.map (·.2)).Nodup
 fr:∀a∈wl::qa.map (·.2),H a=Z7
theorem mU{p:Str->Bool}{xs:List Str}{i:Nat}{x:Str}(h:xs[i]?=Z8 x):(xs.take (i+1)).filter p=(xs.take i).filter p++if p x=true then [x] else []:=by
 rw[dh,h,List.filter_append];show _++[x].filter p=_
 by_cases c:p x=true
 ·simp_all
 ·simp_all
theorem jR{H G:Hp}{a:ae}(s:bN H G)(n:H a=Z7)(o:HO):bN H (upd G a o):=fun b u e=>by
 rw[aW (ay e n)];exact s _ _ e
theorem none_of{H G:Hp}(s:bN H G){a:ae}(n:G a=Z7):H a=Z7:=by
 cases z:H a with
 |none=>rfl
 |some o=>
  rw[s _ _ z]at n
  cases n
section
variable{P:aQ}{w:bU}{K:af}{mg:Str->Option aj}{base:cG}{f CD CS CM:ae}{fd:cm}{bs qs:List Str}
inductive K5(CD CS:ae)(bs qs:List Str)(vs:List V)(H:Hp)(Q:VK)(_e:XK):Prop where
 |mk(H0:Hp)(L:Lay)(h:Ev)(ds:List Int)(w:Wk)(hs:List (Str×Ds))(_:vs=[.ref L.d])(_:Dg CD CS bs qs H0 H L h ds w)(_:tU bs qs ds hs H0 L.m)(_:∀(G:Hp) (wl:ae) (ws1 ws2:List V) (qa:List (Str×ae)),bN H G->WrIn bs qs w H G wl ws1 ws2 qa->Q (.ref wl) G):K5 CD CS bs qs vs H Q _e
def spWr(CD CS:ae)(bs qs:List Str):Sp:=fun vs H Q Z=>K5 CD CS bs qs vs H Q Z
theorem Jr:bX ["doing","writes","box","name"] ["doing"] (aT mJ):=eQ
theorem Dh(D:Df K mg "writes_of" mJ ["doing"] f fd)(T:DT K mg CD)(TM:MdT K mg CM CS)(B:Bl mg):cg P w K mg base CX0 1 f fd ["doing"] (spWr CD CS bs qs):=by
 refine D.F.ok Jr (fun vs H Q E h=>?_) (fun cc A outer s H vs Q E hr h=>?_)
 ·obtain⟨H0,L,h,ds,w,hs,rfl,_⟩:=h;rfl
 refine Z0 fun Gz gz=>?_;obtain⟨H0,L,h,ds,w,hs,rfl,g,⟨t,bl,ql,dl,hl,nm,vb,hv,em,ht,cj,pb,ck,hdl,cd,_⟩,k⟩:=h;refine gz ?_;have hu:=kS hr;refine⟨_,ag (pst 1 Jr (dO ao))
  (ag (fq bV rfl (fc (aP aY (cK (pv 0) rfl) ah)) (pgn 2 Jr) (aA (cC (uz (E1 hu (aP aY (pv 2) ah) (cK (pv 0) rfl)))
   (aA (cV (ia aL bA bC dI (pv 1) (aq (cW (aq (aP aY (pv 2) ah) (aq (iO hu (cK (cK (pv 0) rfl) rfl) (aP aY (pv 2) ah)) ao))) ao)))) bL)))
  (ag (fq bV rfl (fc (aP aY (cK (pv 0) rfl) ah)) (pgn 3 Jr) (aA (cC (uz (E1 hu (pv 3) (cK (pv 0) rfl)))
   (aA (cV (ia aL bA bC dI (pv 1) (aq (cW (aq (pv 3) (aq (gB lB (by rfl) B.list boot_list (aq (iO hu (cK (cK (pv 0) rfl) rfl) (pv 3)) ao)) ao))) ao)))) bL)))
  (aA (bD (pv 1))))),?_⟩
 have big:=dW;have fw:=g.ok.fw;rw[aB]at fw;refine{bE _,fun R I=>?_};have s0:=aH I (.lst []);have cn:∀{G:Hp} (g:Dg CD CS bs qs H0 G L h ds w) (x:Str),nr G L.wd (.str x) (if x∈w.wr then Z8 (.bl true) else Z7):=fun {G} g x=>by
  have z:=nr.k (k:=Sum.inr x) g.hw;rw[BM]at z;exact z
 refine{_,Z9,L.d,CD,L.dx,_,_,Z9,s0 _ _ g.hd,T.cl,T.nM,MU _ _ _ _ _ _ _ _,t,_,_,_,em,Z9,SqT.of (s0 _ _ (g.sm _ _ ht)),Z9,bl,Z9,{_,SqL.of (s0 _ _ (g.sm _ _ cj))},?_};refine fX (K:=K) (a:=bl) (xs:=vb) (fun i σ G=>∃(u:Option V) (ws:List V),σ=[Z8 (.ref L.d),Z8 (.ref R),u,Z7]/\bN H G/\G R=Z8 (.lst ws)/\aO (vQ G) ws (((bs.take i).filter fun x=>decide (x∈w.wr)).map fun x=>(x,qU w.bx x))) {Z7,[],Z9,s0,ak,by rw[dE];exact .nil} ?_ ?_ ?_
 ·rintro i σ G _ ⟨_,_,rfl,sm,_⟩;exact SqL.of (sm _ _ (g.sm _ _ cj))
 ·rintro i x σ G hi ⟨u,ws,rfl,sm,U,O⟩;have Y:=g.same sm;obtain⟨y,hy,a,n,rfl,ha⟩:=iJ pb hi;have ha:=Y.sm _ _ ha;have my:y∈bs:=bJ hy;have ft:=mU (p:=fun x=>decide (x∈w.wr)) hy;refine{_,Z9,a,_,_,_,Z9,Z9,SqT.of ha,Z9,_,Z9,L.d,CD,L.dx,_,_,Z9,Y.hd,T.cl,T.nW,FE _ _ _ _ _ _ _ _,L.wd,_,Z9,cn Y y,_,Z9,?_}
  by_cases c:y∈w.wr
  ·rw[if_pos c];rw[if_pos (decide_eq_true c)]at ft;refine eM ?_;refine{_,Z9,.inl {Z9,_,SqL.of U},_,Z9,a,_,_,_,Z9,Z9,SqT.of ha,Z9,_,Z9,L.d,CD,L.dx,_,_,Z9,Y.hd,T.cl,T.nS,vP _ _ _ _ _ _ _ _,L.st,CS,L.dxs,_,_,Z9,Y.hst,TM.clS,TM.nB,C8 _ _ _ _,_,Z9,a,_,_,_,Z9,Z9,SqT.of ha,Z9,L.bd,_,Z9,(by have z:=nr.k (k:=Sum.inr y) Y.hb;rw[xY (by rw[Y.ok.kb];exact my)]at z;exact z),lt2,fun M cs=>?_};have Z:=aH cs (.tup [.str y,.int (qU w.bx y)]);have lw:=aM O;have lf:(((bs.take i).filter fun x=>decide (x∈w.wr)).map fun x=>(x,qU w.bx x)).length<=bs.length:=by
    rw[ai];refine cR (dX _ _) ?_;rw[cL]
    lia
   refine{R,ws,_,Z9,Z9,Z _ _ U,(by lia),_,_,Z9,jR (sm.trans Z) I _,ak,?_};rw[ft,aU];have kp:∀b xs,upd G M (.tup [.str y,.int (qU w.bx y)]) b=Z8 (.tup xs)->upd (upd G M (.tup [.str y,.int (qU w.bx y)])) R (.lst (ws++[.ref M])) b=Z8 (.tup xs):=fun b xs z=>aN z (jD z (Z _ _ U) (by intro q;cases q));exact cS (Paired.mono (fun _ _ z=>(z.keep fun b xs e=>Z _ _ e).keep kp) O) {M,Z9,kp _ _ ak}
  ·rw[if_neg c];rw[if_neg (by rw[decide_eq_false c];decide),cB]at ft;refine dP {_,ws,Z9,sm,U,?_};rw[ft];exact O
 rintro σ G ⟨u,cx,rfl,sm,U,O⟩;have Y:=g.same sm;have ci:vb.length=bs.length:=aM pb;rw[ci,cF]at O;refine{_,Z9,L.d,CD,L.dx,_,_,Z9,Y.hd,T.cl,T.nM,MU _ _ _ _ _ _ _ _,t,_,_,_,em,Z9,SqT.of (Y.sm _ _ ht),Z9,ql,Z9,{_,SqL.of (Y.sm _ _ ck)},?_};refine fX (K:=K) (a:=ql) (xs:=qs.map V.str) (fun i σ G=>∃(u v:Option V) (W:List V) (J:List (Str×ae)),σ=[Z8 (.ref L.d),Z8 (.ref R),u,v]/\bN H G/\G R=Z8 (.lst (cx++W))/\aO (vQ G) cx (wrB bs w)/\aO (vR G) W J /\
  eN G J (((qs.take i).filter fun x=>decide (x∈w.wr)).map fun x=>(x,ie w.qu x))/\(R::J.map (·.2)).Nodup/\∀a∈R::J.map (·.2),H a=Z7) {_,_,[],[],Z9,sm,by rw[cB];exact U,O,.nil,by rw[dE];exact .nil,by simp,fun a ha=>by rw[aD.mp ha];exact I} ?_ ?_ ?_
 ·rintro i σ G _ ⟨_,_,_,_,rfl,sm,_⟩;exact SqL.of (sm _ _ (g.sm _ _ ck))
 ·intro i x σ G hi qz;refine Z0 fun Gz gz=>?_;obtain⟨u,v,W,J,rfl,sm,U,O,pq,pl,nd,fr⟩:=qz;refine gz ?_;have Y:=g.same sm;obtain⟨y,hy,rfl⟩:∃y,qs[i]?=Z8 y/\x=.str y:=by
   rw[bM]at hi
   cases z:qs[i]? with
   |none=>
    rw[z]at hi
    cases hi
   |some y=>
    rw[z]at hi
    cases hi;exact⟨y,Z9,Z9⟩
  have my:y∈qs:=bJ hy;have ft:=mU (p:=fun x=>decide (x∈w.wr)) hy;refine{_,Z9,_,Z9,L.d,CD,L.dx,_,_,Z9,Y.hd,T.cl,T.nW,FE _ _ _ _ _ _ _ _,L.wd,_,Z9,cn Y y,_,Z9,?_}
  by_cases c:y∈w.wr
  ·rw[if_pos c];rw[if_pos (decide_eq_true c)]at ft;refine eM ?_;obtain⟨l,h1,h2,h3⟩:=Y.getL my;refine{_,Z9,.inl {Z9,_,SqL.of U},_,Z9,_,Z9,L.d,CD,L.dx,_,_,Z9,Y.hd,T.cl,T.nS,vP _ _ _ _ _ _ _ _,L.st,CS,L.dxs,_,_,Z9,Y.hst,TM.clS,TM.nQ,FG _ _ _ _,_,Z9,L.qd,_,Z9,h3,l,_,Z9,.inl (SqL.of h2),fun nl da=>?_};have sn:=aH da (.lst ((ie w.qu y).map V.int));refine{lt2,fun M cs=>?_};have Z:=aH cs (.tup [.str y,.ref nl]);have lw:=aM pq;have lb:=aM O;have lq:=aM pl;have lf:(((qs.take i).filter fun x=>decide (x∈w.wr)).map fun x=>(x,ie w.qu x)).length<=qs.length:=by
    rw[ai];refine cR (dX _ _) ?_;rw[cL]
    lia
   have ce:(wrB bs w).length<=bs.length:=by
    unfold wrB;rw[ai];exact dX _ _
   have cp:=Z _ _ (sn _ _ U);have cr:nl≠R:=(ay U da).symm;have kp:∀b xs,upd (upd G nl (.lst ((ie w.qu y).map V.int))) M (.tup [.str y,.ref nl]) b=Z8 (.tup xs)->upd (upd (upd G nl (.lst ((ie w.qu y).map V.int))) M (.tup [.str y,.ref nl])) R (.lst (cx++W++[.ref M])) b=Z8 (.tup xs):=fun b xs z=>aN z (jD z cp (by intro q;cases q));refine{R,_,_,Z9,Z9,cp,(by rw[aB];lia),_,_,W++[.ref M],J++[(y,nl)],Z9,jR ((sm.trans sn).trans Z) I _,(by rw[<- iX];exact ak),?_,?_,?_,?_,?_}
   ·exact Paired.mono (fun _ _ z=>(z.keep fun b xs e=>Z _ _ (sn _ _ e)).keep kp) O
   ·exact cS (Paired.mono (fun _ _ z=>(z.keep fun b xs e=>Z _ _ (sn _ _ e)).keep kp) pq) {M,Z9,kp _ _ ak}
   ·rw[ft,aU];refine cS (eN.keep (L:={0,0,0,0,0,0,0,0,0,0,.non,.non,J}) (fun a u e m=>aN (Z _ _ (sn _ _ e)) fun z=>?_) (fun _ h=>h) pl) {Z9,aN (Z _ _ ak) cr};rw[z]at m;exact (cu.mp nd).1 m
   ·rw[aU,<- um];refine eR.mpr {nd,by simp,fun a ha b hb=>?_};rw[aD.mp hb];intro z
    rcases aE.mp ha with q|q
    ·exact cr ((show a=nl from z).symm.trans q)
    ·obtain⟨xs,q⟩:=pl.there q;rw[show a=nl from z,da]at q
     cases q
   ·intro a ha;rw[aU,<- um]at ha
    rcases bY.mp ha with z|z
    ·exact fr a z
    ·rw[aD.mp z];exact none_of sm da
  ·rw[if_neg c];rw[if_neg (by rw[decide_eq_false c];decide),cB]at ft;refine dP {_,_,W,J,Z9,sm,U,O,pq,?_,nd,fr};rw[ft];exact pl
 rintro σ G ⟨u,v,W,J,rfl,sm,U,O,pq,pl,nd,fr⟩;rw[ai,cF]at pl;exact{_,Z9,k G R cx W J sm ⟨U,O,pq,pl,nd,fr⟩}
end
structure FW(CD CS:ae)(bs qs:List Str)(H G:Hp)(L:Lay)(h:Ev)(ds:List Int)(w:Wk)(t rc wl:ae)(ws1 ws2:List V)(qa:List (Str×ae)):Prop where
 dg:∃H0,bN H H0/\Dg CD CS bs qs H0 G L h ds w
 ht:G t=Z8 (.tup [.ref L.st,.ref rc,.bl w.en])
 hrc:∃k,G rc=Z8 (.tup [.ref k,.int h.to,.str h.sg,.int h.a,.int h.b,.ref wl,.ref L.od])/\H k=Z8 (.tup [.int h.t,.int h.r,.int h.fr,.int h.c])
 wr:WrIn bs qs w H G wl ws1 ws2 qa
 nd:(L.all++wl::qa.map (·.2)).Nodup
theorem FW.sm{CD CS:ae}{bs qs:List Str}{H G:Hp}{L:Lay}{h:Ev}{ds:List Int}{w:Wk}{t W U:ae}{Z Y:List V}{R:List (Str×ae)}(n:FW CD CS bs qs H G L h ds w t W U Z Y R):bN H G:=by
 obtain⟨H0,s,g⟩:=n.dg;exact s.trans g.sm
def w0(bx:List (Str×Int))(qu:List (Str×List Int))(dr:Nat)(se:Int):Wk:={bx,qu,dr,se,[],[],false,[],[]}
section
variable{P:aQ}{w:bU}{K:af}{mg:Str->Option aj}{base:cG}{f fI fS fB fW fO CD CS CM:ae}{fd fdI fdS fdB fdW fdO:cm}{bs qs:List Str}{cf:Flt->ae}
inductive B1(cf:Flt->ae)(CM CD CS:ae)(bs qs:List Str)(n:Nat)(vs:List V)(H:Hp)(Q:VK)(E:XK):Prop where
 |mk(m dxm ml st:ae)(fs:List (Str×V))(ms:List V)(hv mv:V)(h:Ev)(ds:List Int)(hs:List (Str×Ds))(bx:List (Str×Int))(qu:List (Str×List Int))(dr:Nat)(se:Int)(_:vs=[.ref m,.ref st,hv])(_:H m=Z8 (.ins CM dxm fs))(_:fs.lookup ("machines":Str)=Z8 (.ref ml))(_:H ml=Z8 (.lst ms))(_:fH H hv h)(_:atI ms h.to=Z8 mv)(_:tU bs qs ds hs H mv)(_:lZ CS H st bx qu dr se)(_:m5 bs qs (w0 bx qu dr se))(_:Wo h.t)(_:Wo h.a)(_:Wo h.b)(_:(iG hs h.sg).deep<n)(_:(iG hs h.sg).size<100000) (_:match doS h ds (iG hs h.sg) (w0 bx qu dr se) with
 |.ok w'=>∀(G:Hp) (L:Lay) (t rc wl:ae) (ws1 ws2:List V) (qa:List (Str×ae)),FW CD CS bs qs H G L h ds w' t rc wl ws1 ws2 qa->Q (.ref t) G
 |.error e=>∀G,bN H G->E (.ref (cf e)) Z7 G):B1 cf CM CD CS bs qs n vs H Q E
def FX(cf:Flt->ae)(CM CD CS:ae)(bs qs:List Str)(n:Nat):Sp:=fun vs H Q E=>B1 cf CM CD CS bs qs n vs H Q E
theorem by_go{CD CS:ae}{bs qs:List Str}{H G:Hp}{L:Lay}{h:Ev}{ds:List Int}{w:Wk}{J M:ae}{f x1 t x3:V}{Y:List V}{hs:List (Str×Ds)}{U:Str}{D:VK}{E:XK}(g:Dg CD CS bs qs H G L h ds w)(R:H J=Z8 (.tup [f,x1,t,x3,.ref M]))(O:H M=Z8 (.lst Y))(ph:aO (De bs qs H) Y hs)
  (k:∀(H0 W:Hp) (u:V),bN H H0->bN G W->Dg CD CS bs qs H0 W L h ds w->mR H0 (eF bs qs H0 (iG hs U)) u->D u W):M7 bs qs [.ref J,.str U] G D E:=by
 refine{H,J,M,_,_,_,_,Y,hs,U,Z9,g.sm,R,O,ph,fun u hu=>k H G u (bN.refl _) (bN.refl _) g hu,fun l Z e=>?_};have sl:=aH Z (.lst []);have I:=aH (none_of g.sm Z) (.lst []);have B:bN (upd H l (.lst [])) (upd G l (.lst [])):=fun b o z=>by
  by_cases c:b=l
  ·rw[c]at z |-;rw[ak]at z |-;exact z
  ·rw[aW c]at z |-;exact g.sm _ _ z
 refine k _ _ _ I sl (g.base sl I B fun a ha=>?_) {l,[],Z9,ak,by decide,?_}
 ·obtain⟨o,z⟩:=g.there a ha;rw[aW (ay z Z)];exact g.fr a ha
 ·rw[e];simp only[eF]
inductive FY(cf:Flt->ae)(CM CD CS:ae)(bs qs:List Str)(n:Nat)(vs:List V)(H:Hp)(Q:VK)(E:XK):Prop where
 |mk(m dxm ml st:ae)(fs:List (Str×V))(ms:List V)(hv mv:V)(h:Ev)(ds:List Int)(hs:List (Str×Ds))(bx:List (Str×Int))(qu:List (Str×List Int))(dr:Nat)(se:Int)(_:vs=[.ref m,.ref st,hv])(_:H m=Z8 (.ins CM dxm fs))(_:fs.lookup ("machines":Str)=Z8 (.ref ml))(_:H ml=Z8 (.lst ms))(_:fH H hv h)(_:atI ms h.to=Z8 mv)(_:tU bs qs ds hs H mv)(_:lZ CS H st bx qu dr se)(_:m5 bs qs (w0 bx qu dr se))(_:Wo h.t)(_:Wo h.a)(_:Wo h.b)(_:(iG hs h.sg).deep<n)(_:(iG hs h.sg).size<100000) (_:match doS h ds (iG hs h.sg) (w0 bx qu dr se) with
 |.ok w'=>∀(H0 G:Hp) (L:Lay),bN H H0->Dg CD CS bs qs H0 G L h ds w'->L.m=mv->Q (.ref L.d) G
 |.error e=>∀G,bN H G->E (.ref (cf e)) Z7 G):FY cf CM CD CS bs qs n vs H Q E
def spDof(cf:Flt->ae)(CM CD CS:ae)(bs qs:List Str)(n:Nat):Sp:=fun vs H Q E=>FY cf CM CD CS bs qs n vs H Q E
theorem M8:bX ["model","state","happening","machine","doing"] ["model","state","happening"] (aT oF):=eQ
theorem M9{n:Nat}(D:Df K mg "doing_of" oF ["model","state","happening"] f fd)(MD:Mk K CD fI)(bI:Binds K fdI ["self","machine","state","happening"] [])(GI:cg P w K mg base CX0 4 fI fdI ["self","machine","state","happening"] (M6 CD CS bs qs))
  (DS:Df K mg "do_deeds" iV ["doing","deeds"] fS fdS) (GS:cg P w K mg base (CXo P w) (20+3*n) fS fdS ["doing","deeds"] (uV cf CD CS bs qs n)) (DB:Df K mg "deeds_by_sign" iE ["machine","sign"] fB fdB) (T:DT K mg CD) (TM:MdT K mg CM CS) :
  cg P w K mg base (CXo P w) (20+3*n+1) f fd ["model","state","happening"] (spDof cf CM CD CS bs qs n):=by
 have GB:cg P w K mg base CX0 1 fB fdB ["machine","sign"] (M7 bs qs):=ok_by DB;refine D.F.okX M8 (fun vs H Q E h=>?_) (fun dq A outer s H vs Q E B h=>?_)
 ·obtain⟨m,R,ml,st,fs,ms,hv,mv,h,ds,hs,bx,qu,dr,se,rfl,_⟩:=h;rfl
 obtain⟨m,R,ml,st,fs,ms,hv,mv,h,ds,hs,bx,qu,dr,se,rfl,hm,M,dG,hE,I,hM,hS,ok,wt,wa,wb,dn,sz,p⟩:=h;refine⟨_,ag (pst 3 M8 (aP cy (cK (pv 0) rfl) (aP aY (pv 2) ah)))
  (ag (pst 4 M8 (p9 MD GI (B.mono (by lia)) (by rfl) T.mD bI .nil jM (aq (pv 3) (aq (pv 1) (aq (pv 2) ao)))))
  (ag (cV (iy GS B (by rfl) DS.m DS.F.kp DS.b .nil (dU.passes fun _ _ _ z=>z) (aq (pv 4) (aq (pcl GB (B.mono (by lia)) DB (aq (pv 3) (aq (aP aY (pv 2) ah) ao))) ao))))
  (aA (bD (pv 4))))),?_⟩
 refine Z0 fun Gz gz=>?_;obtain⟨th,kh,rfl,Y,dw⟩:=id hE;obtain⟨tm,bl,ql,dl,hl,nm,vb,du,rfl,U,dk,pb,dt,hdl,dz,ph⟩:=hM.ex;refine gz ({_,Z9,m,CM,R,_,_,Z9,hm,TM.clM,TM.nM,M,_,Z9,th,_,_,_,Z9,Z9,SqT.of Y,Z9,ml,_,_,_,Z9,Z9,SqL.of dG,I,{_,Z9,_,Z9,_,Z9,?_}});intro d dx W dL dp;have sA:bN H (upd (upd H dx (.own d)) d (.ins CD dx [])):=fun b o e=>by
  rw[aW (ay e W),aW (ay e dL)];exact e
 refine{H,d,dx,st,.ref tm,.ref th,h,ds,bx,qu,dr,se,Z9,ak,W,sA,hS,hE,{tm,_,_,_,_,dl,Z9,U,hdl},ok,wt,wa,wb,fun G L eL em g=>{Z9,{_,Z9,_,Z9,_,Z9,th,_,_,_,Z9,Z9,SqT.of (g.sm _ _ Y),Z9,?_}}};subst eL;refine by_go g U dz ph fun H0 G1 u s0 s1 g1 hu=>{H0,L,h,ds,w0 bx qu dr se,u,iG hs h.sg,Z9,g1,hu,dn,(by show 0+_<_;lia),?_};have J:∀{t:Wk->Hp->Prop} {r:Except Flt Wk} {Q1:VK} {k:Nat},r=doS h ds (iG hs h.sg) (w0 bx qu dr se)->(∀V Z,r=.ok V->t V Z->Q1 .non Z)->sO cf t H0 k r Q1 E:=fun {t r Q1 k} e q=>by
  cases r with
  |ok V=>exact fun Z O _=>q V Z rfl O
  |error er=>
   rw[<- e]at p;exact fun Z s2=>p Z (s0.trans s2)
 refine J rfl fun V Z ew O=>?_;rw[ew]at p;exact{_,Z9,p H0 Z L s0 O em}
theorem Na:bX ["model","state","happening","doing","record"] ["model","state","happening"] (aT xX):=eQ
theorem Js{n:Nat}(D:Df K mg "done" xX ["model","state","happening"] f fd)(U:Df K mg "doing_of" oF ["model","state","happening"] fO fdO)(MD:Mk K CD fI)(bI:Binds K fdI ["self","machine","state","happening"] [])(GI:cg P w K mg base CX0 4 fI fdI ["self","machine","state","happening"] (M6 CD CS bs qs))
  (DS:Df K mg "do_deeds" iV ["doing","deeds"] fS fdS) (GS:cg P w K mg base (CXo P w) (20+3*n) fS fdS ["doing","deeds"] (uV cf CD CS bs qs n)) (DB:Df K mg "deeds_by_sign" iE ["machine","sign"] fB fdB) (DW:Df K mg "writes_of" mJ ["doing"] fW fdW) (T:DT K mg CD) (TM:MdT K mg CM CS) (B:Bl mg) :
  cg P w K mg base (CXo P w) (20+3*n+2) f fd ["model","state","happening"] (FX cf CM CD CS bs qs n):=by
 have GW:cg P w K mg base CX0 1 fW fdW ["doing"] (spWr CD CS bs qs):=Dh DW T TM B;refine D.F.okX Na (fun vs H Q E h=>?_) (fun dg A outer s H vs Q E hr h=>?_)
 ·obtain⟨m,W,ml,st,fs,ms,hv,mv,h,ds,hs,bx,qu,dr,se,rfl,_⟩:=h;rfl
 obtain⟨m,W,ml,st,fs,ms,hv,mv,h,ds,hs,bx,qu,dr,se,rfl,hm,R,di,hE,I,hM,hS,ok,wt,wa,wb,dn,sz,p⟩:=h;refine⟨_,ag (pst 3 Na (iy (M9 U MD bI GI DS GS DB T TM) hr (by rfl) U.m U.F.kp U.b .nil (dU.passes fun _ _ _ z=>z) (aq (pv 0) (aq (pv 1) (aq (pv 2) ao)))))
  (ag (pst 4 Na (cI IB (pv 2) (cW (aq (pcl GW (hr.mono (by lia)) DW (aq (pv 3) ao)) (aq (cK (pv 3) rfl) ao)))))
  (aA (bD (cW (aq (cK (pv 3) rfl) (aq (pv 4) (aq (cK (pv 3) rfl) ao))))))),?_⟩
 obtain⟨th,kh,rfl,O,M⟩:=id hE;refine{_,Z9,_,Z9,_,Z9,m,W,ml,st,fs,ms,_,mv,h,ds,hs,bx,qu,dr,se,Z9,hm,R,di,hE,I,hM,hS,ok,wt,wa,wb,dn,sz,?_}
 cases ew:doS h ds (iG hs h.sg) (w0 bx qu dr se) with
 |error e=>
  rw[ew]at p;exact p
 |ok w'=>
 rw[ew]at p;intro H0 G2 L V Y em;have gM:tU bs qs ds hs H0 L.m:=by
  rw[em];exact hM.same V
 refine{_,Z9,_,Z9,H0,L,h,ds,w',hs,Z9,Y,gM,fun G3 g dl J qa s3 wr=>?_};have g3:=Y.same s3;refine{_,Z9,L.d,CD,L.dx,_,_,Z9,g3.hd,T.cl,T.nO,dF_o _ _ _ _ _ _ _ _,lt2,fun tt G=>?_};have s4:=aH G (.tup [.ref g,.ref L.od]);refine{th,tt,_,_,Z9,Z9,SqT.of (s4 _ _ (s3 _ _ (Y.sm _ _ (V _ _ O)))),SqT.of ak,(by intro z;cases z),(by show 7<=aG;decide),(fun z=>by cases z),fun _ rc dk=>?_};have s5:=aH dk (.tup [.ref kh,.int h.to,.str h.sg,.int h.a,.int h.b,.ref g,.ref L.od]);have g5:=(g3.same s4).same s5;refine{_,Z9,L.d,CD,L.dx,_,_,Z9,g5.hd,T.cl,T.nS,vP _ _ _ _ _ _ _ _,_,Z9,_,Z9,L.d,CD,L.dx,_,_,Z9,g5.hd,T.cl,T.nE,dF_e _ _ _ _ _ _ _ _,(by show 3<=aG;decide),fun t ht=>?_};have s6:=aH ht (.tup [.ref L.st,.ref rc,.bl w'.en]);have Z:=(s4.trans s5).trans s6;refine p _ L t rc g dl J qa {{H0,V,g5.same s6},ak,{kh,s6 _ _ ak,M},{Z _ _ wr.hl,Paired.mono (fun _ _ z=>z.keep fun b xs e=>Z _ _ e) wr.b,Paired.mono (fun _ _ z=>z.keep fun b xs e=>Z _ _ e) wr.q,wr.l.same Z,wr.nd,fun a ha=>none_of (V.trans Y.sm) (wr.fr a ha)},eR.mpr {Y.nd,wr.nd,fun a ha b hb z=>?_}};obtain⟨o,y⟩:=Y.there a ha;rw[z,wr.fr b hb]at y
 cases y
end
theorem aX{t u:TS}{D:kK}{σ:St}{H:Hp}(h:t {D with nx:=u D} σ H):LX t u D σ H:=h
theorem ib{t u:TS}{D:kK}{σ:St}{H:Hp}(h:∀R:St->Hp->Prop,(∀Z H',u D Z H'->R Z H')->t {D with nx:=R} σ H):LX t u D σ H:=h _ fun _ _ z=>z
theorem cH{te:TE}{g:TG}{D:kK}{σ:St}{H:Hp}(h:te σ H fun x H1=>g x σ H1 D.nx):Ew te g D σ H:=h
theorem bF{i:Nat}{v:V}{σ:St}{H:Hp}{Q:St->Hp->Prop}(h:Q (σ.set i (Z8 v)) H):vY i v σ H Q:=h
theorem tup_i{t:TA}{σ:St}{H:Hp}{Q:VK}(h:t σ H fun xs H1=>xs.length<=aG/\∀p,H1 p=Z7->Q (.ref p) (upd H1 p (.tup xs))):tTup t σ H Q:=h
theorem FZ{C:ae}{sp:Sp}{dvs:List V}{E:XK}{t:TA}{σ:St}{H:Hp}{Q:VK} (h:t σ H fun vs H1=>∀x dx,H1 x=Z7->H1 dx=Z7->dx≠x ->
  sp (.ref x::(vs++dvs)) (upd (upd H1 dx (.own x)) x (.ins C dx [])) (fun v H2=>v=.non/\Q (.ref x) H2) E):Kz C sp dvs E t σ H Q:=h
section
variable{X:Cx}{e:c8}{ta:TE}{f:Str}{pos:Pos}
theorem yc(K:af)(Y:X.K=K)(Z:PE X e ta)(hb:mj e f X.env (gc e X.env)=gc e X.env):PE X (.Attribute e f pos) (L9 K ta f):=by
 rw[<- Y];exact cK Z hb
theorem zA(K:af)(Z:X.K=K):lG X (.type "list") (fun xs H Q=>∃p ys,xs=[.ref p]/\(SqL K H p ys\/SqT K H p ys)/\∀l,H l=Z7->Q (.ref l) (upd H l (.lst ys))):=by
 rw[<- Z];exact lB
end
theorem B2{H:Hp}{n:Nat}{t:ae}{xs:List V}(Z:H t=Z8 (.tup xs)\/H t=Z8 (.lst xs))(T:Tree H n (.ref t)):∃m,n=m+1/\∀x∈xs,Tree H m x:=by
 cases n with
 |zero=>exact T.elim
 |succ m=>
  refine{m,Z9,?_}
  rcases T with T|⟨p,ys,e,h1,_,h2⟩
  ·exact T.elim
  ·grind
theorem jo{H H':Hp}{n:Nat}{t:ae}{xs:List V}{Z:V}(Y:H t=Z8 (.tup xs))(T:Tree H n (.ref t))(U:Alike H H' n (.ref t) Z):∃m t' ys,Z=.ref t'/\H' t'=Z8 (.tup ys)/\aO (Alike H H' m) xs ys/\∀x∈xs,Tree H m x:=by
 refine Z0 fun R W=>?_;obtain⟨m,rfl,h⟩:=B2 (.inl Y) T;obtain⟨t',ys,e,h1,h2⟩:=sN Y U;exact W (⟨m,t',ys,e,h1,h2,h⟩)
theorem uW{H H':Hp}{n:Nat}{t:ae}{xs:List V}{Z:V}(Y:H t=Z8 (.lst xs))(T:Tree H n (.ref t))(U:Alike H H' n (.ref t) Z):∃m t' ys,Z=.ref t'/\H' t'=Z8 (.lst ys)/\aO (Alike H H' m) xs ys/\∀x∈xs,Tree H m x:=by
 refine Z0 fun R W=>?_;obtain⟨m,rfl,h⟩:=B2 (.inr Y) T;obtain⟨t',ys,e,h1,h2⟩:=qg Y U;exact W (⟨m,t',ys,e,h1,h2,h⟩)
theorem dH{R:V->V->Prop}{x:V}{xs ys:List V}(r:aO R (x::xs) ys):∃y Z,ys=y::Z/\R x y/\aO R xs Z:=by
 cases r with
 |cons a b=>exact{_,_,Z9,a,b}
theorem nX{R:V->V->Prop}{ys:List V}(r:aO R [] ys):ys=[]:=by
 cases r;rfl
theorem iY.alike{bs qs:List Str}{H H':Hp}{v:V}{F:Fm}(h:iY bs qs H v F):∀{n:Nat} {U:V},Tree H n v->Alike H H' n v U->iY bs qs H' U F:=by
 induction h with
 |num h1 h2=>
  intro n U T W;obtain⟨m,t',ys,rfl,Y,Z,_⟩:=jo h1 T W;rw[jd Z (by intro x hx;simp at hx;rcases hx with rfl|rfl<;>exact trivial)]at Y;exact .num Y h2
 |box h1 h2=>
  intro n U T W;obtain⟨m,t',ys,rfl,Y,Z,_⟩:=jo h1 T W;rw[jd Z (by intro x hx;simp at hx;rcases hx with rfl|rfl<;>exact trivial)]at Y;exact .box Y h2
 |long h1 h2=>
  intro n U T W;obtain⟨m,t',ys,rfl,Y,Z,_⟩:=jo h1 T W;rw[jd Z (by intro x hx;simp at hx;rcases hx with rfl|rfl<;>exact trivial)]at Y;exact .long Y h2
 |got h1=>
  intro n U T W;obtain⟨m,t',ys,rfl,Y,Z,_⟩:=jo h1 T W;rw[jd Z (by intro x hx;simp at hx;rcases hx with rfl|rfl<;>exact trivial)]at Y;exact .got Y
 |now h1=>
  intro n U T W;obtain⟨m,t',ys,rfl,Y,Z,_⟩:=jo h1 T W;rw[jd Z (by intro x hx;rw[aD.mp hx];exact trivial)]at Y;exact .now Y
 |two h1 h2 _ _ J M=>
  intro n U T W;obtain⟨m,t',ys,rfl,Y,Z,tr⟩:=jo h1 T W;obtain⟨I,R,rfl,O,Z⟩:=dH Z;obtain⟨E,R,rfl,a1,Z⟩:=dH Z;obtain⟨G,R,rfl,a2,Z⟩:=dH Z;obtain rfl:=nX Z;rw[(fi (v:=.str _) trivial O)]at Y;exact .two Y h2 (J (tr _ (by simp)) a1) (M (tr _ (by simp)) a2)
theorem FmI.alike{bs qs:List Str}{H H':Hp}{v Z:V}{F:Fm}{n:Nat}(h:FmI bs qs H v F)(T:Tree H n v)(Y:Alike H H' n v Z):FmI bs qs H' Z F:={h.1.alike T Y,h.2}
theorem mR.alike{H H':Hp}{R Y:List V->Prop}{v W:V}{n:Nat}(h:mR H R v)(T:Tree H n v)(M:Alike H H' n v W)(k:∀m vs ys,R vs->aO (Alike H H' m) vs ys->(∀x∈vs,Tree H m x)->Y ys):mR H' Y W:=by
 obtain⟨l,vs,rfl,h1,h2,O⟩:=h;obtain⟨m,t',ys,rfl,U,Z,tr⟩:=uW h1 T M;exact{t',ys,Z9,U,by rw[<- aM Z];exact h2,k m vs ys O Z tr}
mutual
theorem dR.alike{bs qs:List Str}{H H':Hp}:∀(d:Dd) (v J:V) (n:Nat),dR bs qs H d v->Tree H n v->Alike H H' n v J->dR bs qs H' d J
 |.put x f,v,J,n,h,T,R=>by
  obtain⟨t,u,rfl,h1,h2,O⟩:=(by simpa only[dR] using h);obtain⟨m,t',ys,rfl,W,Z,tr⟩:=jo h1 T R;obtain⟨I,Y,rfl,U,Z⟩:=dH Z;obtain⟨G,Y,rfl,a1,Z⟩:=dH Z;obtain⟨M,Y,rfl,a2,Z⟩:=dH Z;obtain rfl:=nX Z;rw[fi (v:=.str _) trivial U,fi (v:=.str _) trivial a1]at W;simp only[dR];exact{t',M,Z9,W,h2,O.alike (tr _ (by simp)) a2}
 |.push x f,v,J,n,h,T,R=>by
  obtain⟨t,u,rfl,h1,h2,O⟩:=(by simpa only[dR] using h);obtain⟨m,t',ys,rfl,W,Z,tr⟩:=jo h1 T R;obtain⟨I,Y,rfl,U,Z⟩:=dH Z;obtain⟨G,Y,rfl,a1,Z⟩:=dH Z;obtain⟨M,Y,rfl,a2,Z⟩:=dH Z;obtain rfl:=nX Z;rw[fi (v:=.str _) trivial U,fi (v:=.str _) trivial a1]at W;simp only[dR];exact{t',M,Z9,W,h2,O.alike (tr _ (by simp)) a2}
 |.pull q x o,v,J,n,h,T,R=>by
  obtain⟨t,u,rfl,h1,h2,O,E⟩:=(by simpa only[dR] using h);obtain⟨m,t',ys,rfl,W,Z,tr⟩:=jo h1 T R;obtain⟨I,Y,rfl,U,Z⟩:=dH Z;obtain⟨G,Y,rfl,a1,Z⟩:=dH Z;obtain⟨M,Y,rfl,a2,Z⟩:=dH Z;obtain⟨D,Y,rfl,a3,Z⟩:=dH Z;obtain rfl:=nX Z;rw[fi (v:=.str _) trivial U,fi (v:=.str _) trivial a1,fi (v:=.str _) trivial a2]at W;simp only[dR];exact{t',D,Z9,W,h2,O,E.alike (tr _ (by simp)) a3 fun m vs ys a b c=>eF.alike o vs ys m a b c}
 |.draw x f,v,J,n,h,T,R=>by
  obtain⟨t,u,rfl,h1,h2,O⟩:=(by simpa only[dR] using h);obtain⟨m,t',ys,rfl,W,Z,tr⟩:=jo h1 T R;obtain⟨I,Y,rfl,U,Z⟩:=dH Z;obtain⟨G,Y,rfl,a1,Z⟩:=dH Z;obtain⟨M,Y,rfl,a2,Z⟩:=dH Z;obtain rfl:=nX Z;rw[fi (v:=.str _) trivial U,fi (v:=.str _) trivial a1]at W;simp only[dR];exact{t',M,Z9,W,h2,O.alike (tr _ (by simp)) a2}
 |.send to g sp rk a b,v,J,n,h,T,R=>by
  obtain⟨t,u,u1,u2,rfl,h1,h2,O,E⟩:=(by simpa only[dR] using h);obtain⟨m,t',ys,rfl,W,Z,tr⟩:=jo h1 T R;obtain⟨I,Y,rfl,U,Z⟩:=dH Z;obtain⟨G,Y,rfl,a1,Z⟩:=dH Z;obtain⟨M,Y,rfl,a2,Z⟩:=dH Z;obtain⟨D,Y,rfl,a3,Z⟩:=dH Z;obtain⟨y4,Y,rfl,a4,Z⟩:=dH Z;obtain⟨B,Y,rfl,a5,Z⟩:=dH Z;obtain⟨z,Y,rfl,a6,Z⟩:=dH Z;obtain rfl:=nX Z;rw[fi (v:=.str _) trivial U,fi (v:=.int _) trivial a1,fi (v:=.str _) trivial a2,fi (v:=.int _) trivial a4]at W;simp only[dR];exact{t',D,B,z,Z9,W,h2.alike (tr _ (by simp)) a3,O.alike (tr _ (by simp)) a5,E.alike (tr _ (by simp)) a6}
 |.ife f x y,v,J,n,h,T,R=>by
  obtain⟨t,u,u1,u2,rfl,h1,h2,O,E⟩:=(by simpa only[dR] using h);obtain⟨m,t',ys,rfl,W,Z,tr⟩:=jo h1 T R;obtain⟨I,Y,rfl,U,Z⟩:=dH Z;obtain⟨G,Y,rfl,a1,Z⟩:=dH Z;obtain⟨M,Y,rfl,a2,Z⟩:=dH Z;obtain⟨D,Y,rfl,a3,Z⟩:=dH Z;obtain rfl:=nX Z;rw[fi (v:=.str _) trivial U]at W;simp only[dR];exact{t',G,M,D,Z9,W,h2.alike (tr _ (by simp)) a1,O.alike (tr _ (by simp)) a2 fun m vs ys a b c=>eF.alike x vs ys m a b c,E.alike (tr _ (by simp)) a3 fun m vs ys a b c=>eF.alike y vs ys m a b c}
 |.fin,v,J,n,h,T,R=>by
  obtain⟨t,rfl,h1⟩:=(by simpa only[dR] using h);obtain⟨m,t',ys,rfl,W,Z,tr⟩:=jo h1 T R;obtain⟨I,Y,rfl,U,Z⟩:=dH Z;obtain rfl:=nX Z;rw[fi (v:=.str _) trivial U]at W;simp only[dR];exact⟨t',Z9,W⟩
theorem eF.alike{bs qs:List Str}{H H':Hp}:∀(d:Ds) (vs ys:List V) (n:Nat),eF bs qs H d vs->aO (Alike H H' n) vs ys->(∀x∈vs,Tree H n x)->eF bs qs H' d ys
 |.nil,vs,ys,n,h,Z,T=>by
  have e:vs=[]:=by simpa only[eF] using h
  subst e;obtain rfl:=nX Z;simp only[eF]
 |.cons d r,vs,ys,n,h,Z,T=>by
  obtain⟨v,W,rfl,h1,h2⟩:=(by simpa only[eF] using h);obtain⟨y,Y,rfl,a,b⟩:=dH Z;simp only[eF];exact{y,Y,Z9,dR.alike d v y n h1 (T v ax) a,eF.alike r W Y n h2 b fun x hx=>T x (aa _ hx)}
end
theorem sQ{W:Type}{R Y:V->W->Prop}{S:V->V->Prop}{T:V->Prop}(f:∀v a U,R v a->S v U->T v->Y U a):∀{xs ys:List V} {Z:List W},aO R xs Z->aO S xs ys->(∀x∈xs,T x)->aO Y ys Z:=by
 intro xs ys Z p
 induction p generalizing ys with
 |nil=>
  intro q _
  cases q;exact .nil
 |cons a b O=>
  intro q t
  cases q with
  |cons c d=>exact .cons (f _ _ _ a c (t _ ax)) (O d fun x hx=>t x (aa _ hx))
theorem tU.alike{bs qs:List Str}{ds:List Int}{hs:List (Str×Ds)}{H H':Hp}{v W:V}{n:Nat}(h:tU bs qs ds hs H v)(T:Tree H n v)(al:Alike H H' n v W):tU bs qs ds hs H' W:=by
 refine Z0 fun Gz R=>?_;obtain⟨t,bl,ql,dl,hl,nm,vb,hv,rfl,h1,h2,h3,h4,h5,h6,h7⟩:=h.ex;obtain⟨m,t',ys,rfl,g,Z,tr⟩:=jo h1 T al;obtain⟨y0,Y,rfl,a0,Z⟩:=dH Z;obtain⟨y1,Y,rfl,a1,Z⟩:=dH Z;obtain⟨y2,Y,rfl,a2,Z⟩:=dH Z;obtain⟨y3,Y,rfl,a3,Z⟩:=dH Z;obtain⟨y4,Y,rfl,a4,Z⟩:=dH Z;obtain rfl:=nX Z;obtain⟨m1,b',G,rfl,c1,f,t1⟩:=uW h2 (tr _ (by simp)) a1;obtain⟨m2,q',dg,rfl,E,d2,t2⟩:=uW h4 (tr _ (by simp)) a2;obtain⟨m3,e',di,rfl,D,d3,t3⟩:=uW h5 (tr _ (by simp)) a3;obtain⟨m4,f',I,rfl,c4,d4,t4⟩:=uW h6 (tr _ (by simp)) a4;refine R ?_;rw[jd d2 (by intro x hx;obtain⟨z,_,rfl⟩:=cD.mp hx;exact trivial)]at E;rw[jd d3 (by intro x hx;obtain⟨z,_,rfl⟩:=cD.mp hx;exact trivial)]at D;refine{t',b',q',e',f',y0,G,I,Z9,g,c1,sQ (fun v a W x y z=>?_) h3 f t1,E,D,c4,sQ (fun v a W x y z=>?_) h7 d4 t4}
 ·refine Z0 fun Gz R=>?_;obtain⟨p,k,rfl,hp⟩:=x;obtain⟨m',U,ws,rfl,k1,k2,_⟩:=jo hp z y;obtain⟨w0,wr,rfl,M,k2⟩:=dH k2;obtain⟨J,wr,rfl,B,k2⟩:=dH k2;refine R ?_;obtain rfl:=nX k2;rw[fi (v:=.str _) trivial M]at k1;exact⟨U,J,Z9,k1⟩
 ·obtain⟨p,u,rfl,hp,hu⟩:=x;obtain⟨m',U,ws,rfl,k1,k2,O⟩:=jo hp z y;obtain⟨w0,wr,rfl,M,k2⟩:=dH k2;obtain⟨J,wr,rfl,B,k2⟩:=dH k2;obtain rfl:=nX k2;rw[fi (v:=.str _) trivial M]at k1;exact{U,J,Z9,k1,hu.alike (O _ (by simp)) B fun m vs ys a b c=>eF.alike _ vs ys m a b c}
def zB(K:af):List V->Hp->VK->Prop:=fun xs H Q=>∃p ys,xs=[.ref p]/\(SqL K H p ys\/SqT K H p ys)/\Q (.int ys.length) H
theorem c7{X:Cx}(K:af)(Z:X.K=K):lG X (.builtin "len") (zB K):=by
 rw[<- Z];exact gX
theorem uX{X:Cx}(K:af)(Z:X.K=K):IxR X (Ma K):=by
 rw[<- Z];exact cy
theorem je{X:Cx}(K:af)(Z:X.K=K):IxR X (Mb K):=by
 rw[<- Z];exact aY
theorem uo{X:Cx}{pos:Pos}{es:List c8}{k:Nat}{t:TGs}{n:Nat}(K:af)(W:X.K=K)(hc:X.calm=true)(h:PGs X es t)
  (Y:(lF es X.env).length=n:=by rfl) (Z:(lF es X.env).findIdx? (·.1)=Z7:=by rfl):PG X (.Tuple es k pos) (gTup K n t):=by
 rw[<- W];exact sj hc h Y Z
theorem F3:1<=aG:=by decide
theorem oW{te:TE}{D:kK}{σ:St}{H:Hp}(h:te σ H D.rt):tRet te D σ H:=h
theorem Di{K:af}{m C dx R:ae}{fs:List (Str×V)}{f:Str}{Z:List V}{n i:Nat}{g:TG}{tc:L2.TT}{te:TE}{σ:St}{H:Hp}{Q:VK}(D:σ[i]?=Z8 (Z8 (.ref m)))(t:H m=Z8 (.ins C dx fs))(cl:Cls K C)(na:ff K C f)(lk:fs.lookup f=Z8 (.ref R))(O:H R=Z8 (.lst Z))(M:Z.length<1000)
  (Y:Nat->List V->Hp->Prop) (h0:Y 0 [] H) (E:∀i ys H,i<=Z.length->Y i ys H->ys.length<aG)
  (hs:∀i ys H,i<Z.length->Y i ys H->g (.int (0+i)) (cT n Z7++σ) H fun W H2=>W.drop n=σ/\tc W H2 fun b J=>if b=true then te W J fun y B=>Y (i+1) (ys++[y]) B else Y (i+1) ys J)
  (z:∀ys H,Y Z.length ys H->∀p,H p=Z7->Q (.ref p) (upd H p (.lst ys))):uM n (Kt (jJ (tCB (zB K) (jJ (L9 K (qN i) f) tN)) tN)) g tc te σ H Q:=by
 refine{.ref m,D,m,C,dx,fs,.ref R,Z9,t,cl,na,lk,R,Z,Z9,.inl (SqL.of O),(Z.length:Int),Z9,by lia,by lia,{fun i k ys H=>k=Z.length-i/\i<=Z.length/\Y i ys H,{Z.length,by simp,bE _,h0},?_}};rintro i k ys H ⟨rfl,hi,U⟩;refine{E i ys H hi U,?_}
 by_cases lt:i<Z.length
 ·refine .inr {lt,Y (i+1),fun G H' I=>{Z.length-(i+1),by lia,Z9,lt,I},fun x H' y=>?_};obtain⟨e,y⟩:=y;subst e y;exact hs i ys _ lt U
 ·have e:i=Z.length:=by lia
  subst e;exact .inl {aF _,z ys H U}
theorem uY{K:af}{a:ae}{xs:List V}{n i:Nat}{g:TG}{tc:L2.TT}{te:TE}{σ:St}{H:Hp}{Q:VK}(U:σ[i]?=Z8 (Z8 (.ref a)))(hx:SqL K H a xs)(Z:Nat->List V->Hp->Prop)(O:Z 0 [] H)(R:∀i ys H,i<=xs.length->Z i ys H->SqL K H a xs/\ys.length<aG)
  (hs:∀i x t ys H,xs[i]?=Z8 x->Z i ys H->H t=Z7->g (.ref t) (cT n Z7++σ) (upd H t (.tup [.int i,x])) fun Y H2=>Y.drop n=σ/\tc Y H2 fun b W=>if b=true then te Y W fun y M=>Z (i+1) (ys++[y]) M else Z (i+1) ys W)
  (J:∀ys H,Z xs.length ys H->∀p,H p=Z7->Q (.ref p) (upd H p (.lst ys))):uM n (KM K (jJ (qN i) tN)) g tc te σ H Q:=
 {.ref a,U,a,Z9,⟨xs,hx⟩,C3 Z O R hs J}
def nY(H:Hp)(v:V)(e:Ev):Prop:=∃t,v=.ref t/\H t=Z8 (.tup [.int e.t,.int e.r,.int e.to,.str e.sg,.int e.a,.int e.b])
theorem nY.same{H H':Hp}(s:bN H H'){v:V}{e:Ev}(h:nY H v e):nY H' v e:=by
 obtain⟨t,e,h⟩:=h;exact{t,e,s _ _ h}
def atP(e:Ev)(i:Nat):Ev:={e with fr:=-1,c:=i}
section
variable{P:aQ}{w:bU}{K:af}{mg:Str->Option aj}{base:cG}{f fP CB:ae}{fd fdP:cm}
inductive F4(vs:List V)(H:Hp)(Q:VK)(_e:XK):Prop where
 |mk(sl:ae)(svs:List V)(es:List Ev)(_:vs=[.ref sl])(_:H sl=Z8 (.lst svs))(_:aO (nY H) svs es)(_:es.length<1000)(_:∀(G:Hp) (l:ae) (ys:List V),bN H G->H l=Z7->G l=Z8 (.lst ys)->ys.length=es.length->(∀i y e,ys[i]?=Z8 y->es[i]?=Z8 e->fH G y (atP e i))->Q (.ref l) G):F4 vs H Q _e
def F6:Sp:=fun vs H Q Z=>F4 vs H Q Z
theorem scPf:bX ["signs"] ["signs"] (aT fv):=eQ
theorem ndPf:((["place","sign"]:List Str)++(["signs"]:List Str)).Nodup:=by decide +kernel
theorem Gj(D:Df K mg "pending_at_first" fv ["signs"] f fd)(ME:mg "enumerate"=Z7):cg P w K mg base CX0 1 f fd ["signs"] F6:=by
 refine D.F.ok scPf (fun vs H Q E h=>?_) (fun br A outer s H vs Q E hr h=>?_)
 ·obtain⟨sl,J,es,rfl,_⟩:=h;rfl
 obtain⟨sl,J,es,rfl,U,ps,bt,k⟩:=h;refine⟨_,aA (bD (oA ["place","sign"] (iU.open (N:=["signs"]) (sc:=aT fv) rfl rfl (by decide +kernel) rfl (by decide +kernel) (by decide +kernel) rfl (by decide +kernel)) rfl (xW (by rfl) ME (aq (pv 0) ao))
  (fun _ _ _ _=>uo (n:=2) K (by rfl) rfl (eP (iw (i:=0) ndPf rfl (Or.inl rfl)) (eP (iw (i:=1) ndPf rfl (Or.inl rfl)) lu))) (fun _ _ _ _=>mI)
  (fun _ _ _ _=>cW (aq (cW (aq (aP (je K (by rfl)) (pv 1) ah) (aq (aP (je K (by rfl)) (pv 1) ah) (aq (sX pk ah) (aq (pv 0) ao)))))
   (aq (aP (je K (by rfl)) (pv 1) ah) (aq (aP (je K (by rfl)) (pv 1) ah) (aq (aP (je K (by rfl)) (pv 1) ah) (aq (aP (je K (by rfl)) (pv 1) ah) ao)))))))),?_⟩
 have big:=dW;have bu:=aM ps;refine oW (uY (K:=K) rfl (SqL.of U) (fun i ys G=>ys.length=i/\bN H G/\∀j y e,ys[j]?=Z8 y->es[j]?=Z8 e->fH G y (atP e j)) {Z9,bN.refl _,fun j y e h=>by simp at h} ?_ ?_ ?_)
 ·rintro i ys G hi ⟨h1,h2,_⟩;exact{SqL.of (h2 _ _ U),by lia}
 ·rintro i x t ys G hi ⟨h1,h2,M⟩ ht;obtain⟨e,B,W,rfl,z⟩:=iJ ps hi;have R:=aH ht (.tup [.int i,.ref W]);have hq:=R _ _ (h2 _ _ z);refine{t,_,Z9,SqT.of ak,Z9,_,_,Z9,_,_,Z9,Z9,{Z9,?_}};unfold xM;refine eM ({_,Z9,W,_,_,_,Z9,Z9,SqT.of hq,Z9,_,Z9,W,_,_,_,Z9,Z9,SqT.of hq,Z9,_,Z9,_,Z9,(by show 4<=aG;decide),fun kt O=>?_});have sk:=aH O (.tup [.int e.t,.int e.r,.int (-1),.int i]);have Y:=sk _ _ hq;refine{_,Z9,W,_,_,_,Z9,Z9,SqT.of Y,Z9,_,Z9,W,_,_,_,Z9,Z9,SqT.of Y,Z9,_,Z9,W,_,_,_,Z9,Z9,SqT.of Y,Z9,_,Z9,W,_,_,_,Z9,Z9,SqT.of Y,Z9,(by show 5<=aG;decide),fun et I=>?_};have se:=aH I (.tup [.ref kt,.int e.to,.str e.sg,.int e.a,.int e.b]);have sA:=(R.trans sk).trans se;refine{by rw[aB,h1];rfl,h2.trans sA,fun j y e' hy Z=>?_}
  rcases tP j ys.length with lt|ge
  ·rw[fu lt]at hy;exact (M j y e' hy Z).same sA
  ·rw[dM ge]at hy;have ej:j=i:=by
    by_cases c:j-ys.length=0
    ·lia
    ·rw[List.getElem?_cons,if_neg c]at hy;simp at hy
   subst ej;rw[h1,AR]at hy;injection hy with hy;subst hy;rw[B]at Z;injection Z with Z;subst Z;exact{et,kt,Z9,ak,se _ _ ak}
 ·rintro ys G ⟨h1,h2,M⟩ l g;have V:=aH g (.lst ys);exact k _ l ys (h2.trans V) (none_of h2 g) ak (by lia) fun i y e hy B=>(M i y e hy B).same V
inductive Nb(vs:List V)(H:Hp)(Q:VK)(_e:XK):Prop where
 |mk(q:ae)(v:V)(_:vs=[.ref q,v])(_:H q=Z8 (.lst []))(_:Q (.int 0) H):Nb vs H Q _e
inductive Nc(vs:List V)(H:Hp)(Q:VK)(_e:XK):Prop where
 |mk(q:ae)(v:V)(_:vs=[.ref q,v])(_:H q=Z8 (.lst []))(_:Q .non (upd H q (.lst [v]))):Nc vs H Q _e
theorem wY:bX ["falling","thing","low","high","middle"] ["falling","thing"] (aT oG):=eQ
theorem scPic:bX ["falling","thing"] ["falling","thing"] (aT rM):=eQ
def Gk(r e s:V):List (Str×V):=dS "states" s (dS "ending" e (dS "records" r []))
structure BkT(K:af)(mg:Str->Option aj)(CB:ae):Prop where
 cl:Cls K CB
 nR:ff K CB "records"
 nE:ff K CB "ending"
 nS:ff K CB "states"
 m:mg "Book"=Z8 (.ref CB)
inductive K6(CB:ae)(vs:List V)(H:Hp)(Q:VK)(_e:XK):Prop where
 |mk(b dx:ae)(r e s:V)(_:vs=[.ref b,r,e,s])(_:H b=Z8 (.ins CB dx []))(_:∀G,G b=Z8 (.ins CB dx (Gk r e s))->But b H G->Q .non G):K6 CB vs H Q _e
def spBk(CB:ae):Sp:=fun vs H Q Z=>K6 CB vs H Q Z
theorem scBk:bX ["self","records","ending","states"] ["self","records","ending","states"] (aT pW):=eQ
theorem ok_bk(F:Fun K "__init__" "Book.__init__" pW f fd)(T:BkT K mg CB):cg P w K mg base CX0 1 f fd ["self","records","ending","states"] (spBk CB):=by
 refine F.ok scBk (fun vs H Q E h=>?_) (fun Z A outer s H vs Q E W h=>?_)
 ·obtain⟨b,dx,r,e,s',rfl,_⟩:=h;rfl
 obtain⟨b,dx,r,e,s',rfl,hb,k⟩:=h;refine{_,ag (gm (pv 0) (pv 1) rfl) (ag (gm (pv 0) (pv 2) rfl) (aA (gm (pv 0) (pv 3) rfl))),?_};have Y:=ik "records" r [];have V:=ik "ending" e (dS "records" r []);simp at Y;exact{_,Z9,_,Z9,b,CB,dx,[],Z9,hb,T.cl,T.nR,(by decide),_,Z9,_,Z9,b,CB,dx,_,Z9,ak,T.cl,T.nE,(by lia),_,Z9,_,Z9,b,CB,dx,_,Z9,ak,T.cl,T.nS,(by lia),k _ ak (((But.upd b H _).trans (But.upd b _ _)).trans (But.upd b _ _))}
theorem Jt(r e s:V):(Gk r e s).lookup ("records":Str)=Z8 r:=rfl
theorem bk_e(r e s:V):(Gk r e s).lookup ("ending":Str)=Z8 e:=rfl
theorem Ju(r e s:V):(Gk r e s).lookup ("states":Str)=Z8 s:=rfl
def pX(Z:Str):Sp:=fun vs H Q _=>∃a,vs=[a]/\Q (.str Z) H
theorem Dj:bX ["self"] ["self"] (aT mY):=eQ
theorem AS(F:Fun K "word" "Nought.word" mY f fd):pR P w K mg base CX0 1 f fd ["self"] (pX "nought"):=by
 refine F.okH Dj (fun vs H Q E h=>?_) (fun Z A outer s H vs Q E h=>?_)
 ·obtain⟨a,rfl,_⟩:=h;rfl
 obtain⟨a,rfl,q⟩:=h;exact{_,aA (bD bP),q}
end
theorem dR.ref{bs qs:List Str}{H:Hp}{d:Dd}{v:V}(h:dR bs qs H d v):∃t,v=.ref t:=by
 cases d<;>simp only[dR]at h
 ·obtain⟨t,_,e,_⟩:=h;exact⟨t,e⟩
 ·obtain⟨t,_,e,_⟩:=h;exact⟨t,e⟩
 ·obtain⟨t,_,e,_⟩:=h;exact⟨t,e⟩
 ·obtain⟨t,_,e,_⟩:=h;exact⟨t,e⟩
 ·obtain⟨t,_,_,_,e,_⟩:=h;exact⟨t,e⟩
 ·obtain⟨t,_,_,_,e,_⟩:=h;exact⟨t,e⟩
 ·obtain⟨t,e,_⟩:=h;exact⟨t,e⟩
theorem Tree.scal{H:Hp}{v:V}(h:C6 v):∀n,Tree H n v
 |0=>h
 |_+1=>.inl h
theorem Tree.atup{H:Hp}{a:ae}{xs:List V}{n:Nat}(h:H a=Z8 (.tup xs))(l:xs.length<1000)(k:∀x∈xs,Tree H n x):Tree H (n+1) (.ref a):=.inr {a,xs,Z9,.inr h,l,k}
theorem Tree.alst{H:Hp}{a:ae}{xs:List V}{n:Nat}(h:H a=Z8 (.lst xs))(l:xs.length<1000)(k:∀x∈xs,Tree H n x):Tree H (n+1) (.ref a):=.inr {a,xs,Z9,.inl h,l,k}
theorem iY.tree{bs qs:List Str}{H:Hp}{v:V}{f:Fm}(h:iY bs qs H v f):∀n,f.depth<=n->Tree H n v:=by
 induction h with
 |num h1 _=>exact fun n Z=>match n,Z with
  |n+1,_=>Tree.atup h1 (by show 2<1000;decide) fun x hx=>by
   simp at hx
   rcases hx with rfl|rfl<;>exact Tree.scal (by exact trivial) _
  |0,Z=>absurd Z (by unfold Fm.depth;decide)
 |box h1 _=>exact fun n Z=>match n,Z with
  |n+1,_=>Tree.atup h1 (by show 2<1000;decide) fun x hx=>by
   simp at hx
   rcases hx with rfl|rfl<;>exact Tree.scal (by exact trivial) _
  |0,Z=>absurd Z (by unfold Fm.depth;decide)
 |long h1 _=>exact fun n Z=>match n,Z with
  |n+1,_=>Tree.atup h1 (by show 2<1000;decide) fun x hx=>by
   simp at hx
   rcases hx with rfl|rfl<;>exact Tree.scal (by exact trivial) _
  |0,Z=>absurd Z (by unfold Fm.depth;decide)
 |got h1=>exact fun n Z=>match n,Z with
  |n+1,_=>Tree.atup h1 (by show 2<1000;decide) fun x hx=>by
   simp at hx
   rcases hx with rfl|rfl<;>exact Tree.scal (by exact trivial) _
  |0,Z=>absurd Z (by unfold Fm.depth;decide)
 |now h1=>exact fun n Z=>match n,Z with
  |n+1,_=>Tree.atup h1 (by decide) fun x hx=>by
   simp at hx
   rcases hx with rfl
   exact Tree.scal (by exact trivial) _
  |0,Z=>absurd Z (by unfold Fm.depth;decide)
 |two h1 _ _ _ W Y=>exact fun n Z=>match n,Z with
  |n+1,Z=>Tree.atup h1 (by show 3<1000;decide) fun x hx=>by
   unfold Fm.depth at Z;simp at hx
   rcases hx with rfl|rfl|rfl
   ·exact Tree.scal (by exact trivial) _
   ·exact W n (by lia)
   ·exact Y n (by lia)
  |0,Z=>absurd Z (by unfold Fm.depth;lia)
mutual
theorem dR.tree{bs qs:List Str}{H:Hp}:∀(d:Dd) (v:V) (n:Nat),dR bs qs H d v->2*d.deep+16<=n->Tree H n v
 |_,_,0,_,Y=>absurd Y (by omega)
 |.put x f,v,n+1,h,Y=>by
  obtain⟨t,u,rfl,h1,h2,Z⟩:=(by simpa only[dR] using h);refine Tree.atup h1 (by show 3<1000;decide) fun y hy=>?_;simp only[aE,e7,or_false]at hy
  rcases hy with rfl|rfl|rfl
  ·exact Tree.scal (by exact trivial) _
  ·exact Tree.scal (by exact trivial) _
  ·exact Z.1.tree n (by have:=Z.2;omega)
 |.push q f,v,n+1,h,Y=>by
  obtain⟨t,u,rfl,h1,h2,Z⟩:=(by simpa only[dR] using h);refine Tree.atup h1 (by show 3<1000;decide) fun y hy=>?_;simp only[aE,e7,or_false]at hy
  rcases hy with rfl|rfl|rfl
  ·exact Tree.scal (by exact trivial) _
  ·exact Tree.scal (by exact trivial) _
  ·exact Z.1.tree n (by have:=Z.2;omega)
 |.pull q x o,v,n+1,h,Y=>by
  obtain⟨t,u,rfl,h1,h2,Z,l,vs,rfl,W,J,M⟩:=(by simpa only[dR] using h);unfold Dd.deep at Y;refine Tree.atup h1 (by show 4<1000;decide) fun y hy=>?_;simp only[aE,e7,or_false]at hy
  rcases hy with rfl|rfl|rfl|rfl
  ·exact Tree.scal (by exact trivial) _
  ·exact Tree.scal (by exact trivial) _
  ·exact Tree.scal (by exact trivial) _
  ·obtain⟨m,rfl⟩:∃m,n=m+1:={n-1,by omega};exact Tree.alst W J (eF.tree o vs m M (by omega))
 |.draw x f,v,n+1,h,Y=>by
  obtain⟨t,u,rfl,h1,h2,Z⟩:=(by simpa only[dR] using h);refine Tree.atup h1 (by show 3<1000;decide) fun y hy=>?_;simp only[aE,e7,or_false]at hy
  rcases hy with rfl|rfl|rfl
  ·exact Tree.scal (by exact trivial) _
  ·exact Tree.scal (by exact trivial) _
  ·exact Z.1.tree n (by have:=Z.2;omega)
 |.send to G sp rk a b,v,n+1,h,Y=>by
  obtain⟨t,u,u1,u2,rfl,h1,h2,Z,W⟩:=(by simpa only[dR] using h);refine Tree.atup h1 (by show 7<1000;decide) fun y hy=>?_;simp only[aE,e7,or_false]at hy
  rcases hy with rfl|rfl|rfl|rfl|rfl|rfl|rfl
  ·exact Tree.scal (by exact trivial) _
  ·exact Tree.scal (by exact trivial) _
  ·exact Tree.scal (by exact trivial) _
  ·exact h2.1.tree n (by have:=h2.2;omega)
  ·exact Tree.scal (by exact trivial) _
  ·exact Z.1.tree n (by have:=Z.2;omega)
  ·exact W.1.tree n (by have:=W.2;omega)
 |.ife f x y,v,n+1,h,Y=>by
  obtain⟨t,u,u1,u2,rfl,h1,h2,⟨l,vs,rfl,O,R,I⟩,E,U,rfl,k1,k2,k3⟩:=(by simpa only[dR] using h);unfold Dd.deep at Y;refine Tree.atup h1 (by show 4<1000;decide) fun z hz=>?_;simp only[aE,e7,or_false]at hz;obtain⟨m,rfl⟩:∃m,n=m+1:={n-1,by omega}
  rcases hz with rfl|rfl|rfl|rfl
  ·exact Tree.scal (by exact trivial) _
  ·exact h2.1.tree _ (by have:=h2.2;omega)
  ·exact Tree.alst O R (eF.tree x vs m I (by omega))
  ·exact Tree.alst k1 k2 (eF.tree y U m k3 (by omega))
 |.fin,v,n+1,h,Y=>by
  obtain⟨t,rfl,h1⟩:=(by simpa only[dR] using h);refine Tree.atup h1 (by show 1<1000;decide) fun y hy=>?_;simp only[aE,e7,or_false]at hy;rw[hy];exact Tree.scal (by exact trivial) _
theorem eF.tree{bs qs:List Str}{H:Hp}:∀(d:Ds) (vs:List V) (n:Nat),eF bs qs H d vs->2*d.deep+16<=n->∀x∈vs,Tree H n x
 |.nil,vs,n,h,Z=>by
  have e:vs=[]:=by simpa only[eF] using h
  subst e;intro x hx
  cases hx
 |.cons d r,vs,n,h,Z=>by
  obtain⟨v,Y,rfl,h1,h2⟩:=(by simpa only[eF] using h);unfold Ds.deep at Z;intro x hx
  rcases aE.mp hx with rfl|hx
  ·exact dR.tree d _ n h1 (by omega)
  ·exact eF.tree r Y n h2 (by omega) x hx
end
section
variable{X:Cx}{es:List c8}{te:TE}{t:TA}
theorem uZ{Z:List c8}{k:Nat}{p:Pos}{env:Env}:cO (.Tuple Z k p::es) env=(false,gc (.Tuple Z k p) env)::cO es env:=by rfl
theorem j5{Z:List c8}{k:Nat}{p:Pos}(ha:PE X (.Tuple Z k p) te)(Y:PA X es t):PA X (.Tuple Z k p::es) (jJ te t):=aq ha Y (by rfl)
theorem AU{Z:List c8}{p:Pos}(ha:PE X (.List Z p) te)(Y:PA X es t):PA X (.List Z p::es) (jJ te t):=aq ha Y (by rfl)
theorem dj{c:Const}{k:Nat}{p:Pos}(ha:PE X (.Constant c k p) te)(Z:PA X es t):PA X (.Constant c k p::es) (jJ te t):=aq ha Z (by rfl)
theorem bj{x:Str}{p:Pos}(ha:PE X (.Name x p) te)(Z:PA X es t):PA X (.Name x p::es) (jJ te t):=aq ha Z (by rfl)
theorem jH{g:c8}{Z:List c8}{ks:List Od}{p:Pos}(ha:PE X (.Call g Z ks p) te)(Y:PA X es t):PA X (.Call g Z ks p::es) (jJ te t):=aq ha Y (by rfl)
theorem gJ{a b:c8}{p:Pos}(ha:PE X (.Subscript a b p) te)(Z:PA X es t):PA X (.Subscript a b p::es) (jJ te t):=aq ha Z (by rfl)
theorem oZ{a b:c8}{o:Im}{p:Pos}(ha:PE X (.BinOp a o b p) te)(Z:PA X es t):PA X (.BinOp a o b p::es) (jJ te t):=aq ha Z (by rfl)
end
theorem genH{T P:Hp->Prop}{G:Hp}(h:P G)(k:∀G',P G'->T G'):T G:=k G h
theorem K7{t:L2.TT}{a b:TS}{D:kK}{σ:St}{H:Hp}(h:t σ H fun c H1=>if c=true then a D σ H1 else b D σ H1):Il t a b D σ H:=h
theorem cU{D:kK}{σ:St}{H:Hp}(h:D.nx σ H):Eu D σ H:=h
def Det(t:L2.TT)(σ:St)(H:Hp)(b:Bool):Prop:=∀Q:Bool->Hp->Prop,Q b H->t σ H Q
theorem Det.and{tA tB:L2.TT}{σ:St}{H:Hp}{x y:Bool}(a:Det tA σ H x)(b:x=true->Det tB σ H y):Det (tAnd tA tB) σ H (x&&y):=fun Q q=>a _ (by
 cases x with
 |true=>exact eM (b rfl Q q)
 |false=>exact dP q)
theorem Det.or{tA tB:L2.TT}{σ:St}{H:Hp}{x y:Bool}(a:Det tA σ H x)(b:x=false->Det tB σ H y):Det (tOr tA tB) σ H (x||y):=fun Q q=>a _ (by
 cases x with
 |true=>exact eM q
 |false=>exact dP (b rfl Q q))
theorem jq{t:L2.TT}{a b:TS}{D:kK}{σ:St}{H:Hp}{c:Bool}(h:Det t σ H c)(k1:c=true->a D σ H)(k2:c=false->b D σ H):Il t a b D σ H:=h _ (by
 cases c with
 |true=>exact eM (k1 rfl)
 |false=>exact dP (k2 rfl))
theorem qV{i:Nat}{w k:Int}{σ:St}{H:Hp}(Z:σ[i]?=Z8 (Z8 (.int w))):Det (uC (tOp rEq (qN i) (tC (.int k)))) σ H (decide (w=k)):=fun Q q=>⟨_,Z,Z9,_,Z9,by
 rw[show decide (V.int w=V.int k)=decide (w=k) from by
  by_cases c:w=k
  ·simp_all
  ·rw[decide_eq_false c,decide_eq_false (fun z=>c (by cases z;rfl))]]
 exact q⟩
theorem AV{i:Nat}{w k:Int}{σ:St}{H:Hp}(Z:σ[i]?=Z8 (Z8 (.int w))):Det (uC (tOp (rI0 fun i j=>.bl (decide (i<j))) (qN i) (tC (.int k)))) σ H (decide (w<k)):=fun Q q=>{_,Z,_,_,Z9,Z9,_,Z9,q}
theorem Nd{i:Nat}{w k:Int}{σ:St}{H:Hp}(Z:σ[i]?=Z8 (Z8 (.int w))):Det (uC (tOp (rI0 fun i j=>.bl (decide (j<i))) (qN i) (tC (.int k)))) σ H (decide (k<w)):=fun Q q=>{_,Z,_,_,Z9,Z9,_,Z9,q}
theorem qp{K:af}{i:Nat}{a:ae}{xs:List V}{k:Int}{σ:St}{H:Hp}(Z:σ[i]?=Z8 (Z8 (.ref a)))(hx:H a=Z8 (.lst xs)):Det (uC (tOp (rI0 fun i j=>.bl (decide (j<i))) (tCB (zB K) (jJ (qN i) tN)) (tC (.int k)))) σ H (decide (k<xs.length)):=fun Q q=>{_,Z,a,xs,Z9,.inl (SqL.of hx),_,_,Z9,Z9,_,Z9,q}
theorem zC{K:af}{i:Nat}{a:ae}{xs:List V}{k:Int}{σ:St}{H:Hp}(Z:σ[i]?=Z8 (Z8 (.ref a)))(hx:H a=Z8 (.lst xs)):Det (uC (tOp rEq (tCB (zB K) (jJ (qN i) tN)) (tC (.int k)))) σ H (decide ((xs.length:Int)=k)):=fun Q q=>⟨_,Z,a,xs,Z9,.inl (SqL.of hx),Z9,_,Z9,by
 rw[show decide (V.int (xs.length:Int)=V.int k)=decide ((xs.length:Int)=k) from by
  by_cases c:(xs.length:Int)=k
  ·rw[decide_eq_true c,decide_eq_true (by rw[c])]
  ·rw[decide_eq_false c,decide_eq_false (fun z=>c (by injection z))]]
 exact q⟩
def zD(o:HO):Prop:=(∃xs,o=.tup xs)\/∃xs,o=.lst xs/\∀(i:Int) (r:List V),xs≠.int i::r
def eS(H H':Hp):Prop:=∀a o,H a=Z8 o->zD o->H' a=Z8 o
theorem eS.same{H H':Hp}(s:bN H H'):eS H H':=fun a o e _=>s _ _ e
theorem eS.trans{H H1 H2:Hp}(a:eS H H1)(b:eS H1 H2):eS H H2:=fun c o e n=>b _ _ (a _ _ e n) n
def Kp(own:List ae)(H G:Hp):Prop:=∀b o,H b=Z8 o->b∉own->G b=Z8 o
theorem Kp.refl(own:List ae)(H:Hp):Kp own H H:=fun _ _ e _=>e
theorem Kp.trans{own:List ae}{H G G':Hp}(a:Kp own H G)(b:Kp own G G'):Kp own H G':=fun c o e n=>b c o (a c o e n) n
theorem Kp.same{own:List ae}{H G:Hp}(s:bN H G):Kp own H G:=fun c o e _=>s _ _ e
theorem Kp.but{own:List ae}{H G:Hp}{p:ae}(s:But p H G)(m:p∈own):Kp own H G:=fun c o e n=>s _ _ e fun z=>n (z ▸ m)
theorem Kp.upd{own:List ae}{H:Hp}{a:ae}{o:HO}(m:a∈own):Kp own H (upd H a o):=fun c u e n=>by
 rw[aW fun z=>n (by rw[z];exact m)];exact e
theorem Kp.keepI{own:List ae}{H G:Hp}(k:Kp own H G)(h:∀a∈own,∃(i:Int) (r:List V),H a=Z8 (.lst (.int i::r))):eS H G:=fun a o e n=>k a o e fun m=>by
 obtain⟨i,r,q⟩:=h a m;rw[q]at e;injection e with e;subst e
 rcases n with⟨xs,n⟩|⟨xs,n,y⟩
 ·cases n
 ·grind
theorem eS.but{H H':Hp}{p:ae}(Z:eC H p)(b:But p H H'):eS H H':=Kp.keepI (own:=[p]) (Kp.but b ax) fun a m=>by
 obtain⟨x,y,h⟩:=Z;rw[aD.mp m];exact{x,_,h}
theorem qW(xs:List V):zD (.tup xs):=.inl ⟨xs,Z9⟩
theorem yd(Z:List Str):zD (.lst (Z.map V.str)):=.inr ⟨_,Z9,fun i r z=>by
 cases Z with
 |nil=>cases z
 |cons x xs=>cases z⟩
theorem eF.ni{bs qs:List Str}{H:Hp}{d:Ds}{vs:List V}(h:eF bs qs H d vs):zD (.lst vs):=.inr ⟨vs,Z9,fun i r z=>by
 subst z
 cases d with
 |nil=>
  cases h
 |cons d r=>
  obtain⟨v,Z,e,h1,_⟩:=(by simpa only[eF] using h);injection e with e;subst e;obtain⟨t,e⟩:=h1.ref
  cases e⟩
mutual
def Dd.toOk(m:Int):Dd->Prop
 |.send to _ _ _ _ _=>0<=to/\to<m
 |.pull _ _ o=>o.toOk m
 |.ife _ t e=>t.toOk m/\e.toOk m
 |_=>True
def Ds.toOk(m:Int):Ds->Prop
 |.nil=>True
 |.cons d r=>d.toOk m/\r.toOk m
end
theorem il{H:Hp}{p Z:ae}{bs:List Str}(Y:eC H p)(hb:H Z=Z8 (.lst (bs.map V.str))):Z≠p:=by
 obtain⟨x,y,e⟩:=Y;refine jD hb e fun z=>?_
 cases bs with
 |nil=>cases z
 |cons b r=>cases z
theorem md{bs:List Str}{r:Int}(Z:0<=r)(h1:r<bs.length):∃x,atI (bs.map V.str) r=Z8 (.str x)/\x∈bs:=by
 obtain⟨j,rfl⟩:∃j:Nat,r=(j:Int):={r.toNat,by lia};have lt:j<bs.length:=by lia
 exact{bs[j],gy (by rw[bM,aI lt];rfl),kJ lt}
theorem iY.but{bs qs:List Str}{H H':Hp}{p:ae}{v:V}{f:Fm}(Z:eC H p)(b:But p H H')(h:iY bs qs H v f):iY bs qs H' v f:=h.mono fun t xs e=>eS.but Z b _ _ e (qW xs)
section
variable{P:aQ}{w:bU}{K:af}{mg:Str->Option aj}{base:cG}{f fD fL fR fF:ae}{fd fdD fdL fdR fdF:cm}{bs qs:List Str}
seal PS PSs PE PA PT PW PI PG PGs PC
abbrev nLe:List Str:=["_law_purse_here","_law_boxes","_law_queues","_law_way"]
theorem scLe:bX nLe ["_law_purse_here","_law_boxes","_law_queues"] (aT iW):=eQ
inductive K8(bs qs:List Str)(vs:List V)(H:Hp)(Q:VK)(_e:XK):Prop where
 |mk(p lb lq:ae)(_:vs=[.ref p,.ref lb,.ref lq])(_:eC H p)(_:H lb=Z8 (.lst (bs.map V.str)))(_:H lq=Z8 (.lst (qs.map V.str)))(_:bs.length<=9)(_:qs.length<=9)(_:∀(v:V) (F:Fm) (H':Hp),iY bs qs H' v F->F.depth<=1->eC H' p->But p H H'->Q v H'):K8 bs qs vs H Q _e
def Jv(bs qs:List Str):Sp:=fun vs H Q Z=>K8 bs qs vs H Q Z
theorem K9(D:Df K mg "_law_leaf" iW ["_law_purse_here","_law_boxes","_law_queues"] f fd)(J:Df K mg "_law_draw" eV ["_law_purse_here","_law_out_of"] fD fdD)(B:Bl mg):cg P w K mg base CX0 2 f fd ["_law_purse_here","_law_boxes","_law_queues"] (Jv bs qs):=by
 have g:cg P w K mg base CX0 1 fD fdD ["_law_purse_here","_law_out_of"] lV:=kl J;refine D.F.ok scLe (fun vs H Q E h=>?_) (fun bz A outer s H vs Q E z h=>?_)
 ·obtain⟨p,lb,lq,rfl,_⟩:=h;rfl
 obtain⟨p,lb,lq,rfl,pu,hb,hq,bw,bB,k⟩:=h;refine⟨_,ag (pst 3 scLe (pcl g z J (bj (pv 0) (dj ah ao))))
  (ag (cC ((oj (aZ cZ (pv 3) ah) (kZ (aZ lI (cq (c7 K (by rfl)) (by rfl) B.len bO (bj (pv 1) ao)) ah))).pt) (aA (bD (cW (dj bP (gJ (aP cy (pv 1) (pcl g z J (bj (pv 0) (jH (cq (c7 K (by rfl)) (by rfl) B.len bO (bj (pv 1) ao)) ao)))) ao))))) bL)
  (ag (cC ((oj (aZ cZ (pv 3) ah) (kZ (aZ lI (cq (c7 K (by rfl)) (by rfl) B.len bO (bj (pv 2) ao)) ah))).pt) (aA (bD (cW (dj bP (gJ (aP cy (pv 2) (pcl g z J (bj (pv 0) (jH (cq (c7 K (by rfl)) (by rfl) B.len bO (bj (pv 2) ao)) ao)))) ao))))) bL)
  (ag (cC (aZ cZ (pv 3) ah) (aA (bD (cW (dj bP (jH (pcl g z J (bj (pv 0) (dj ah ao))) ao))))) bL)
  (ag (cC (aZ cZ (pv 3) ah) (aA (bD (cW (dj bP ao)))) bL)
  (ag (cC (aZ cZ (pcl g z J (bj (pv 0) (dj ah ao))) ah) (aA (bD (cW (dj bP (oZ (cI jm (pcl g z J (bj (pv 0) (oZ (cI gj (cI lH ah (cI j1 ah ah)) ah) ao))) (cI j1 ah ah)) ao))))) bL)
  (aA (bD (cW (dj bP (oZ (cI jm (pcl g z J (bj (pv 0) (dj ah ao))) ah) ao)))))))))),?_⟩
 have big:=dW;have cb:Af 10 15:={by decide,by decide,by decide};have cc:(10:Int)^(15:Int).toNat=1000000000000000:=by decide
 refine aX (cH ({_,Z9,p,6,Z9,pu,by decide,by decide,fun bI G w0 w1 W I=>bF ?_}));dsimp only;have O:=I _ _ hb (il pu hb);have M:=I _ _ hq (il pu hq);have fin:∀{U:Hp} {xs:List V} {F:Fm},But p H U->eC U p->(∀t,upd U t (.tup xs) t=Z8 (.tup xs)->U t=Z7->iY bs qs (upd U t (.tup xs)) (.ref t) F)->F.depth<=1->xs.length<=2->xs.length<=aG/\∀t,U t=Z7->Q (.ref t) (upd U t (.tup xs)):=fun {U xs F} R Z hF hd hl=>{by omega,fun t ht=>k _ F _ (hF t ak ht) hd (Z.same (aH ht _)) (R.same (aH ht _))};refine aX (jq (Det.and (qV rfl) fun _=>qp rfl O) (fun c=>?_) (fun _=>?_))
 ·have c2:=(gL _ _ ▸ c).2;have ca:0<bs.length:=by
   have:=of_decide_eq_true c2;rw[ai]at this;omega
  refine{_,Z9,_,Z9,_,Z9,lb,_,Z9,.inl (SqL.of O),p,_,Z9,W,by rw[ai];omega,by rw[ai];omega,fun r U r0 Y Z R=>?_};rw[ai]at Y;obtain⟨x,hx,mx⟩:=md r0 Y;exact{lb,_,_,_,Z9,Z9,SqL.of (R _ _ O (il W O)),hx,fin (I.trans R) Z (fun t h _=>.box h mx) (by show 1<=1;decide) (by show 2<=2;decide)}
 refine aX (jq (Det.and (qV rfl) fun _=>qp rfl M) (fun c=>?_) (fun _=>?_))
 ·have c2:=(gL _ _ ▸ c).2;have ca:0<qs.length:=by
   have:=of_decide_eq_true c2;rw[ai]at this;omega
  refine{_,Z9,_,Z9,_,Z9,lq,_,Z9,.inl (SqL.of M),p,_,Z9,W,by rw[ai];omega,by rw[ai];omega,fun r U r0 Y Z R=>?_};rw[ai]at Y;obtain⟨x,hx,mx⟩:=md r0 Y;exact{lq,_,_,_,Z9,Z9,SqL.of (R _ _ M (il W M)),hx,fin (I.trans R) Z (fun t h _=>.long h mx) (by show 1<=1;decide) (by show 2<=2;decide)}
 refine aX (jq (qV rfl) (fun _=>?_) (fun _=>?_))
 ·refine{_,Z9,p,2,Z9,W,by decide,by decide,fun r U r0 Y Z R=>?_};have er:r=if (decide (r=1))=true then 1 else 0:=by
   by_cases c:r=1
   ·rw[decide_eq_true c,if_pos rfl];exact c
   ·rw[decide_eq_false c,if_neg (by decide)];omega
  exact fin (I.trans R) Z (fun t h _=>.got (by rw[h,<- er])) (by show 1<=1;decide) (by show 2<=2;decide)
 refine aX (jq (qV rfl) (fun _=>?_) (fun _=>?_))
 ·exact fin I W (fun t h _=>.now h) (by decide) (by decide)
 refine aX ({_,Z9,p,9,Z9,W,by decide,by decide,fun r U r0 Y Z R=>{Z9,_,Z9,gr (fun _=>?_) (fun _=>?_)}})
 ·refine{_,Z9,_,_,Z9,Z9,cb,_,_,Z9,Z9,.inl {by decide,by decide},_,_,Z9,Z9,?_};rw[cc];refine{p,_,Z9,Z,by decide,by decide,fun r2 G2 bW bS cd b2=>{_,_,Z9,Z9,cb,_,_,Z9,Z9,?_}};rw[cc];exact fin ((I.trans R).trans b2) cd (fun t h _=>.num h (by unfold Wo;omega)) (by show 1<=1;decide) (by show 2<=2;decide)
 ·refine{_,Z9,p,7,Z9,Z,by decide,by decide,fun r2 G2 bW bS cd b2=>{_,_,Z9,Z9,?_}};exact fin ((I.trans R).trans b2) cd (fun t h _=>.num h (by unfold Wo;omega)) (by show 1<=1;decide) (by show 2<=2;decide)
abbrev nFo:List Str:=["_law_purse_here","_law_boxes","_law_queues","_law_deep","_law_word","_law_one"]
abbrev pFo:List Str:=["_law_purse_here","_law_boxes","_law_queues","_law_deep"]
theorem Nf:bX nFo pFo (aT hU):=eQ
inductive La(bs qs:List Str)(n:Nat)(vs:List V)(H:Hp)(Q:VK)(_e:XK):Prop where
 |mk(p lb lq:ae)(d:Nat)(_:vs=[.ref p,.ref lb,.ref lq,.int d])(_:d<n)(_:eC H p)(_:H lb=Z8 (.lst (bs.map V.str)))(_:H lq=Z8 (.lst (qs.map V.str)))(_:bs.length<=9)(_:qs.length<=9)(_:∀(v:V) (F:Fm) (H':Hp),iY bs qs H' v F->F.depth<=d+1->eC H' p->But p H H'->Q v H'):La bs qs n vs H Q _e
def Gm(bs qs:List Str)(n:Nat):Sp:=fun vs H Q Z=>La bs qs n vs H Q Z
def ye:List Str:=["plus","less","times","part","rest","below","same"]
theorem Gn{r:Int}(Z:0<=r)(h1:r<7):∃x,atI (ye.map V.str) r=Z8 (.str x)/\x∈wV:=by
 obtain⟨x,hx,m⟩:=md (bs:=ye) Z h1;refine{x,hx,?_};have:∀y∈ye,y∈wV:=by decide +kernel
 exact this x m
theorem Jw{n:Nat}(D:Df K mg "_law_formula" hU pFo f fd)(DL:Df K mg "_law_leaf" iW ["_law_purse_here","_law_boxes","_law_queues"] fL fdL)(DD:Df K mg "_law_draw" eV ["_law_purse_here","_law_out_of"] fD fdD)(B:Bl mg)(GR:cg P w K mg base CX0 (n+3) f fd pFo (Gm bs qs n)) :
  cg P w K mg base CX0 (n+4) f fd pFo (Gm bs qs (n+1)):=by
 have GD:cg P w K mg base CX0 1 fD fdD ["_law_purse_here","_law_out_of"] lV:=kl DD;have GL:cg P w K mg base CX0 2 fL fdL ["_law_purse_here","_law_boxes","_law_queues"] (Jv bs qs):=K9 DL DD B;refine D.F.ok Nf (fun vs H Q E h=>?_) (fun ck A outer s H vs Q E hr h=>?_)
 ·obtain⟨p,M,I,d,rfl,_⟩:=h;rfl
 obtain⟨p,M,I,d,rfl,dn,U,hb,hq,g,J,k⟩:=h;have r1:e8 1 _:=hr.mono (by omega);have r2:e8 2 _:=hr.mono (by omega);refine⟨_,ag (cC ((mB (aZ cZ (pv 3) ah) (lE (aZ lI (pcl GD r1 DD (bj (pv 0) (dj ah ao))) ah))).pt) (aA (bD (pcl GL r2 DL (bj (pv 0) (bj (pv 1) (bj (pv 2) ao)))))) bL)
  (ag (pst 4 Nf (aP cy (dO (dj bP (dj bP (dj bP (dj bP (dj bP (dj bP (dj bP ao)))))))) (pcl GD r1 DD (bj (pv 0) (dj ah ao)))))
  (ag (pst 5 Nf (pcl GR hr D (bj (pv 0) (bj (pv 1) (bj (pv 2) (oZ (cI jm (pv 3) ah) ao))))))
  (aA (bD (cW (bj (pv 4) (bj (pv 5) (jH (pcl GR hr D (bj (pv 0) (bj (pv 1) (bj (pv 2) (oZ (cI jm (pv 3) ah) ao))))) ao)))))))),?_⟩
 have big:=dW;have W:∀{G:Hp},eC G p->But p H G->Jv bs qs [.ref p,.ref M,.ref I] G Q E0:=fun {G} Z bG=>{p,M,I,Z9,Z,bG _ _ hb (il U hb),bG _ _ hq (il U hq),g,J,fun v F H' hF hd cr b'=>k v F H' hF (by omega) cr (bG.trans b')};refine aX (K7 ({_,Z9,Z9,_,Z9,gr (fun c=>?_) (fun c=>?_)}))
 ·exact eM {_,Z9,_,Z9,_,Z9,W U (But.refl _ _)}
 have d0:¬d=0:=fun z=>c (by rw[z];rfl);refine{_,Z9,p,3,Z9,U,by decide,by decide,fun r G r0 cl Z bG=>{_,_,Z9,Z9,_,Z9,gr (fun _=>?_) (fun _=>?_)}}
 ·exact{_,Z9,_,Z9,_,Z9,W Z bG}
 refine cU ?_;dsimp only;refine aX (cH ({by show 7<=aG;omega,fun l hl=>?_}));have sl:=aH hl (.lst (ye.map V.str));refine{_,Z9,p,7,Z9,Z.same sl,by decide,by decide,fun r2 G2 da cn cp b2=>?_};obtain⟨x,hx,mx⟩:=Gn da cn;have O:=(bG.same sl).trans b2;refine{l,_,_,_,Z9,Z9,SqL.of (b2 _ _ ak (il (Z.same sl) ak)),hx,bF ?_};dsimp only;refine aX (cH ?_);have em:(d:Int)-1=((d-1:Nat):Int):=by omega
 refine{_,Z9,_,Z9,_,Z9,_,Z9,_,_,Z9,Z9,p,M,I,d-1,(by show [V.ref p,V.ref M,V.ref I,V.int ((d:Int)-1)]=_;rw[em]),by omega,cp,O _ _ hb (il U hb),O _ _ hq (il U hq),g,J,fun v1 F1 G3 db d1 dc b3=>bF ?_};dsimp only;have R:=O.trans b3;refine oW (tup_i ({_,Z9,_,Z9,_,Z9,_,Z9,_,Z9,_,Z9,_,_,Z9,Z9,p,M,I,d-1,(by show [V.ref p,V.ref M,V.ref I,V.int ((d:Int)-1)]=_;rw[em]),by omega,dc,R _ _ hb (il U hb),R _ _ hq (il U hq),g,J,fun v2 F2 G4 cx d2 cs b4=>{by show 3<=aG;omega,fun t ht=>?_}}));have Y:=aH ht (.tup [.str x,v1,v2]);exact k _ (.two x F1 F2) _ (.two ak mx ((db.but dc b4).same Y) (cx.same Y)) (by show max F1.depth F2.depth+1<=d+1;omega) (cs.same Y) ((R.trans b4).same Y)
theorem Gp(D:Df K mg "_law_formula" hU pFo f fd)(Y:Df K mg "_law_leaf" iW ["_law_purse_here","_law_boxes","_law_queues"] fL fdL)(Z:Df K mg "_law_draw" eV ["_law_purse_here","_law_out_of"] fD fdD)(B:Bl mg):∀n:Nat,cg P w K mg base CX0 (n+3) f fd pFo (Gm bs qs n)
 |0=>⟨fun vs H Q E h=>by
   obtain⟨p,W,V,d,_,h,_⟩:=h;omega,fun A outer s H args U vs Q E _ _ _ _ h=>by
   obtain⟨p,W,V,d,_,h,_⟩:=h;omega⟩
 |n+1=>Jw D Y Z B (Gp D Y Z B n)
end
def Tk(H H':Hp):Prop:=∀(t:ae) (xs:List V),H t=Z8 (.tup xs)->H' t=Z8 (.tup xs)
def Nk(H H' H2:Hp):Prop:=∀(l:ae) (xs:List V),H l=Z7->zD (.lst xs)->H' l=Z8 (.lst xs)->H2 l=Z8 (.lst xs)
def OwD(bs qs:List Str)(H H':Hp)(d:Dd)(v:V):Prop:=∀H2,Tk H' H2->Nk H H' H2->dR bs qs H2 d v
def OwS(bs qs:List Str)(H H':Hp)(d:Ds)(vs:List V):Prop:=∀H2,Tk H' H2->Nk H H' H2->eF bs qs H2 d vs
theorem Tk.refl(H:Hp):Tk H H:=fun _ _ e=>e
theorem Nk.refl(H H':Hp):Nk H H' H':=fun _ _ _ _ e=>e
theorem OwS.now{bs qs:List Str}{H H':Hp}{d:Ds}{v:List V}(h:OwS bs qs H H' d v):eF bs qs H' d v:=h H' (Tk.refl _) (Nk.refl _ _)
theorem eS.tk{H H':Hp}(k:eS H H'):Tk H H':=fun t xs e=>k _ _ e (qW xs)
theorem eS.nk{H H1 H' H2:Hp}(k:eS H' H1)(n:Nk H H1 H2):Nk H H' H2:=fun l xs h i e=>n l xs h i (k _ _ e i)
theorem OwS.keepI{bs qs:List Str}{H H' H1:Hp}{d:Ds}{v:List V}(h:OwS bs qs H H' d v)(k:eS H' H1):OwS bs qs H H1 d v:=fun H2 t n=>h H2 (fun a xs e=>t a xs (k.tk a xs e)) (k.nk n)
def Dm(H G:Hp):Prop:=∀a,G a=Z7->H a=Z7
theorem Dm.same{H G:Hp}(s:bN H G):Dm H G:=fun a n=>none_of s n
theorem Dm.trans{H G G':Hp}(a:Dm H G)(b:Dm G G'):Dm H G':=fun x n=>a x (b x n)
theorem OwD.base{bs qs:List Str}{H H0 H':Hp}{d:Dd}{v:V}(h:OwD bs qs H H' d v)(s:Dm H0 H):OwD bs qs H0 H' d v:=fun H2 t n=>h H2 t fun l xs Z i e=>n l xs (s l Z) i e
theorem OwS.base{bs qs:List Str}{H H0 H':Hp}{d:Ds}{v:List V}(h:OwS bs qs H H' d v)(s:Dm H0 H):OwS bs qs H0 H' d v:=fun H2 t n=>h H2 t fun l xs Z i e=>n l xs (s l Z) i e
theorem OwD.old{bs qs:List Str}{H H':Hp}{d:Dd}{v:V}{a:ae}{o:HO}(h:OwD bs qs H H' d v)(W:H a≠Z7)(Y:∀xs,H' a≠Z8 (.tup xs)):OwD bs qs H (upd H' a o) d v:=fun H2 t n=>h H2 (fun b xs e=>t b xs (by rw[aW (fun z=>Y xs (by rw[<- z];exact e))];exact e)) fun l xs Z i e=>n l xs Z i (by rw[aW (fun z=>W (by rw[<- z];exact Z))];exact e)
theorem OwS.old{bs qs:List Str}{H H':Hp}{d:Ds}{v:List V}{a:ae}{o:HO}(h:OwS bs qs H H' d v)(W:H a≠Z7)(Y:∀xs,H' a≠Z8 (.tup xs)):OwS bs qs H (upd H' a o) d v:=fun H2 t n=>h H2 (fun b xs e=>t b xs (by rw[aW (fun z=>Y xs (by rw[<- z];exact e))];exact e)) fun l xs Z i e=>n l xs Z i (by rw[aW (fun z=>W (by rw[<- z];exact Z))];exact e)
theorem FmI.tk{bs qs:List Str}{H H2:Hp}{v:V}{F:Fm}(h:FmI bs qs H v F)(t:Tk H H2):FmI bs qs H2 v F:={h.1.mono t,h.2}
section
variable{bs qs:List Str}{H H':Hp}{t:ae}{u u1 u2:V}{F F1 F2:Fm}{x q:Str}
theorem Ng(h:H' t=Z8 (.tup [.str "put",.str x,u]))(m:x∈bs)(f:FmI bs qs H' u F):OwD bs qs H H' (.put x F) (.ref t):=fun H2 k _=>by simp only[dR];exact{t,u,Z9,k _ _ h,m,f.tk k}
theorem Jx(h:H' t=Z8 (.tup [.str "push",.str q,u]))(m:q∈qs)(f:FmI bs qs H' u F):OwD bs qs H H' (.push q F) (.ref t):=fun H2 k _=>by simp only[dR];exact{t,u,Z9,k _ _ h,m,f.tk k}
theorem Jy(h:H' t=Z8 (.tup [.str "draw",.str x,u]))(m:x∈bs)(f:FmI bs qs H' u F):OwD bs qs H H' (.draw x F) (.ref t):=fun H2 k _=>by simp only[dR];exact{t,u,Z9,k _ _ h,m,f.tk k}
theorem Nh(h:H' t=Z8 (.tup [.str "end"])):OwD bs qs H H' .fin (.ref t):=fun H2 k _=>by simp only[dR];exact{t,Z9,k _ _ h}
theorem Jz{to rk:Int}{Z:Str}(h:H' t=Z8 (.tup [.str "send",.int to,.str Z,u,.int rk,u1,u2]))(f:FmI bs qs H' u F)(f1:FmI bs qs H' u1 F1)(Y:FmI bs qs H' u2 F2):OwD bs qs H H' (.send to Z F rk F1 F2) (.ref t):=fun H2 k _=>by simp only[dR];exact{t,u,u1,u2,Z9,k _ _ h,f.tk k,f1.tk k,Y.tk k}
theorem JA{l:ae}{xs:List V}{d:Ds}(h:H' t=Z8 (.tup [.str "pull",.str q,.str x,.ref l]))(Y:q∈qs)(W:x∈bs)(Z:H l=Z7)(e:H' l=Z8 (.lst xs))(z:xs.length<1000)(D:OwS bs qs H H' d xs):OwD bs qs H H' (.pull q x d) (.ref t):=fun H2 k n=>by
 exact{t,.ref l,Z9,k _ _ h,Y,W,l,xs,Z9,n l xs Z D.now.ni e,z,D H2 k n}
theorem Ni{l Z:ae}{xs ys:List V}{d d':Ds}(h:H' t=Z8 (.tup [.str "if",u,.ref l,.ref Z]))(f:FmI bs qs H' u F)(R:H l=Z7)(e:H' l=Z8 (.lst xs))(z:xs.length<1000)(D:OwS bs qs H H' d xs)(Y:H Z=Z7)(U:H' Z=Z8 (.lst ys))(O:ys.length<1000)(W:OwS bs qs H H' d' ys):OwD bs qs H H' (.ife F d d') (.ref t):=fun H2 k n=>by
 exact{t,u,.ref l,.ref Z,Z9,k _ _ h,f.tk k,{l,xs,Z9,n l xs R D.now.ni e,z,D H2 k n},Z,ys,Z9,n Z ys Y W.now.ni U,O,W H2 k n}
theorem JB:OwS bs qs H H' .nil []:=fun _ _ _=>by simp only[eF]
end
theorem Gr{X:Cx}{st:c9}{t:TS}(t':TS)(h:PS X st t)(k:∀D σ H,t' D σ H->t D σ H):PS X st t':=fun pins s σ H D I q=>h pins s σ H D I (k D σ H q)
theorem Dk{n:Int}(h:-1000000<=n/\n<=1000000):Wo n:=by
 unfold Wo;omega
structure Nms(H:Hp)(lb lq ls:ae)(bs qs sgs:List Str):Prop where
 hb:H lb=Z8 (.lst (bs.map V.str))
 hq:H lq=Z8 (.lst (qs.map V.str))
 hs:H ls=Z8 (.lst (sgs.map V.str))
 lb9:bs.length<=9
 lq9:qs.length<=9
 ls9:sgs.length<=9
 ne:0<sgs.length
theorem Nms.keepI{H H':Hp}{W Z Y:ae}{bs qs sgs:List Str}(k:eS H H')(h:Nms H W Z Y bs qs sgs):Nms H' W Z Y bs qs sgs:=
 {k _ _ h.hb (yd _),k _ _ h.hq (yd _),k _ _ h.hs (yd _),h.lb9,h.lq9,h.ls9,h.ne}
def spanT(bs qs:List Str):TS:=fun D σ H=>∃(p U Y:ae) (W:V) (Z:Fm),σ[0]?=Z8 (Z8 (.ref p))/\σ[1]?=Z8 (Z8 (.ref U))/\σ[2]?=Z8 (Z8 (.ref Y))/\σ[5]?=Z8 (Z8 W)/\eC H p/\H U=Z8 (.lst (bs.map V.str))/\H Y=Z8 (.lst (qs.map V.str))/\bs.length<=9/\qs.length<=9/\iY bs qs H W Z/\Z.depth<=2 /\
 ∀(v:V) (F:Fm) (H':Hp),iY bs qs H' v F->F.depth<=2->eC H' p->But p H H'->D.nx (σ.set 5 (Z8 v)) H'
theorem Dl{Z:Type}{xs:List Z}{i:Nat}{x:Z}(h:xs[i]?=Z8 x):xs.set i x=xs:=by
 obtain⟨lt,e⟩:=aC.mp h;rw[<- e];exact List.set_getElem_self lt
def endT:TS:=fun D σ H=>∃(p:ae) (w:Int),σ[0]?=Z8 (Z8 (.ref p))/\σ[7]?=Z8 (Z8 (.int w))/\eC H p/\(∀(H':Hp) (t:ae),eC H' p->But p H H'->H' t=Z7->D.rt (.ref t) (upd H' t (.tup [.str "end"])))/\∀H',eC H' p->But p H H'->D.nx σ H'
section
variable{P:aQ}{w:bU}{K:af}{mg:Str->Option aj}{base:cG}{f fD fL fF fS fE f1:ae}{fd fdD fdL fdF fdS fdE fd1:cm}{bs qs sgs:List Str}
seal PS PSs PE PA PT PW PI PG PGs PC
abbrev nSnd:List Str:=["_law_purse_here","_law_boxes","_law_queues","_law_signs_here","_law_many","_law_span","_law_rank","_law_one","_law_other"]
abbrev Do:List Str:=["_law_purse_here","_law_boxes","_law_queues","_law_signs_here","_law_many"]
theorem wZ:bX nSnd Do (aT lT):=eQ
inductive Gs(bs qs sgs:List Str)(vs:List V)(H:Hp)(Q:VK)(_e:XK):Prop where
 |mk(p lb lq ls:ae)(m:Int)(_:vs=[.ref p,.ref lb,.ref lq,.ref ls,.int m])(_:eC H p)(_:Nms H lb lq ls bs qs sgs)(_:0<m)(_:m<1000)(_:∀(v:V) (d:Dd) (H':Hp),OwD bs qs H H' d v->d.toOk m->d.deep=0->d.size=1->eC H' p->But p H H'->Q v H'):Gs bs qs sgs vs H Q _e
def Lb(bs qs sgs:List Str):Sp:=fun vs H Q Z=>Gs bs qs sgs vs H Q Z
theorem Nj(D:Df K mg "_law_send" lT Do f fd)(DF:Df K mg "_law_formula" hU pFo fF fdF)(DL:Df K mg "_law_leaf" iW ["_law_purse_here","_law_boxes","_law_queues"] fL fdL)(U:Df K mg "_law_draw" eV ["_law_purse_here","_law_out_of"] fD fdD)(B:Bl mg):cg P w K mg base CX0 6 f fd Do (Lb bs qs sgs):=by
 have GD:cg P w K mg base CX0 1 fD fdD ["_law_purse_here","_law_out_of"] lV:=kl U;have GL:cg P w K mg base CX0 2 fL fdL ["_law_purse_here","_law_boxes","_law_queues"] (Jv bs qs):=K9 DL U B;have GF:cg P w K mg base CX0 5 fF fdF pFo (Gm bs qs 2):=Gp DF DL U B 2;refine D.F.ok wZ (fun vs H Q E h=>?_) (fun ei A outer s H vs Q E rF h=>?_)
 ·obtain⟨p,lb,lq,ls,m,rfl,_⟩:=h;rfl
 obtain⟨p,lb,lq,ls,m,rfl,W,N,m0,m1,k⟩:=h;have g:e8 1 _:=rF.mono (by omega);refine⟨_,ag (pst 5 wZ (cW (dj bP (oZ (cI gj ah (pcl GD g U (bj (pv 0) (dj ah ao)))) ao))))
  (ag (Gr (spanT bs qs) (cC (aZ cZ (pcl GD g U (bj (pv 0) (dj ah ao))) ah) (aA (pst 5 wZ (pcl GF rF DF (bj (pv 0) (bj (pv 1) (bj (pv 2) (dj ah ao))))))) bL) (fun D σ H q=>by
   refine Z0 fun Gz gz=>?_;obtain⟨p,lb,lq,v0,F0,h0,h1,h2,h5,W,hb,hq,eo,ey,hF,dF,k⟩:=q;refine gz ({_,h0,p,8,Z9,W,by decide,by decide,fun r G r0 J O M=>{Z9,_,Z9,gr (fun _=>?_) (fun _=>?_)}})
   ·exact{_,h0,_,h1,_,h2,p,lb,lq,1,Z9,by decide,O,M _ _ hb (il W hb),M _ _ hq (il W hq),eo,ey,fun v F H' em ew eL b'=>k v F H' em ew eL (M.trans b')}
   ·have z:=k v0 F0 G (hF.but W M) dF O M;rw[Dl h5]at z;exact z))
  (ag (pst 6 wZ (aP cy (dO (dj ah (dj ah (jH (pcl GD g U (bj (pv 0) (dj ah ao))) ao)))) (pcl GD g U (bj (pv 0) (dj ah ao)))))
  (ag (pst 7 wZ (pcl GF rF DF (bj (pv 0) (bj (pv 1) (bj (pv 2) (dj ah ao))))))
  (ag (pst 8 wZ (pcl GL (rF.mono (by omega)) DL (bj (pv 0) (bj (pv 1) (bj (pv 2) ao)))))
  (aA (bD (cW (dj bP (jH (pcl GD g U (bj (pv 0) (bj (pv 4) ao))) (gJ (aP cy (pv 3) (pcl GD g U (bj (pv 0) (jH (cq (c7 K (by rfl)) (by rfl) B.len bO (bj (pv 3) ao)) ao)))) (bj (pv 5) (bj (pv 6) (bj (pv 7) (bj (pv 8) ao)))))))))))))),?_⟩
 have big:=dW;refine aX (cH ({_,Z9,p,4,Z9,W,by decide,by decide,fun x G x0 x1 O M=>{_,_,Z9,Z9,lt2,fun t ht=>?_}}));have I:=aH ht (.tup [.str "number",.int (1+x)]);refine bF ?_;have NG:=N.keepI ((eS.but W M).trans (eS.same I));refine aX ({p,lb,lq,.ref t,.num (1+x),Z9,Z9,Z9,Z9,O.same I,NG.hb,NG.hq,N.lb9,N.lq9,.num ak (Dk {by omega,by omega}),by show 1<=2;decide,fun v5 F5 G1 et d5 fw b1=>?_});dsimp only;refine aX (cH ({_,Z9,p,10,Z9,fw,by decide,by decide,fun y G2 y0 y1 fx b2=>{by show 3<=aG;omega,fun l hl=>?_}}));have sl:=aH hl (.lst [.int 0,.int 1,.int y]);have eH:l≠p:=by
  obtain⟨a,b,e⟩:=fx;exact (ay e hl).symm
 refine{_,Z9,p,3,Z9,fx.same sl,by decide,by decide,fun z G3 z0 z1 fe b3=>?_};obtain⟨rk,fa⟩:∃rk:Int,atI [V.int 0,.int 1,.int y] z=Z8 (.int rk):=by
  obtain⟨j,rfl⟩:∃j:Nat,z=(j:Int):={z.toNat,by omega}
  match j,z1 with
  |0,_=>exact{0,Z9}
  |1,_=>exact{1,Z9}
  |2,_=>exact⟨y,Z9⟩
  |j+3,h=>exact absurd h (by omega)
 refine{l,_,_,_,Z9,Z9,SqL.of (b3 _ _ ak eH),fa,?_};refine bF ?_;dsimp only;have fy:But p H G3:=((((M.same I).trans b1).trans b2).same sl).trans b3;have eu:But p G1 G3:=(b2.same sl).trans b3;have N3:=N.keepI (eS.but W fy);refine aX (cH ?_);refine{_,Z9,_,Z9,_,Z9,p,lb,lq,1,Z9,by decide,fe,N3.hb,N3.hq,N.lb9,N.lq9,fun v7 F7 G4 ez d7 fo b4=>?_};refine bF ?_;dsimp only;have fz:=fy.trans b4;have N4:=N.keepI (eS.but W fz);refine aX (cH ?_);refine{_,Z9,_,Z9,_,Z9,p,lb,lq,Z9,fo,N4.hb,N4.hq,N.lb9,N.lq9,fun v8 F8 G5 el d8 Y b5=>?_};refine bF ?_;dsimp only;have ft:=fz.trans b5;have N5:=N.keepI (eS.but W ft);refine{_,Z9,_,Z9,p,m,Z9,Y,m0,by omega,fun to G6 eD ej fb b6=>?_};have N6:=N5.keepI (eS.but Y b6);refine{_,Z9,_,Z9,_,Z9,ls,_,Z9,.inl (SqL.of N6.hs),p,_,Z9,fb,by rw[ai];have:=N.ne;omega,by rw[ai];have:=N.ls9;omega,fun r G7 r0 J ep b7=>?_};rw[ai]at J;obtain⟨sg,ek,_⟩:=md r0 J;have N7:=N6.keepI (eS.but fb b7);refine{ls,_,_,_,Z9,Z9,SqL.of N7.hs,ek,_,Z9,_,Z9,_,Z9,_,Z9,by show 7<=aG;omega,fun tt er=>?_};have Z:=aH er (.tup [.str "send",.int to,.str sg,v5,.int rk,v7,v8]);have R:But p G5 G7:=b6.trans b7;have f5:=(((et.but fw eu).but fe (b4.trans b5)).but Y R).same Z;have f7:=((ez.but fo b5).but Y R).same Z;have f8:=(el.but Y R).same Z;refine k _ (.send to sg F5 rk F7 F8) _ ?_ ⟨eD,ej⟩ rfl rfl (ep.same Z) ((ft.trans R).same Z);exact Jz ak {f5,by omega} {f7,by omega} {f8,by omega}
def ddz:Nat->Nat
 |0=>1
 |n+1=>1+6*ddz n
abbrev pDe:List Str:=["_law_purse_here","_law_boxes","_law_queues","_law_signs_here","_law_many","_law_left","_law_deep"]
abbrev nDe:List Str:=["_law_purse_here","_law_boxes","_law_queues","_law_signs_here","_law_many","_law_left","_law_deep","_law_way","_law_ones","_law_others","_law_queue","_law_box"]
abbrev nDs:List Str:=["_law_purse_here","_law_boxes","_law_queues","_law_signs_here","_law_many","_law_left","_law_deep","_law_deeds_here","_law_k"]
theorem u0:bX nDe pDe (aT lU):=eQ
theorem Gu:bX nDs pDe (aT jG):=eQ
structure Lf(H:Hp)(p lf:ae):Prop where
 pu:eC H p
 hl:∃k:Int,H lf=Z8 (.lst [.int k])
theorem Lf.int{H:Hp}{p Z:ae}(h:Lf H p Z):∀a∈[p,Z],∃(i:Int) (r:List V),H a=Z8 (.lst (.int i::r)):=fun a m=>by
 obtain⟨x,y,e⟩:=h.pu;obtain⟨z,Y⟩:=h.hl
 rcases aE.mp m with rfl|m
 ·exact{x,_,e}
 ·rw[aD.mp m];exact{z,_,Y}
theorem Lf.ne{H:Hp}{p Z:ae}(h:Lf H p Z):Z≠p:=by
 obtain⟨x,y,e⟩:=h.pu;obtain⟨z,Y⟩:=h.hl;exact jD Y e (by intro q;cases q)
theorem Lf.but{H H':Hp}{p Z:ae}(h:Lf H p Z)(b:But p H H')(W:eC H' p):Lf H' p Z:=by
 obtain⟨z,Y⟩:=h.hl;exact{W,z,b _ _ Y h.ne}
theorem Lf.same{H H':Hp}{p Z:ae}(h:Lf H p Z)(s:bN H H'):Lf H' p Z:=by
 obtain⟨z,Y⟩:=h.hl;exact{h.pu.same s,z,s _ _ Y}
inductive Lc(bs qs sgs:List Str)(n:Nat)(vs:List V)(H:Hp)(Q:VK)(_e:XK):Prop where
 |mk(p lb lq ls lf:ae)(m:Int)(d:Nat)(_:vs=[.ref p,.ref lb,.ref lq,.ref ls,.int m,.ref lf,.int d])(_:d<n)(_:Lf H p lf)(_:Nms H lb lq ls bs qs sgs)(_:0<m)(_:m<1000)(_:∀(v:V) (dd:Dd) (H':Hp),OwD bs qs H H' dd v->dd.toOk m->dd.deep<=d->dd.size<=ddz d->Lf H' p lf->Kp [p,lf] H H'->Q v H'):Lc bs qs sgs n vs H Q _e
def spDe(bs qs sgs:List Str)(n:Nat):Sp:=fun vs H Q Z=>Lc bs qs sgs n vs H Q Z
inductive Ld(bs qs sgs:List Str)(n:Nat)(vs:List V)(H:Hp)(Q:VK)(_e:XK):Prop where
 |mk(p lb lq ls lf:ae)(m:Int)(d:Nat)(_:vs=[.ref p,.ref lb,.ref lq,.ref ls,.int m,.ref lf,.int d])(_:d<n)(_:Lf H p lf)(_:Nms H lb lq ls bs qs sgs)(_:0<m)(_:m<1000)(_:∀(l:ae) (xs:List V) (ds:Ds) (H':Hp),H l=Z7->H' l=Z8 (.lst xs)->xs.length<1000->OwS bs qs H H' ds xs->ds.toOk m->ds.deep<=d->ds.size<=3*ddz d->Lf H' p lf->Kp [p,lf] H H'->Q (.ref l) H'):Ld bs qs sgs n vs H Q _e
def Gv(bs qs sgs:List Str)(n:Nat):Sp:=fun vs H Q Z=>Ld bs qs sgs n vs H Q Z
def pY:Ds->Dd->Ds
 |.nil,d=>.cons d .nil
 |.cons a r,d=>.cons a (pY r d)
theorem B3{bs qs:List Str}{H:Hp}{d:Dd}{v:V}(Y:dR bs qs H d v):∀(ds:Ds) (xs:List V),eF bs qs H ds xs->eF bs qs H (pY ds d) (xs++[v])
 |.nil,xs,h=>by
  have e:xs=[]:=by simpa only[eF] using h
  subst e;unfold pY;exact{v,[],Z9,Y,Z9}
 |.cons a r,xs,h=>by
  obtain⟨u,Z,rfl,h1,h2⟩:=(by simpa only[eF] using h);unfold pY;exact{u,Z++[v],Z9,h1,B3 Y r Z h2}
theorem B4{m:Int}{d:Dd}(Z:d.toOk m):∀ds:Ds,ds.toOk m->(pY ds d).toOk m
 |.nil,_=>⟨Z,trivial⟩
 |.cons a r,h=>{h.1,B4 Z r h.2}
theorem w5(d:Dd):∀ds:Ds,(pY ds d).deep=max ds.deep d.deep
 |.nil=>by
  show max d.deep 0=max 0 d.deep;exact Nat.max_comm _ _
 |.cons a r=>by
  show max a.deep (pY r d).deep=max (max a.deep r.deep) d.deep;rw[w5 d r];exact (Nat.max_assoc _ _ _).symm
theorem w6(d:Dd):∀ds:Ds,(pY ds d).size=ds.size+d.size
 |.nil=>by
  show d.size+0=0+d.size;omega
 |.cons a r=>by
  show a.size+(pY r d).size=a.size+r.size+d.size;rw[w6 d r];omega
end
theorem Gw{bs qs:List Str}{H H':Hp}{ds:Ds}{xs:List V}{d:Dd}{v:V}(a:OwS bs qs H H' ds xs)(b:OwD bs qs H H' d v):OwS bs qs H H' (pY ds d) (xs++[v]):=fun H2 k n=>B3 (b H2 k n) ds xs (a H2 k n)
theorem JC:∀n,1<=ddz n
 |0=>aF _
 |n+1=>by
  show 1<=1+6*ddz n;omega
theorem Kp.dm{own:List ae}{H G:Hp}(k:Kp own H G)(h:∀a∈own,∃o,G a=Z8 o):Dm H G:=fun a n=>by
 cases e:H a with
 |none=>rfl
 |some o=>
  by_cases m:a∈own
  ·obtain⟨u,q⟩:=h a m;rw[q]at n
   cases n
  ·rw[k a o e m]at n
   cases n
theorem Lf.there{H:Hp}{p Z:ae}(h:Lf H p Z):∀a∈[p,Z],∃o,H a=Z8 o:=fun a m=>by
 obtain⟨i,r,e⟩:=h.int a m;exact{_,e}
section
variable{P:aQ}{w:bU}{K:af}{mg:Str->Option aj}{base:cG}{f fD fL fF fS fE f1:ae}{fd fdD fdL fdF fdS fdE fd1:cm}{bs qs sgs:List Str}
seal PS PSs PE PA PT PW PI PG PGs PC
theorem JD{n kk:Nat}(hk:7<=kk)(D:Df K mg "_law_deed" lU pDe f fd)(DS:Df K mg "_law_deeds" jG pDe fS fdS)(GS:cg P w K mg base CX0 kk fS fdS pDe (Gv bs qs sgs n))(DE:Df K mg "_law_send" lT Do fE fdE)(DF:Df K mg "_law_formula" hU pFo fF fdF)(DL:Df K mg "_law_leaf" iW ["_law_purse_here","_law_boxes","_law_queues"] fL fdL)(DD:Df K mg "_law_draw" eV ["_law_purse_here","_law_out_of"] fD fdD)(B:Bl mg) :
  cg P w K mg base CX0 (kk+1) f fd pDe (spDe bs qs sgs (n+1)):=by
 have GD:cg P w K mg base CX0 1 fD fdD ["_law_purse_here","_law_out_of"] lV:=kl DD;have GF:cg P w K mg base CX0 7 fF fdF pFo (Gm bs qs 4):=Gp DF DL DD B 4;have GE:cg P w K mg base CX0 6 fE fdE Do (Lb bs qs sgs):=Nj DE DF DL DD B;refine D.F.ok u0 (fun vs H Q E h=>?_) (fun eo A outer s H vs Q E hr h=>?_)
 ·obtain⟨p,R,I,ls,z,m,d,rfl,_⟩:=h;rfl
 obtain⟨p,R,I,ls,z,m,d,rfl,dn,L,N,m0,m1,k⟩:=h;have r1:e8 1 _:=hr.mono (by omega);have rF:=hr.mono hk;have rE:e8 6 _:=hr.mono (by omega);refine⟨_,ag (pst 7 u0 (pcl GD r1 DD (bj (pv 0) (dj ah ao))))
  (ag (cC ((oj (aZ oQ (pv 7) ah) (kZ (aZ lI (pv 6) ah))).pt) (ag (pst 8 u0 (pcl GS hr DS (bj (pv 0) (bj (pv 1) (bj (pv 2) (bj (pv 3) (bj (pv 4) (bj (pv 5) (oZ (cI jm (pv 6) ah) ao)))))))))
  (ag (pst 9 u0 (pcl GS hr DS (bj (pv 0) (bj (pv 1) (bj (pv 2) (bj (pv 3) (bj (pv 4) (bj (pv 5) (oZ (cI jm (pv 6) ah) ao)))))))))
  (aA (bD (cW (dj bP (jH (pcl GF rF DF (bj (pv 0) (bj (pv 1) (bj (pv 2) (dj ah ao))))) (bj (pv 8) (bj (pv 9) ao))))))))) bL)
  (ag (Gr endT (cC ((oj (aZ cZ (pv 7) ah) (kZ (aZ cZ (pcl GD r1 DD (bj (pv 0) (dj ah ao))) ah))).pt) (aA (bD (cW (dj bP ao)))) bL) (fun D σ H q=>by
   obtain⟨p,w,h0,h7,pu,k1,k2⟩:=q;refine{_,h7,Z9,_,Z9,?_};refine gr (fun _=>?_) (fun _=>?_)
   ·exact{_,h0,p,6,Z9,pu,by decide,by decide,fun r G r0 fz g bG=>{Z9,_,Z9,gr (fun _=>{F3,fun t ht=>k1 G t g bG ht}) (fun _=>k2 G g bG)}}
   ·exact dP (k2 H pu (But.refl _ _))))
  (ag (cC ((oj (aZ oQ (pv 7) ah) (kZ (aZ lI (cq (c7 K (by rfl)) (by rfl) B.len bO (bj (pv 2) ao)) ah))).pt) (ag (pst 10 u0 (aP cy (pv 2) (pcl GD r1 DD (bj (pv 0) (jH (cq (c7 K (by rfl)) (by rfl) B.len bO (bj (pv 2) ao)) ao)))))
  (ag (cC ((mB (aZ cZ (pv 7) ah) (mB (aZ cZ (cq (c7 K (by rfl)) (by rfl) B.len bO (bj (pv 1) ao)) ah) (lE (aZ cZ (pv 6) ah)))).pt) (aA (bD (cW (dj bP (bj (pv 10) (jH (pcl GF rF DF (bj (pv 0) (bj (pv 1) (bj (pv 2) (dj ah ao))))) ao)))))) bL)
  (ag (pst 11 u0 (aP cy (pv 1) (pcl GD r1 DD (bj (pv 0) (jH (cq (c7 K (by rfl)) (by rfl) B.len bO (bj (pv 1) ao)) ao)))))
  (aA (bD (cW (dj bP (bj (pv 10) (bj (pv 11) (jH (pcl GS hr DS (bj (pv 0) (bj (pv 1) (bj (pv 2) (bj (pv 3) (bj (pv 4) (bj (pv 5) (oZ (cI jm (pv 6) ah) ao)))))))) ao)))))))))) bL)
  (ag (cC ((oj (aZ oQ (pv 7) ah) (kZ (aZ lI (cq (c7 K (by rfl)) (by rfl) B.len bO (bj (pv 1) ao)) ah))).pt) (ag (pst 11 u0 (aP cy (pv 1) (pcl GD r1 DD (bj (pv 0) (jH (cq (c7 K (by rfl)) (by rfl) B.len bO (bj (pv 1) ao)) ao)))))
  (ag (cC (aZ cZ (pv 7) ah) (aA (bD (cW (dj bP (bj (pv 11) (jH (pcl GF rF DF (bj (pv 0) (bj (pv 1) (bj (pv 2) (dj ah ao))))) ao)))))) bL)
  (aA (bD (cW (dj bP (bj (pv 11) (jH (pcl GF rF DF (bj (pv 0) (bj (pv 1) (bj (pv 2) (dj ah ao))))) ao)))))))) bL)
  (aA (bD (pcl GE rE DE (bj (pv 0) (bj (pv 1) (bj (pv 2) (bj (pv 3) (bj (pv 4) ao)))))))))))),?_⟩
 have big:=dW;have mp:p∈[p,z]:=ax;have dz:=JC d;refine aX (cH ?_);refine{_,Z9,p,13,Z9,L.pu,by decide,by decide,fun ey G w0 w1 g bG=>?_};refine bF ?_;dsimp only;have LG:=L.but bG g;have kG:Kp [p,z] H G:=Kp.but bG mp;have NG:=N.keepI (eS.but L.pu bG);have fx:Dm H G:=kG.dm LG.there;refine aX ?_;refine jq (Det.and (AV rfl) fun _=>Nd rfl) (fun c=>?_) (fun _=>?_)
 ·have c2:=of_decide_eq_true (gL _ _ ▸ c).2;obtain⟨d',rfl⟩:∃d',d=d'+1:={d-1,by omega};have em:((d'+1:Nat):Int)-1=(d':Int):=by omega
  refine aX (cH ?_);refine{_,Z9,_,Z9,_,Z9,_,Z9,_,Z9,_,Z9,_,Z9,_,_,Z9,Z9,p,R,I,ls,z,m,d',(by show [V.ref p,V.ref R,V.ref I,V.ref ls,V.int m,V.ref z,V.int (((d'+1:Nat):Int)-1)]=_;rw[em]),by omega,LG,NG,m0,m1,fun l1 et M G1 fo h1 fy O1 t1 eH ez L1 k1=>?_};refine bF ?_;dsimp only;have N1:=NG.keepI (k1.keepI LG.int);have fw:Dm G G1:=k1.dm L1.there;refine aX (cH ?_);refine{_,Z9,_,Z9,_,Z9,_,Z9,_,Z9,_,Z9,_,Z9,_,_,Z9,Z9,p,R,I,ls,z,m,d',(by show [V.ref p,V.ref R,V.ref I,V.ref ls,V.int m,V.ref z,V.int (((d'+1:Nat):Int)-1)]=_;rw[em]),by omega,L1,N1,m0,m1,fun l2 er fe G2 ew h2 fa O2 t2 el ep U k2=>?_};refine bF ?_;dsimp only;have ft:=k2.keepI L1.int;have J:=N1.keepI ft;refine{_,Z9,_,Z9,_,Z9,p,R,I,2,Z9,by decide,U.pu,J.hb,J.hq,N.lb9,N.lq9,fun vf F G3 hF dF W O=>{_,Z9,_,Z9,by show 4<=aG;omega,fun t ht=>?_}};have Z:=aH ht (.tup [.str "if",vf,.ref l1,.ref l2]);have k3:=(eS.but U.pu O).trans (eS.same Z);refine k _ (.ife F M fe) _ (Ni ak {hF.same Z,by omega} (fx l1 fo) (k3 _ _ (ft _ _ h1 O1.now.ni) O1.now.ni) fy ((O1.base fx).keepI (ft.trans k3)) (fx l2 (fw l2 ew)) (k3 _ _ h2 O2.now.ni) fa ((O2.base (fx.trans fw)).keepI k3)) ⟨t1,t2⟩ ?_ ?_ ((U.but O W).same Z) (((kG.trans k1).trans k2).trans ((Kp.but O mp).trans (Kp.same Z)))
  ·show max M.deep fe.deep+1<=d'+1;omega
  ·show M.size+fe.size+1<=1+6*ddz d';omega
 refine cU ?_;dsimp only;refine aX ?_;refine{p,ey,Z9,Z9,g,fun H' t eD b' ht=>?_,fun G1 fG b1=>?_}
 ·have Z:=aH ht (.tup [.str "end"]);exact k _ .fin _ (Nh ak) trivial (bE _) dz ((LG.but b' eD).same Z) ((kG.trans (Kp.but b' mp)).trans (Kp.same Z))
 dsimp only;have L1:=LG.but b1 fG;have k1:Kp [p,z] H G1:=kG.trans (Kp.but b1 mp);have N1:=NG.keepI (eS.but g b1);have fw:Dm H G1:=k1.dm L1.there;refine aX ?_;refine jq (Det.and (AV rfl) fun _=>qp (K:=K) rfl N1.hq) (fun c=>?_) (fun _=>?_)
 ·have c2:=of_decide_eq_true (gL _ _ ▸ c).2;rw[ai]at c2;have:=N.lq9;refine aX (cH ?_);refine{_,Z9,_,Z9,_,Z9,I,_,Z9,.inl (SqL.of N1.hq),p,_,Z9,fG,by rw[ai];omega,by rw[ai];omega,fun r G2 r0 fz Y b2=>?_};rw[ai]at fz;obtain⟨q,hq,mq⟩:=md r0 fz;have J:=N1.keepI (eS.but fG b2);have U:=L1.but b2 Y;have k2:Kp [p,z] H G2:=k1.trans (Kp.but b2 mp);refine{I,_,_,_,Z9,Z9,SqL.of J.hq,hq,?_};refine bF ?_;dsimp only;refine aX ?_;refine jq (Det.or (qV rfl) fun _=>Det.or (zC (K:=K) rfl J.hb) fun _=>qV rfl) (fun _=>?_) (fun c=>?_)
  ·refine{_,Z9,_,Z9,_,Z9,_,Z9,p,R,I,1,Z9,by decide,Y,J.hb,J.hq,N.lb9,N.lq9,fun vf F G3 hF dF W O=>{by show 3<=aG;omega,fun t ht=>?_}};have Z:=aH ht (.tup [.str "push",.str q,vf]);exact k _ (.push q F) _ (Jx ak mq {hF.same Z,by omega}) trivial (bE _) dz ((U.but O W).same Z) ((k2.trans (Kp.but O mp)).trans (Kp.same Z))
  refine cU ?_;dsimp only;rw[B5,B5]at c;have cb:=of_decide_eq_false c.2.1;have cd:=of_decide_eq_false c.2.2;rw[ai]at cb;have:=N.lb9;obtain⟨d',rfl⟩:∃d',d=d'+1:={d-1,by omega};have em:((d'+1:Nat):Int)-1=(d':Int):=by omega
  refine aX (cH ?_);refine{_,Z9,_,Z9,_,Z9,R,_,Z9,.inl (SqL.of J.hb),p,_,Z9,Y,by rw[ai];omega,by rw[ai];omega,fun r2 G3 eu eL W O=>?_};rw[ai]at eL;obtain⟨x,hx,mx⟩:=md eu eL;have N3:=J.keepI (eS.but Y O);have L3:=U.but O W;have k3:Kp [p,z] H G3:=k2.trans (Kp.but O mp);have fb:Dm H G3:=k3.dm L3.there;refine{R,_,_,_,Z9,Z9,SqL.of N3.hb,hx,?_};refine bF ?_;dsimp only;refine{_,Z9,_,Z9,_,Z9,_,Z9,_,Z9,_,Z9,_,Z9,_,Z9,_,Z9,_,_,Z9,Z9,p,R,I,ls,z,m,d',(by show [V.ref p,V.ref R,V.ref I,V.ref ls,V.int m,V.ref z,V.int (((d'+1:Nat):Int)-1)]=_;rw[em]),by omega,L3,N3,m0,m1,fun l1 et M G4 fo h1 fy O1 t1 eH ez L4 k4=>{by show 4<=aG;omega,fun t ht=>?_}};have Z:=aH ht (.tup [.str "pull",.str q,.str x,.ref l1]);refine k _ (.pull q x M) _ (JA ak mq mx (fb l1 fo) (Z _ _ h1) fy ((O1.base fb).keepI (eS.same Z))) t1 ?_ ?_ (L4.same Z) ((k3.trans k4).trans (Kp.same Z))
  ·show M.deep+1<=d'+1;omega
  ·show M.size+1<=1+6*ddz d';omega
 refine cU ?_;dsimp only;refine aX ?_;refine jq (Det.and (AV rfl) fun _=>qp (K:=K) rfl N1.hb) (fun c=>?_) (fun _=>?_)
 ·have c2:=of_decide_eq_true (gL _ _ ▸ c).2;rw[ai]at c2;have:=N.lb9;refine aX (cH ?_);refine{_,Z9,_,Z9,_,Z9,R,_,Z9,.inl (SqL.of N1.hb),p,_,Z9,fG,by rw[ai];omega,by rw[ai];omega,fun r G2 r0 fz Y b2=>?_};rw[ai]at fz;obtain⟨x,hx,mx⟩:=md r0 fz;have J:=N1.keepI (eS.but fG b2);have U:=L1.but b2 Y;have k2:Kp [p,z] H G2:=k1.trans (Kp.but b2 mp);refine{R,_,_,_,Z9,Z9,SqL.of J.hb,hx,?_};refine bF ?_;dsimp only;refine aX ?_;refine jq (qV rfl) (fun _=>?_) (fun _=>?_)
  ·refine{_,Z9,_,Z9,_,Z9,_,Z9,p,R,I,1,Z9,by decide,Y,J.hb,J.hq,N.lb9,N.lq9,fun vf F G3 hF dF W O=>{by show 3<=aG;omega,fun t ht=>?_}};have Z:=aH ht (.tup [.str "draw",.str x,vf]);exact k _ (.draw x F) _ (Jy ak mx {hF.same Z,by omega}) trivial (bE _) dz ((U.but O W).same Z) ((k2.trans (Kp.but O mp)).trans (Kp.same Z))
  refine cU ?_;dsimp only;refine{_,Z9,_,Z9,_,Z9,_,Z9,p,R,I,3,Z9,by decide,Y,J.hb,J.hq,N.lb9,N.lq9,fun vf F G3 hF dF W O=>{by show 3<=aG;omega,fun t ht=>?_}};have Z:=aH ht (.tup [.str "put",.str x,vf]);exact k _ (.put x F) _ (Ng ak mx {hF.same Z,by omega}) trivial (bE _) dz ((U.but O W).same Z) ((k2.trans (Kp.but O mp)).trans (Kp.same Z))
 refine cU ?_;dsimp only;refine{_,Z9,_,Z9,_,Z9,_,Z9,_,Z9,p,R,I,ls,m,Z9,fG,N1,m0,m1,fun v dd G2 hO to dp sz Y b2=>?_};exact k _ dd _ (hO.base fw) to (by omega) (by omega) (L1.but b2 Y) (k1.trans (Kp.but b2 mp))
theorem JE{n kk:Nat}(hk:1<=kk)(D:Df K mg "_law_deeds" jG pDe f fd)(D1:Df K mg "_law_deed" lU pDe f1 fd1)(G1:cg P w K mg base CX0 kk f1 fd1 pDe (spDe bs qs sgs n))(DD:Df K mg "_law_draw" eV ["_law_purse_here","_law_out_of"] fD fdD)(B:Bl mg) :
  cg P w K mg base CX0 (kk+1) f fd pDe (Gv bs qs sgs n):=by
 refine D.F.ok Gu (fun vs H Q E h=>?_) (fun da A outer s H vs Q E hr h=>?_)
 ·obtain⟨p,lb,lq,ls,Y,m,d,rfl,_⟩:=h;rfl
 obtain⟨p,lb,lq,ls,Y,m,d,rfl,dn,L,N,m0,m1,k⟩:=h;have r1:=hr.mono hk;refine⟨_,ag (pst 7 Gu (dO ao))
  (ag (fq bV rfl (jE (by rfl) B.range (jH (pcl (kl DD) r1 DD (bj (pv 0) (dj ah ao))) ao)) (pgn 8 Gu) (aA (cC (aZ lI (aP cy (pv 5) ah) ah) (ag (pf (cI jm (aP cy (pv 5) ah) ah) (qO (pv 5) ah lN))
  (aA (cV (ia aL bA bC dI (pv 7) (jH (pcl G1 hr D1 (bj (pv 0) (bj (pv 1) (bj (pv 2) (bj (pv 3) (bj (pv 4) (bj (pv 5) (bj (pv 6) ao)))))))) ao))))) bL)))
  (aA (bD (pv 7)))),?_⟩
 have big:=dW;have mp:p∈[p,Y]:=ax;have ml:Y∈[p,Y]:=aa _ ax;refine aX (cH ({bE _,fun U dV=>?_}));have s0:=aH dV (.lst []);refine bF ?_;dsimp only;have n0:U∉[p,Y]:=fun z=>by
  obtain⟨i,r,e⟩:=L.int U z;rw[dV]at e
  cases e
 refine aX ?_;refine{_,Z9,p,4,Z9,L.pu.same s0,by decide,by decide,fun r G r0 de dg bG=>{r,Z9,by omega,by omega,?_}};have LG:=(L.same s0).but bG dg;have kG:Kp [p,Y] H G:=(Kp.same s0).trans (Kp.but bG mp);have dz:G U=Z8 (.lst []):=bG _ _ ak (fun z=>n0 (by rw[z];exact mp));refine j0 (n:=r.toNat) (fun i σ G'=>∃(xs:List V) (ds:Ds) (v8:Option V),σ=[Z8 (.ref p),Z8 (.ref lb),Z8 (.ref lq),Z8 (.ref ls),Z8 (.int m),Z8 (.ref Y),Z8 (.int d),Z8 (.ref U),v8]/\G' U=Z8 (.lst xs)/\xs.length<=i/\i<=3/\OwS bs qs (upd H U (.lst [])) G' ds xs/\ds.toOk m/\ds.deep<=d/\ds.size<=i*ddz d/\Lf G' p Y/\Kp [p,Y] H G')
  {[],.nil,_,Z9,dz,aF _,by decide,JB,trivial,bE _,bE _,LG,kG} ?_ ?_
 ·intro i σ W hi qz;refine Z0 fun Gz gz=>?_;obtain⟨xs,ds,v8,rfl,g,dl,i3,O,to,dp,sz,L1,k1⟩:=qz;refine gz ?_;obtain⟨J,hc⟩:=L1.hl;have dk:ds.size<=(i+1)*ddz d:=cR sz (Dp _ (e9 _));refine K7 ?_;refine{_,Z9,Y,_,_,_,Z9,Z9,SqL.of hc,Z9,_,_,Z9,Z9,_,Z9,?_};refine gr (fun _=>?_) (fun _=>?_)
  ·refine aX (cH ?_);refine{_,Z9,Y,_,_,_,Z9,Z9,SqL.of hc,Z9,_,_,Z9,Z9,_,Z9,Y,[.int J],0,0,Z9,Z9,hc,Z9,?_};have dt:upd W Y (.lst ([V.int J].set 0 (.int (J-1)))) Y=Z8 (.lst [.int (J-1)]):=ak;have R:Kp [p,Y] W (upd W Y (.lst ([V.int J].set 0 (.int (J-1))))):=Kp.upd ml;have M:Lf (upd W Y (.lst ([V.int J].set 0 (.int (J-1))))) p Y:=by
    obtain⟨x,y,e⟩:=L1.pu;exact{{x,y,aN e L1.ne.symm},_,dt}
   have I:=R.keepI L1.int;have N2:=(N.keepI (k1.keepI L.int)).keepI I;have Z:=R _ _ g n0;have O2:=O.keepI I;revert M I N2 Z O2 R;generalize upd W Y (.lst ([V.int J].set 0 (.int (J-1))))=G2;intro R M I N2 Z O2;refine{_,Z9,.inl {Z9,_,SqL.of Z},_,Z9,_,Z9,_,Z9,_,Z9,_,Z9,_,Z9,_,Z9,p,lb,lq,ls,Y,m,d,Z9,dn,M,N2,m0,m1,fun v dd G3 hO t db dc L3 dG=>?_};have dL:=dG _ _ Z n0;refine{U,xs,v,Z9,Z9,dL,by omega,?_};have di:=dG.keepI M.int;have ol:G2 U≠Z7:=by
    rw[Z];intro z
    cases z
   have dw:∀ys,G3 U≠Z8 (.tup ys):=fun ys z=>by
    rw[dL]at z
    cases z
   have dq:upd H U (.lst []) U≠Z7:=by
    rw[ak];intro z
    cases z
   have du:Dm (upd H U (.lst [])) G2:=fun a na=>by
    by_cases ca:a=U
    ·rw[ca,Z]at na
     cases na
    ·rw[aW ca];exact (k1.trans R).dm M.there a na
   refine{xs++[v],pY ds dd,_,Z9,ak,by rw[aB];show xs.length+1<=i+1;omega,by omega,Gw ((O2.keepI di).old dq dw) ((hO.old ol dw).base du),B4 t ds to,by rw[w5];omega,?_,?_,?_}
   ·rw[w6,Nat.succ_mul];omega
   ·obtain⟨x,y,e⟩:=L3.pu;obtain⟨z,e'⟩:=L3.hl;exact{{x,y,aN e (fun q=>n0 (by rw[<- q];exact mp))},z,aN e' (fun q=>n0 (by rw[<- q];exact ml))}
   ·exact fun b o e nb=>aN (((k1.trans R).trans dG) b o e nb) (ay e dV)
  ·exact{xs,ds,_,Z9,g,by omega,by omega,O,to,dp,dk,L1,k1}
 ·intro σ W qz;refine Z0 fun Gz gz=>?_;obtain⟨xs,ds,v8,rfl,g,dl,i3,O,to,dp,sz,L1,k1⟩:=qz;refine gz ?_;refine{_,Z9,k U xs ds W dV g (by omega) (O.base (Dm.same s0)) to dp (cR sz (Dp _ i3)) L1 k1}
theorem Le(D:Df K mg "_law_deeds" jG pDe f fd)(Y:Df K mg "_law_deed" lU pDe f1 fd1)(V:Df K mg "_law_send" lT Do fE fdE)(U:Df K mg "_law_formula" hU pFo fF fdF)(W:Df K mg "_law_leaf" iW ["_law_purse_here","_law_boxes","_law_queues"] fL fdL)(Z:Df K mg "_law_draw" eV ["_law_purse_here","_law_out_of"] fD fdD)(B:Bl mg) :
  ∀n:Nat,cg P w K mg base CX0 (7+2*n) f fd pDe (Gv bs qs sgs n)
 |0=>⟨fun vs H Q E h=>by
   obtain⟨p,R,M,O,J,m,d,_,h,_⟩:=h;omega,fun A outer s H args I vs Q E _ _ _ _ h=>by
   obtain⟨p,R,M,O,J,m,d,_,h,_⟩:=h;omega⟩
 |n+1=>JE (kk:=7+2*n+1) (by omega) D Y (JD (by omega) Y D (Le D Y V U W Z B n) V U W Z B) Z B
end
end My
namespace L2
open PySem PySem.Spec PyProof.Rows
section
variable{X:Cx}
def rSlS:V->Option Int->Option Int->Hp->VK->Prop:=fun x lo hi H Q=>∃y,x=.str y/\y.length<=aG/\Q (.str (o4 y lo hi)) H
theorem Nl:SlR X rSlS:=by
 intro pins s σ H x v U V lo hi sl Q I Y hs pl Z h;obtain⟨y,rfl,hy,q⟩:=h;obtain⟨t,rfl⟩:=Y;have fin:∀(l u:Option (Int×Tok)),o4 y (l.map (·.1)) (u.map (·.1))=o4 y lo hi->s.heap.IsSlice sl l u Z7->∃T id,As (.type T) "__getitem__"=pure (Z8 (.builtin id))/\s.TypeIs (.str y t) T/\bQ (bR X.prog X.w) X.A (vG (.str y t) (.ref sl)) (EP X pins σ Q) X.xe s:=fun l u e h=>by
  exact{"str",_,F.slot_str_getitem.lookup,Md _ _ _,wpAny_getItem_str_slice (u:=u) (st:=Z7) h rfl (post_val_or_str {cR (Txt.slice_le y (l.map (·.1)) (u.map (·.1))) hy,fun t' k=>{.str (o4 y lo hi),H,I.tok _,{t',by rw[<- e];rfl},q}})}
 cases pl with
 |none=>cases Z with
  |none=>exact fin Z7 Z7 rfl hs
  |int j u=>exact fin Z7 (Z8 (j,u)) rfl hs
 |int i u=>cases Z with
  |none=>exact fin (Z8 (i,u)) Z7 rfl hs
  |int j W=>exact fin (Z8 (i,u)) (Z8 (j,W)) rfl hs
end
end L2
namespace My
open PySem L2
def abc:Str:="abcdefghijklmnopqrstuvwxyz"
theorem JF:abc.cps.toList.length=26:=by decide +kernel
theorem w8:abc.length<=aG:=by decide +kernel
theorem Nm:abc.cps.toList.Nodup:=by decide +kernel
theorem Nn{z:Int}(Z:0<=z)(h1:z<26):∃c,abc.cps.toList[z.toNat]?=Z8 c/\atI abc.cps.toList z=Z8 c:=by
 obtain⟨j,rfl⟩:∃j:Nat,z=(j:Int):={z.toNat,by omega};have l:j<abc.cps.toList.length:=by rw[JF];omega
 exact{abc.cps.toList[j],by rw[Int.toNat_natCast];exact aI l,gy (aI l)}
def oN:List Int:=[1,3,5,25,7,11]
def placeOf(b st:Int)(i:Nat):Int:=(b+st*(0+(i:Int)))%26
theorem rT(b st:Int)(i:Nat):0<=placeOf b st i/\placeOf b st i<26:={jI _ (by decide),iL _ (by decide)}
theorem Gx{b st:Int}(hs:st∈oN){i j:Nat}(hi:i<9)(Z:j<9)(h:placeOf b st i=placeOf b st j):i=j:=by
 unfold placeOf at h;unfold oN at hs;simp at hs
 rcases hs with rfl|rfl|rfl|rfl|rfl|rfl<;>omega
def GN(b st:Int)(Z:List Str):Prop:=∀i s,Z[i]?=Z8 s->∃c,abc.cps.toList[(placeOf b st i).toNat]?=Z8 c/\s.cps.toList[0]?=Z8 c
theorem JG{i j:Nat} {c} (hi:abc.cps.toList[i]?=Z8 c) (Z:abc.cps.toList[j]?=Z8 c):i=j:=(Gy ((aC.mp hi).1) Nm).mp (hi.trans Z.symm)
theorem GN.nodup{b st:Int}(hs:st∈oN){Y:List Str}(h:GN b st Y)(J:Y.length<=9):Y.Nodup:=by
 refine dA.mpr fun i j V W U e=>?_;obtain⟨c,a1,a2⟩:=h i _ (aI V);obtain⟨d,R,Z⟩:=h j _ (aI W);rw[<- e,a2]at Z;injection Z with Z;subst Z;have z:=JG a1 R;obtain⟨I,p2⟩:=rT b st i;obtain⟨M,O⟩:=rT b st j;have w:placeOf b st i=placeOf b st j:=by omega
 have:=Gx hs (by omega) (by omega) w;omega
theorem GN.snoc{b st:Int}{Z:List Str}{s:Str} {c} (h:GN b st Z) (h2:abc.cps.toList[(placeOf b st Z.length).toNat]?=Z8 c) (W:s.cps.toList[0]?=Z8 c):GN b st (Z++[s]):=by
 intro i x e
 by_cases hi:i<Z.length
 ·rw[fu hi]at e;exact h i x e
 ·rw[dM (by omega)]at e;have z:i-Z.length=0:=by grind
  have Y:i=Z.length:=by omega
  rw[z]at e;simp at e;subst e;rw[Y];exact⟨c,h2,W⟩
theorem zE(x y:Str):(x++y).length=x.length+y.length:=by
 show (x++y).cps.size=x.cps.size+y.cps.size;show (x.cps++y.cps).size=_;rw[Array.size_append]
theorem yf{x y:Str} {c} (h:x.cps.toList[0]?=Z8 c):(x++y).cps.toList[0]?=Z8 c:=by
 show (x.cps++y.cps).toList[0]?=Z8 c;rw[Array.toList_append,fu (aC.mp h).1];exact h
theorem GG{r:Int}(Z:0<=r)(h1:r<6):∃st,atI (oN.map V.int) r=Z8 (.int st)/\st∈oN:=by
 obtain⟨j,rfl⟩:∃j:Nat,r=(j:Int):={r.toNat,by omega};have lt:j<oN.length:=by
  show j<6;omega
 exact{oN[j],gy (by rw[bM,aI lt];rfl),kJ lt}
section
variable{P:aQ}{w:bU}{K:af}{mg:Str->Option aj}{base:cG}{f fD:ae}{fd fdD:cm}
seal PS PSs PE PA PT PW PI PG PGs PC
inductive zF(vs:List V)(H:Hp)(Q:VK)(_e:XK):Prop where
 |mk(p:ae)(n:Int)(_:vs=[.ref p,.int n])(_:eC H p)(_:0<=n)(_:n<=9)(_:∀(l:ae) (ss:List Str) (H':Hp),H l=Z7->H' l=Z8 (.lst (ss.map V.str))->(ss.length:Int)=n->ss.Nodup->(∀x∈ss,x.length<=6)->eC H' p->But p H H'->Q (.ref l) H'):zF vs H Q _e
def yg:Sp:=fun vs H Q Z=>zF vs H Q Z
abbrev nN:List Str:=["_law_purse_here","_law_many","_law_letters","_law_base","_law_step","_law_names_here","_law_k","_law_tail"]
theorem scN:bX nN ["_law_purse_here","_law_many"] (aT kB):=eQ
theorem zG(D:Df K mg "_law_names" kB ["_law_purse_here","_law_many"] f fd)(DD:Df K mg "_law_draw" eV ["_law_purse_here","_law_out_of"] fD fdD)(B:Bl mg):cg P w K mg base CX0 2 f fd ["_law_purse_here","_law_many"] yg:=by
 have GD:cg P w K mg base CX0 1 fD fdD ["_law_purse_here","_law_out_of"] lV:=kl DD;refine D.F.ok scN (fun vs H Q E h=>?_) (fun cj A outer s H vs Q E r1 h=>?_)
 ·obtain⟨p,n,rfl,_⟩:=h;rfl
 obtain⟨p,n,rfl,hp,ck,cl,q⟩:=h;refine⟨_,ag (pst 2 scN bP)
  (ag (pst 3 scN (pcl GD r1 DD (bj (pv 0) (dj ah ao))))
  (ag (pst 4 scN (aP cy (dO (dj ah (dj ah (dj ah (dj ah (dj ah (dj ah ao))))))) (pcl GD r1 DD (bj (pv 0) (dj ah ao)))))
  (ag (pst 5 scN (dO ao))
  (ag (fq bV rfl (jE (by rfl) B.range (bj (pv 1) ao)) (pgn 6 scN) (ag (pst 7 scN (pF Nl (pv 2) tX (lA (pcl GD r1 DD (bj (pv 0) (dj ah ao))))))
  (aA (cV (ia aL bA bC dI (pv 5) (oZ (cI Ah (aP Mc (pv 2) (cI mV (cI gj (pv 3) (cI lH (pv 4) (pv 6))) ah)) (pv 7)) ao))))))
  (aA (bD (pv 5))))))),?_⟩
 have big:=dW;refine aX (cH (bF ?_));dsimp only;refine aX (cH ({_,Z9,p,26,Z9,hp,by decide,by decide,fun first H1 f0 f1 M b1=>bF ?_}));dsimp only;refine aX (cH ({by show 6<=aG;omega,fun ls J=>?_}));have sl:=aH J (.lst (oN.map V.int));refine{_,Z9,p,6,Z9,M.same sl,by decide,by decide,fun r2 H2 da cr I b2=>?_};obtain⟨st,cx,Z⟩:=GG da cr;have cs:ls≠p:=by
  obtain⟨x,y,e⟩:=M;exact (ay e J).symm
 have cn:0<st/\st<100:=by
  unfold oN at Z;simp at Z
  rcases Z with rfl|rfl|rfl|rfl|rfl|rfl<;>decide
 refine{ls,_,_,_,Z9,Z9,SqL.of (b2 _ _ ak cs),cx,bF ?_};dsimp only;have U:=(b1.same sl).trans b2;refine aX (cH ({bE _,fun l g=>?_}));have s3:=aH g (.lst []);have nl:l≠p:=by
  obtain⟨x,y,e⟩:=I;exact (ay e g).symm
 have R:H l=Z7:=by
  cases e:H l with
  |none=>rfl
  |some o=>
   rw[U l o e nl]at g
   cases g
 refine bF ?_;dsimp only;refine aX (⟨_,Z9,n,Z9,by omega,by omega,j0 (fun i σ G=>∃(Y:List Str) (v6 v7:Option V),σ=[Z8 (.ref p),Z8 (.int n),Z8 (.str abc),Z8 (.int first),Z8 (.int st),Z8 (.ref l),v6,v7]/\i<=n.toNat/\G l=Z8 (.lst (Y.map V.str))/\Y.length=i/\GN first st Y/\(∀x∈Y,x.length<=6)/\eC G p/\But p H G)
  {[],Z7,Z7,Z9,bE _,ak,Z9,(fun i s e=>by simp at e),(fun x hx=>by cases hx),I.same s3,U.same s3} ?_ ?_⟩)
 ·intro i σ G hi qz;refine Z0 fun Gz gz=>?_;obtain⟨Y,v6,v7,rfl,dc,hG,W,gn,l6,pu,bt⟩:=qz;refine gz ?_;obtain⟨c,c1,c2⟩:=Nn (rT first st i).1 (rT first st i).2;refine aX (cH ({_,Z9,_,Z9,p,6,Z9,pu,by decide,by decide,fun r G1 r0 cp de O=>{r,Z9,abc,Z9,w8,bF ?_}}));dsimp only;have t:=O _ _ hG nl;have l5:(o4 abc Z7 (Z8 r)).length<=5:=by
   have hr:r=0\/r=1\/r=2\/r=3\/r=4\/r=5:=by omega
   rcases hr with rfl|rfl|rfl|rfl|rfl|rfl<;>decide +kernel
  refine{_,Z9,.inl {Z9,_,SqL.of t},_,Z9,_,Z9,_,Z9,_,Z9,_,_,Z9,Z9,.inl {by omega,by omega},_,_,Z9,Z9,_,_,Z9,Z9,(by decide),abc,_,c,Z9,Z9,w8,c2,_,Z9,_,_,Z9,Z9,?_,l,_,_,Z9,Z9,t,(by rw[ai];omega),?_}
  ·show 1+(o4 abc Z7 (Z8 r)).length<=aG;omega
  ·obtain⟨x,y,db⟩:=de;exact{Y++[_],_,_,Z9,hi,by rw[aU];exact ak,by rw[aB,W];rfl,gn.snoc (W ▸ c1) (yf rfl),(fun s hs=>(bY.mp hs).elim (l6 s) fun z=>by rw[aD.mp z,zE];show 1+(o4 abc Z7 (Z8 r)).length<=6;omega),{x,y,aN db nl.symm},fun b o hb nb=>aN (O _ _ (bt b o hb nb) nb) (ay hb R)}
 ·rintro σ G ⟨Y,v6,v7,rfl,dc,hG,W,gn,l6,pu,bt⟩;exact{_,Z9,q l Y G R hG (by omega) (gn.nodup Z (by omega)) l6 pu bt}
end
def GH:List Int->TA
 | []=>tN
 |k::r=>jJ (tC (.int k)) (GH r)
theorem B6:∀(ks:List Int) {σ:St} {H:Hp} {Q:List V->Hp->Prop},Q (ks.map V.int) H->GH ks σ H Q
 | [],_,_,_,h=>h
 |_::r,_,_,_,h=>B6 r h
theorem dr2{K:af}{ks:List Int}{c:Int}{p:ae}(hc:c=ks.length)(hk:∀k∈ks,0<k/\k<100)(h0:0<ks.length)(hl:ks.length<100){σ:St}{H:Hp}{Q:VK}(M:σ[0]?=Z8 (Z8 (.ref p)))(I:eC H p)
  (k:∀(r:Int) (G:Hp),0<=r->r<100->eC G p->But p H G->Q (.int r) G):Bo lV [] E0 (jJ (qN 0) (jJ (tOp (Ma K) (tLst (GH ks)) (Bo lV [] E0 (jJ (qN 0) (jJ (tC (.int c)) tN)))) tN)) σ H Q:=by
 have big:=dW;refine{_,M,B6 ks {by rw[ai];omega,fun l Z=>?_}};have sl:=aH Z (.lst (ks.map V.int));have O:l≠p:=by
  obtain⟨x,y,e⟩:=I;exact (ay e Z).symm
 refine{_,M,p,c,Z9,I.same sl,by omega,by omega,fun r D r0 f Y J=>?_};obtain⟨j,rfl⟩:∃j:Nat,r=(j:Int):={r.toNat,by omega};have lt:j<ks.length:=by omega
 have hb:=hk _ (kJ lt);refine{l,_,_,_,Z9,Z9,SqL.of (J _ _ ak O),(gy (by rw[bM,aI lt];rfl)),p,ks[j],Z9,Y,hb.1,by omega,fun B z W g R E=>?_};have U:But p H D:=fun b o e t=>J _ _ (sl _ _ e) t;exact k B z W (by omega) R (U.trans E)
theorem va(Z:List Str)(lo hi:Option Int):∃zs:List Str,qR (Z.map V.str) lo hi=zs.map V.str/\zs.length<=Z.length:=by
 refine{(Z.drop (HT.sIx (Z.map V.str).length 0 lo)).take (HT.sIx (Z.map V.str).length (Z.map V.str).length hi-HT.sIx (Z.map V.str).length 0 lo),?_,?_}
 ·unfold qR;rw[<- Np,<- oh]
 ·rw[cL,tY]
  lia
def HsO(bs qs:List Str)(H H':Hp)(v:V)(q:Str×Ds):Prop:=∃t l xs,v=.ref t/\H' t=Z8 (.tup [.str q.1,.ref l])/\H l=Z7/\H' l=Z8 (.lst xs)/\xs.length<1000/\OwS bs qs H H' q.2 xs
theorem HsO.keepI{bs qs:List Str}{H H' H1:Hp}{v:V}{q:Str×Ds}(k:eS H' H1)(h:HsO bs qs H H' v q):HsO bs qs H H1 v q:=by
 obtain⟨t,l,xs,e,h1,h2,Y,W,Z⟩:=h;exact{t,l,xs,e,k _ _ h1 (qW _),h2,k _ _ Y Z.now.ni,W,Z.keepI k}
theorem HsO.old{bs qs:List Str}{H H':Hp}{v:V}{q:Str×Ds}{a:ae}{o:HO}(h:HsO bs qs H H' v q)(Y:H a≠Z7)(Z:∀xs,H' a≠Z8 (.tup xs)):HsO bs qs H (upd H' a o) v q:=by
 obtain⟨t,l,xs,e,h1,h2,W,R,U⟩:=h;exact{t,l,xs,e,aN h1 (fun z=>Z _ (z ▸ h1)),h2,aN W (fun z=>Y (z ▸ h2)),R,U.old Y Z}
theorem HsO.base{bs qs:List Str}{H H0 H':Hp}{v:V}{q:Str×Ds}(h:HsO bs qs H H' v q)(s:Dm H0 H):HsO bs qs H0 H' v q:=by
 obtain⟨t,l,xs,e,h1,h2,Z,W,Y⟩:=h;exact{t,l,xs,e,h1,s l h2,Z,W,Y.base s}
structure Mch(m:Int)(H H':Hp)(t:ae)(nm:Str)(bs qs:List Str)(ds:List Int)(hs:List (Str×Ds))(ps:List (Str×Int)):Prop where
 ex:∃(bl ql dl hl:ae) (vb hv:List V),H' t=Z8 (.tup [.str nm,.ref bl,.ref ql,.ref dl,.ref hl])/\H' bl=Z8 (.lst vb)/\eX H' ps vb/\H' ql=Z8 (.lst (qs.map V.str))/\H' dl=Z8 (.lst (ds.map V.int))/\H' hl=Z8 (.lst hv)/\aO (HsO bs qs H H') hv hs/\H bl=Z7/\H ql=Z7/\H dl=Z7/\H hl=Z7
 kb:ps.map (·.1)=bs
 nb:bs.Nodup
 nq:qs.Nodup
 lb:bs.length<=9
 lq:qs.length<=9
 ld:ds.length<=100
 lh:hs.length<=9
 wb:∀q∈ps,-4<=q.2/\q.2<=4
 hk:∀q∈hs,q.2.toOk m/\q.2.deep<=4/\q.2.size<=3*ddz 4
 nh:(hs.map (·.1)).Nodup
 ne:∀x∈bs++qs,x.length<=6
theorem GJ{Z zs:List Str}{lo hi:Option Int}(e:qR (Z.map V.str) lo hi=zs.map V.str){x:Str}(h:x∈zs):x∈Z:=by
 obtain⟨y,hy,Y⟩:=cD.mp (BH (e ▸ cD.mpr ⟨x,h,Z9⟩))
 cases Y;exact hy
section
variable{P:aQ}{w:bU}{K:af}{mg:Str->Option aj}{base:cG}{f fD fN fS:ae}{fd fdD fdN fdS:cm}{sgs:List Str}
seal PS PSs PE PA PT PW PI PG PGs PC
abbrev nMa:List Str:=["_law_purse_here","_law_name","_law_signs_here","_law_many","_law_names_here","_law_boxes","_law_queues","_law_firsts","_law_draws","_law_k","_law_hears","_law_sign"]
abbrev pMa:List Str:=["_law_purse_here","_law_name","_law_signs_here","_law_many"]
theorem yh:bX nMa pMa (aT jw):=eQ
theorem ndMa:((["_law_box"]:List Str)++nMa).Nodup:=by decide +kernel
inductive Lg(sgs:List Str)(vs:List V)(H:Hp)(Q:VK)(_e:XK):Prop where
 |mk(p ls:ae)(nm:Str)(m:Int)(_:vs=[.ref p,.str nm,.ref ls,.int m])(_:eC H p)(_:H ls=Z8 (.lst (sgs.map V.str)))(_:0<sgs.length)(_:sgs.length<=9)(_:sgs.Nodup)(_:0<m)(_:m<1000)(_:∀(t:ae) (H':Hp) (bs qs:List Str) (ds:List Int) (hs:List (Str×Ds)) (ps:List (Str×Int)),Mch m H H' t nm bs qs ds hs ps->eC H' p->But p H H'->Q (.ref t) H'):Lg sgs vs H Q _e
def Nq(sgs:List Str):Sp:=fun vs H Q Z=>Lg sgs vs H Q Z
theorem Dq{K:af}{a:ae}{xs:List V}{n i:Nat}{g:TG}{tc:L2.TT}{te:TE}{σ:St}{H:Hp}{Q:VK}(U:σ[i]?=Z8 (Z8 (.ref a)))(hx:SqL K H a xs)(Z:Nat->List V->Hp->Prop)(O:Z 0 [] H)(R:∀i ys H,i<=xs.length->Z i ys H->SqL K H a xs/\ys.length<aG)
  (hs:∀i x ys H,xs[i]?=Z8 x->Z i ys H->g x (cT n Z7++σ) H fun Y H2=>Y.drop n=σ/\tc Y H2 fun b W=>if b=true then te Y W fun y M=>Z (i+1) (ys++[y]) M else Z (i+1) ys W)
  (J:∀ys H,Z xs.length ys H->∀p,H p=Z7->Q (.ref p) (upd H p (.lst ys))):uM n (EB K (qN i)) g tc te σ H Q:=
 {.ref a,U,a,Z9,⟨xs,hx⟩,qe Z O R hs J}
theorem yi{Z:List Str}{i:Nat}{x:V}(h:(Z.map V.str)[i]?=Z8 x):∃nm,Z[i]?=Z8 nm/\x=V.str nm/\i<Z.length/\Z.take (i+1)=Z.take i++[nm]:=by
 rw[bM]at h
 cases e:Z[i]? with
 |none=>
  rw[e]at h
  cases h
 |some nm=>
  rw[e]at h;injection h with h;subst h;exact{nm,Z9,Z9,(aC.mp e).1,by rw[dh,e];rfl}
theorem ok_ma(D:Df K mg "_law_machine" jw pMa f fd)(DN:Df K mg "_law_names" kB ["_law_purse_here","_law_many"] fN fdN)(DS:Df K mg "_law_deeds" jG pDe fS fdS)(GS:∀bs qs,cg P w K mg base CX0 17 fS fdS pDe (Gv bs qs sgs 5))(DD:Df K mg "_law_draw" eV ["_law_purse_here","_law_out_of"] fD fdD)(B:Bl mg) :
  cg P w K mg base CX0 18 f fd pMa (Nq sgs):=by
 have GD:cg P w K mg base CX0 1 fD fdD ["_law_purse_here","_law_out_of"] lV:=kl DD;have GN:cg P w K mg base CX0 2 fN fdN ["_law_purse_here","_law_many"] yg:=zG DN DD B;have GS:cg P w K mg base CX0 17 fS fdS pDe (fun vs H Q E=>∃bs qs,Gv bs qs sgs 5 vs H Q E):=⟨fun vs H Q E h=>by
  obtain⟨bs,qs,p,lb,g,ls,lf,m,d,rfl,_⟩:=h;rfl,fun A outer s H ar us vs Q E hr he hb hv h=>by
  obtain⟨bs,qs,h⟩:=h;exact (GS bs qs).run A outer s H ar us vs Q E hr he hb hv h⟩
 refine D.F.ok yh (fun vs H Q E h=>?_) (fun hf A outer s H vs Q E hr h=>?_)
 ·obtain⟨p,ls,nm,m,rfl,_⟩:=h;rfl
 obtain⟨p,ls,nm,m,rfl,pu,kb,ii,hB,ih,m0,m1,k⟩:=h;have r1:e8 1 _:=hr.mono (by decide);have r2:e8 2 _:=hr.mono (by decide);refine⟨_,ag (pst 4 yh (pcl GN r2 DN (bj (pv 0) (dj ah ao))))
  (ag (pst 5 yh (pF t7 (pv 4) tX (lA (pcl GD r1 DD (bj (pv 0) (gJ (aP cy (dO (dj ah (dj ah (dj ah ao)))) (pcl GD r1 DD (bj (pv 0) (dj ah ao)))) ao))))))
  (ag (pst 6 yh (pF t7 (pv 4) (lA ah) (lA (cI gj ah (pcl GD r1 DD (bj (pv 0) (gJ (aP cy (dO (dj ah (dj ah ao))) (pcl GD r1 DD (bj (pv 0) (dj ah ao)))) ao)))))))
  (ag (xO (i:=7) ["_law_box"] (iU.open (NN:=nMa) (N:=nMa) (sc:=aT jw) rfl rfl (by decide +kernel) rfl (by decide +kernel) (by decide +kernel) rfl (by decide +kernel)) rfl yh.nd rfl (Or.inl rfl) (fc (pv 5)) (fun _ _ _ _=>iw (i:=0) ndMa rfl (Or.inl rfl)) (fun _ _ _ _=>mI) (fun _ _ _ _=>cW (bj (pv 0) (oZ (cI jm (pcl GD r1 DD (bj (pv 1) (dj ah ao))) ah) ao))))
  (ag (pst 8 yh (dO ao))
  (ag (fq bV rfl (jE (by rfl) B.range (jH (pcl GD r1 DD (bj (pv 0) (gJ (aP cy (dO (dj ah (dj ah (dj ah ao)))) (pcl GD r1 DD (bj (pv 0) (dj ah ao)))) ao))) ao)) (pgn 9 yh) (aA (cV (ia aL bA bC dI (pv 8) (gJ (aP cy (dO (jH (pcl GD r1 DD (bj (pv 0) (dj ah ao))) (jH (pcl GD r1 DD (bj (pv 0) (oZ (cI gj (cI j1 ah ah) ah) ao))) ao))) (pcl GD r1 DD (bj (pv 0) (dj ah ao)))) ao)))))
  (ag (pst 10 yh (dO ao))
  (ag (fq bV rfl (fc (pF t7 (pv 2) tX (lA (pcl GD r1 DD (bj (pv 0) (oZ (cI gj (cq (c7 K (by rfl)) (by rfl) B.len bO (bj (pv 2) ao)) ah) ao)))))) (pgn 11 yh) (aA (cV (ia aL bA bC dI (pv 10) (j5 (cW (bj (pv 11) (jH (pcl GS hr DS (bj (pv 0) (bj (pv 5) (bj (pv 6) (bj (pv 2) (bj (pv 3) (AU (dO (dj ah ao)) (dj ah ao)))))))) ao))) ao) (hs:=uZ)))))
  (aA (bD (cW (bj (pv 1) (bj (pv 7) (bj (pv 6) (bj (pv 8) (bj (pv 10) ao))))))))))))))),?_⟩
 have big:=dW;have Y:∀{G:Hp} {a:ae},eC G p->G a=Z7->a≠p:=fun {G a} h n=>by
  obtain⟨x,y,e⟩:=h;exact (ay e n).symm
 refine aX (cH ?_);refine{_,Z9,p,9,Z9,pu,by decide,by decide,fun ln ss G1 hC lk hg kc l6 hT b1=>?_};refine bF ?_;dsimp only;have ma:=Y pu hC;refine aX (cH ?_);refine{_,Z9,dr2 (K:=K) (ks:=[4,4,7]) (p:=p) rfl (by decide) (by decide) (by decide) rfl hT fun ra G2 gk gM lm b2=>{ra,Z9,ln,_,Z9,SqL.of (b2 _ _ lk ma),fun lb mD=>?_}};obtain⟨bs,lP,hc⟩:=va ss Z7 (Z8 ra);have jp:bs.Nodup:=AK lP kc;rw[lP];have s2:=aH mD (.lst (bs.map V.str));have nD:=Y lm mD;refine bF ?_;dsimp only;refine aX (cH ?_);refine{_,Z9,6,Z9,dr2 (K:=K) (ks:=[2,4]) (p:=p) rfl (by decide) (by decide) (by decide) rfl (lm.same s2) fun rb G3 gn gg kv b3=>{_,_,Z9,Z9,_,Z9,ln,_,Z9,SqL.of (b3 _ _ (s2 _ _ (b2 _ _ lk ma)) ma),fun g mF=>?_}};obtain⟨qs,ml,hm⟩:=va ss (Z8 6) (Z8 (6+rb));have hL:qs.Nodup:=AK ml kc;rw[ml];have s3:=aH mF (.lst (qs.map V.str));have nn:=Y kv mF;refine bF ?_;dsimp only;have U:=s3 _ _ (b3 _ _ (ak:upd G2 lb (.lst (bs.map V.str)) lb=_) nD);have nw:=(ak:upd G3 g (.lst (qs.map V.str)) g=_);have nt:But p H (upd G3 g (.lst (qs.map V.str))):=((((b1.trans b2).same s2).trans b3).same s3);have nB:=kv.same s3;have gh:H lb=Z7:=by
  cases e:H lb with
  |none=>rfl
  |some o=>
   rw[(b1.trans b2) lb o e nD]at mD
   cases mD
 have io:H g=Z7:=by
  cases e:H g with
  |none=>rfl
  |some o=>
   rw[(((b1.trans b2).same s2).trans b3) g o e nn]at mF
   cases mF
 revert U nw nt nB;clear s3;generalize upd G3 g (.lst (qs.map V.str))=G4;intro U nw nt nB;have nq:ls≠p:=il pu kb;have ms:=nt _ _ kb nq;refine aX (cH ?_);refine Dq (K:=K) (a:=lb) (xs:=bs.map V.str) rfl (SqL.of U) (fun i ys G=>ys.length=i/\eC G p/\But p G4 G/\∃ps:List (Str×Int),ps.map (·.1)=bs.take i/\(∀q∈ps,-4<=q.2/\q.2<=4)/\eX G ps ys) {Z9,nB,But.refl _ _,[],Z9,(fun q hq=>by cases hq),.nil} ?_ ?_ ?_
 ·rintro i ys G hi ⟨h1,h2,h3,_⟩;rw[ai]at hi;exact{SqL.of (h3 _ _ U nD),by omega}
 ·rintro i x ys G hi ⟨h1,h2,h3,ps,h5,h6,h7⟩;obtain⟨y,hy,rfl,lt,tk⟩:=yi hi;refine{Z9,?_};unfold xM;refine eM ?_;refine{_,Z9,_,Z9,p,9,Z9,h2,by decide,by decide,fun r G' r0 gt jl b'=>{_,_,Z9,Z9,lt2,fun t ht=>?_}};have Z:=aH ht (.tup [.str y,.int (r-4)]);refine{by rw[aB,h1];rfl,jl.same Z,(h3.trans b').same Z,ps++[(y,r-4)],?_,fun q hq=>?_,?_}
  ·rw[aU,h5,tk];rfl
  ·rcases bY.mp hq with z|z
   ·exact h6 q z
   ·rw[aD.mp z];exact{by show -4<=r-4;omega,by show r-4<=4;omega}
  ·exact eX.snoc (eX.tups (fun a xs e=>Z _ _ ((eS.but h2 b') _ _ e (qW xs))) h7) ak
 rintro vb G5 ⟨h1,ly,b5,ps,h5,h6,bx⟩ bl nf;rw[ai,cF]at h5;have s5:=aH nf (.lst vb);have mz:=Y ly nf;refine bF ?_;dsimp only;have mM:But p G4 (upd G5 bl (.lst vb)):=b5.same s5;refine genH (P:=fun G=>eC G p/\But p H G/\G bl=Z8 (.lst vb)/\eX G ps vb/\G lb=Z8 (.lst (bs.map V.str))/\G g=Z8 (.lst (qs.map V.str))/\G ls=Z8 (.lst (sgs.map V.str))) {ly.same s5,nt.trans mM,ak,eX.same s5 bx,mM _ _ U nD,mM _ _ nw nn,mM _ _ ms nq} fun G6 hR=>?_;obtain⟨lx,lc,kh,hS,lj,kt,kz⟩:=hR;have hX:H bl=Z7:=by
  cases e:H bl with
  |none=>rfl
  |some o=>
   rw[(nt.trans b5) bl o e mz]at nf
   cases nf
 clear mM s5 nf ly b5 ms U nw nt nB bx;refine aX (cH ?_);refine{bE _,fun dl hdl=>?_};have s6:=aH hdl (.lst []);have nl:=Y lx hdl;have ix:H dl=Z7:=by
  cases e:H dl with
  |none=>rfl
  |some o=>
   rw[lc dl o e nl]at hdl
   cases hdl
 refine bF ?_;dsimp only;refine aX ?_;have hN:Af 10 15:={by decide,by decide,by decide};refine dr2 (K:=K) (ks:=[4,4,21]) (p:=p) rfl (by decide) (by decide) (by decide) rfl (lx.same s6) fun rc G7 gq go hM b7=>⟨rc,Z9,by omega,by omega,j0 (n:=rc.toNat) (fun i σ G=>∃(ds:List Int) (v9:Option V),σ=[Z8 (.ref p),Z8 (.str nm),Z8 (.ref ls),Z8 (.int m),Z8 (.ref ln),Z8 (.ref lb),Z8 (.ref g),Z8 (.ref bl),Z8 (.ref dl),v9,Z7,Z7]/\G dl=Z8 (.lst (ds.map V.int))/\ds.length=i/\i<=rc.toNat/\eC G p/\Kp [p,dl] G6 G)
  {[],_,Z9,b7 _ _ ak nl,Z9,bE _,hM,fun b o e nb=>b7 _ _ (s6 _ _ e) (fun z=>nb (by rw[z];exact ax))} ?_ ?_⟩
 ·intro i σ G hi qz;refine Z0 fun Gz gz=>?_;obtain⟨ds,v9,rfl,hd,ld,li,no,kG⟩:=qz;refine gz ?_;refine{_,Z9,.inl {Z9,_,SqL.of hd},_,Z9,p,10,Z9,no,by decide,by decide,fun a1 Ga a10 a11 ja ba=>{_,Z9,_,_,Z9,Z9,hN,_,_,Z9,Z9,p,_,Z9,ja,by decide,by decide,fun a2 Gb a20 a21 ky bb=>{lt2,fun l2 my=>?_}}};have lp:=aH my (.lst [.int a1,.int a2]);have iv:=Y ky my;refine{_,Z9,p,2,Z9,ky.same lp,by decide,by decide,fun a3 Gc a30 a31 hp bc=>?_};obtain⟨av,hK⟩:∃av:Int,atI [V.int a1,.int a2] a3=Z8 (.int av):=by
   obtain⟨j,rfl⟩:∃j:Nat,a3=(j:Int):={a3.toNat,by omega}
   match j,a31 with
   |0,_=>exact⟨a1,Z9⟩
   |1,_=>exact⟨a2,Z9⟩
   |j+2,h=>exact absurd h (by omega)
  have lh:But p G Gc:=((ba.trans bb).same lp).trans bc;refine{l2,_,_,_,Z9,Z9,SqL.of (bc _ _ ak iv),hK,dl,_,_,Z9,Z9,lh _ _ hd nl,by rw[ai];omega,?_};refine{ds++[av],_,Z9,by rw[aU];exact ak,by rw[aB,ld];rfl,by omega,?_,fun b o e nb=>?_}
  ·obtain⟨x,y,e⟩:=hp;exact{x,y,aN e nl.symm}
  ·exact aN (lh _ _ (kG b o e nb) (fun z=>nb (by rw[z];exact ax))) (fun z=>nb (by rw[z];exact aa _ ax))
 rintro σ G8 ⟨ds,v9,rfl,ko,ld,li,mo,k8⟩;dsimp only;have R:∀{a:ae} {o:HO},G6 a=Z8 o->a≠p->G8 a=Z8 o:=fun {a o} e n=>k8 a o e (fun z=>by
  rcases aE.mp z with z|z
  ·exact n z
  ·rw[aD.mp z,hdl]at e
   cases e)
 have mu:=R kh mz;have hO:eX G8 ps vb:=eX.tups (fun a xs e=>R e (fun z=>by
  obtain⟨x,y,q⟩:=lx;rw[z,q]at e
  cases e)) hS
 have mt:=R lj nD;have mq:=R kt nn;have nu:=R kz nq;have la:But p H G8:=fun b o e n=>R (lc b o e n) n;refine aX (cH ?_);refine{bE _,fun W M=>?_};have s8:=aH M (.lst []);have mS:=Y mo M;have lr:H W=Z7:=by
  cases e:H W with
  |none=>rfl
  |some o=>
   rw[la W o e mS]at M
   cases M
 refine bF ?_;dsimp only;refine aX ?_;refine{_,Z9,_,Z9,_,Z9,ls,_,Z9,.inl (SqL.of (s8 _ _ nu)),_,_,Z9,Z9,p,_,Z9,mo.same s8,by omega,by rw[ai];omega,fun rd G9 gl gw ll b9=>{rd,Z9,ls,_,Z9,SqL.of (b9 _ _ (s8 _ _ nu) nq),fun lz lv=>?_}};obtain⟨zs,kq,hj⟩:=va sgs Z7 (Z8 rd);rw[kq];have s9:=aH lv (.lst (zs.map V.str));have J:∀{a:ae} {o:HO},G8 a=Z8 o->a≠p->upd G9 lz (.lst (zs.map V.str)) a=Z8 o:=fun {a o} e n=>s9 _ _ (b9 _ _ (s8 _ _ e) n);have mW:=J mu mz;have mN:=J mt nD;have nz:=J mq nn;have nh:=J nu nq;have lM:=J ko nl;have I:upd G9 lz (.lst (zs.map V.str)) W=Z8 (.lst []):=s9 _ _ (b9 _ _ ak mS);have lw:eX (upd G9 lz (.lst (zs.map V.str))) ps vb:=eX.tups (fun a xs e=>J e (fun z=>by
  obtain⟨x,y,q⟩:=mo;rw[z,q]at e
  cases e)) hO
 have mv:But p H (upd G9 lz (.lst (zs.map V.str))):=fun b o e n=>J (la b o e n) n;have mL:=ll.same s9;have mG:upd G9 lz (.lst (zs.map V.str)) lz=Z8 (.lst (zs.map V.str)):=ak;have js:bl≠W:=ay mu M;have hu:lb≠W:=ay mt M;have kw:g≠W:=ay mq M;have hH:ls≠W:=ay nu M;have im:dl≠W:=ay ko M;have hF:lz≠W:=(ay (b9 _ _ (ak:upd G8 W (.lst []) W=_) mS) lv).symm;have hE:=Y ll lv;refine{lz,Z9,{_,SqL.of ak},?_};revert mW mN nz nh lM I lw mv mL mG;clear J;generalize upd G9 lz (.lst (zs.map V.str))=C;intro mW mN nz nh lM I lw mv mL mG;refine fX (K:=K) (a:=lz) (xs:=zs.map V.str) (fun i σ G=>∃(hv:List V) (hs:List (Str×Ds)) (mx:Option V),σ=[Z8 (.ref p),Z8 (.str nm),Z8 (.ref ls),Z8 (.int m),Z8 (.ref ln),Z8 (.ref lb),Z8 (.ref g),Z8 (.ref bl),Z8 (.ref dl),v9,Z8 (.ref W),mx]/\G W=Z8 (.lst hv)/\hv.length=i/\i<=zs.length/\hs.map (·.1)=zs.take i/\aO (HsO bs qs C G) hv hs/\(∀q∈hs,q.2.toOk m/\q.2.deep<=4/\q.2.size<=3*ddz 4)/\eC G p/\Kp [p,W] C G)
  {[],[],_,Z9,I,Z9,bE _,(by rw[dE];rfl),.nil,(fun q hq=>by cases hq),mL,Kp.refl _ _} ?_ ?_ ?_
 ·rintro i σ G _ ⟨hv,hs,mx,rfl,h1,h2,h3,_,h4,h5,h6,h7⟩;exact SqL.of (h7 _ _ mG (by simp[hE,hF]))
 ·intro i x σ G hi qz;refine Z0 fun Gz gz=>?_;obtain⟨hv,hs,mx,rfl,hh,mn,hG,mb,hP,hk,no,kG⟩:=qz;refine gz ?_;obtain⟨y,hy,rfl,lt,tk⟩:=yi hi;refine{_,Z9,.inl {Z9,_,SqL.of hh},_,Z9,_,Z9,_,Z9,_,Z9,_,Z9,_,Z9,F3,fun lf mc=>?_};have sf:=aH mc (.lst [.int 20]);have L1:Lf (upd G lf (.lst [.int 20])) p lf:={no.same sf,20,ak};have N1:Nms (upd G lf (.lst [.int 20])) lb g ls bs qs sgs:={sf _ _ (kG _ _ mN (by simp[nD,hu])),sf _ _ (kG _ _ nz (by simp[nn,kw])),sf _ _ (kG _ _ nh (by simp[nq,hH])),by omega,by omega,hB,ii};have lg:=sf _ _ hh;have jb:W≠lf:=ay hh mc;refine{bs,qs,p,lb,g,ls,lf,m,4,Z9,by decide,L1,N1,m0,m1,fun l xs dd G2 fl my hI O to dp sz hA k2=>{lt2,fun t ht=>?_}};have Z:=aH ht (.tup [.str y,.ref l]);have ka:=k2 _ _ lg (by simp[mS,jb]);refine{W,_,_,Z9,Z9,Z _ _ ka,by omega,?_};have ki:=(eS.same sf).trans ((k2.keepI L1.int).trans (eS.same Z));have ke:∀ys,upd G2 t (.tup [.str y,.ref l]) W≠Z8 (.tup ys):=fun ys z=>by
   rw[Z _ _ ka]at z
   cases z
  have hY:C W≠Z7:=by
   rw[I];intro z
   cases z
  have ij:upd G lf (.lst [.int 20]) W≠Z7:=by
   rw[lg];intro z
   cases z
  have ho:Dm C (upd G lf (.lst [.int 20])):=(kG.dm (fun a ha=>by
   rcases aE.mp ha with z|z
   ·obtain⟨x,y,q⟩:=no;exact{_,by rw[z];exact q}
   ·exact{_,by rw[aD.mp z];exact hh})).trans (Dm.same sf)
  have new:HsO bs qs C (upd (upd G2 t (.tup [.str y,.ref l])) W (.lst (hv++[.ref t]))) (.ref t) (y,dd):=((show HsO bs qs (upd G lf (.lst [.int 20])) (upd G2 t (.tup [.str y,.ref l])) (.ref t) (y,dd) from{t,l,xs,Z9,ak,fl,Z _ _ my,hI,O.keepI (eS.same Z)}).old ij ke).base ho;refine{hv++[.ref t],hs++[(y,dd)],_,Z9,ak,by rw[aB,mn];rfl,by omega,(by rw[aU,mb,tk];rfl),cS (Paired.mono (fun v q z=>(HsO.keepI ki z).old hY ke) hP) new,fun q hq=>?_,?_,?_}
  ·rcases bY.mp hq with z|z
   ·exact hk q z
   ·rw[aD.mp z];exact⟨to,dp,sz⟩
  ·obtain⟨x,y',e⟩:=hA.pu;exact{x,y',aN (Z _ _ e) mS.symm}
  ·intro b o e nb;have e1:=kG b o e nb;have hQ:b≠lf:=ay e1 mc;have ku:¬b=p/\¬b=W:=by simpa using nb
   exact aN (Z _ _ (k2 _ _ (sf _ _ e1) (by simp[ku.1,hQ]))) ku.2
 rintro σ G ⟨hv,hs,mx,rfl,hh,mn,hG,mb,hP,hk,no,kG⟩;dsimp only;have hn:=aM hP;rw[ai]at mn;refine{_,Z9,_,Z9,_,Z9,_,Z9,_,Z9,by show 5<=aG;omega,fun t ht=>?_};have Z:=aH ht (.tup [.str nm,.ref bl,.ref g,.ref dl,.ref W]);have bG:But p H G:=fun b o e n=>kG _ _ (mv b o e n) (by
  have:b≠W:=ay e lr;simp[n,this])
 have hD:Dm H C:=fun a na=>by
  cases e:H a with
  |none=>rfl
  |some o=>
   by_cases c:a=p
   ·obtain⟨x,y,q⟩:=mL;rw[c,q]at na
    cases na
   ·rw[mv a o e c]at na
    cases na
 refine k t _ bs qs ds hs ps {{bl,g,dl,W,vb,hv,ak,Z _ _ (kG _ _ mW (by simp[mz,js])),eX.same Z (eX.tups (fun a xs e=>kG _ _ e (fun z=>?_)) lw),Z _ _ (kG _ _ nz (by simp[nn,kw])),Z _ _ (kG _ _ lM (by simp[nl,im])),Z _ _ hh,Paired.mono (fun v q z=>(HsO.keepI (eS.same Z) z).base hD) hP,hX,io,ix,lr},h5,jp,hL,by omega,by omega,by omega,by omega,h6,hk,(by rw[mb,ai,cF];exact AK kq ih),(fun x hx=>(bY.mp hx).elim (fun z=>l6 x (GJ lP z)) fun z=>l6 x (GJ ml z))} (no.same Z) (bG.same Z)
 rcases aE.mp z with z|z
 ·obtain⟨x,y,q⟩:=mL;rw[z,q]at e
  cases e
 ·rw[aD.mp z,I]at e
  cases e
end
structure MD where
 nm:Str
 bs:List Str
 qs:List Str
 ds:List Int
 hs:List (Str×Ds)
 ps:List (Str×Int)
def MIn(m:Int)(H H':Hp)(v:V)(M:MD):Prop:=∃t,v=.ref t/\Mch m H H' t M.nm M.bs M.qs M.ds M.hs M.ps
theorem Mch.but{m:Int}{H H' H1:Hp}{t p:ae}{nm:Str}{bs qs:List Str}{ds:List Int}{hs:List (Str×Ds)}{ps:List (Str×Int)}(Z:eC H p)(pu:eC H' p)(b:But p H' H1)(h:Mch m H H' t nm bs qs ds hs ps):Mch m H H1 t nm bs qs ds hs ps:=by
 have k:=eS.but pu b;have np:∀{a:ae},H a=Z7->a≠p:=fun {a} e z=>by
  obtain⟨x,y,q⟩:=Z;rw[z,q]at e
  cases e
 refine Z0 fun Gz f=>?_;obtain⟨⟨bl,U,I,R,D,M,h1,h2,E,O,h5,h6,J,f1,W,Y,V⟩,kb,nb,nq,G,lq,ld,g,wb,hk,B,ne⟩:=h;exact f ({{bl,U,I,R,D,M,k _ _ h1 (qW _),b _ _ h2 (np f1),eX.tups (fun a xs e=>k _ _ e (qW xs)) E,b _ _ O (np W),b _ _ h5 (np Y),b _ _ h6 (np V),Paired.mono (fun v q z=>HsO.keepI k z) J,f1,W,Y,V},kb,nb,nq,G,lq,ld,g,wb,hk,B,ne})
theorem Mch.same{m:Int}{H H' H1:Hp}{t:ae}{nm:Str}{bs qs:List Str}{ds:List Int}{hs:List (Str×Ds)}{ps:List (Str×Int)}(b:bN H' H1)(h:Mch m H H' t nm bs qs ds hs ps):Mch m H H1 t nm bs qs ds hs ps:=by
 refine Z0 fun Gz E=>?_;obtain⟨⟨bl,Z,R,Y,J,V,h1,h2,M,W,f,g,U,f1,f2,B,f4⟩,D,nb,nq,O,lq,ld,G,wb,hk,I,ne⟩:=h;exact E ({{bl,Z,R,Y,J,V,b _ _ h1,b _ _ h2,eX.same b M,b _ _ W,b _ _ f,b _ _ g,Paired.mono (fun v q z=>HsO.keepI (eS.same b) z) U,f1,f2,B,f4},D,nb,nq,O,lq,ld,G,wb,hk,I,ne})
theorem Mch.base{m:Int}{H0 H H':Hp}{t:ae}{nm:Str}{bs qs:List Str}{ds:List Int}{hs:List (Str×Ds)}{ps:List (Str×Int)}(s:Dm H0 H)(h:Mch m H H' t nm bs qs ds hs ps):Mch m H0 H' t nm bs qs ds hs ps:=by
 refine Z0 fun Gz E=>?_;obtain⟨⟨bl,Z,R,Y,J,V,h1,h2,M,W,f,g,U,f1,f2,B,f4⟩,D,nb,nq,O,lq,ld,G,wb,hk,I,ne⟩:=h;exact E ({{bl,Z,R,Y,J,V,h1,h2,M,W,f,g,Paired.mono (fun v q z=>HsO.base z s) U,s _ f1,s _ f2,s _ B,s _ f4},D,nb,nq,O,lq,ld,G,wb,hk,I,ne})
theorem But.dm{p:ae}{H G:Hp}(b:But p H G)(Z:eC G p):Dm H G:=fun a n=>by
 cases e:H a with
 |none=>rfl
 |some o=>
  by_cases c:a=p
  ·obtain⟨x,y,q⟩:=Z;rw[c,q]at n
   cases n
  ·rw[b a o e c]at n
   cases n
section
variable{P:aQ}{w:bU}{K:af}{mg:Str->Option aj}{base:cG}{f fD fN fM:ae}{fd fdD fdN fdM:cm}
seal PS PSs PE PA PT PW PI PG PGs PC
abbrev nMo:List Str:=["_law_purse_here","_law_most","_law_many","_law_signs_here"]
abbrev pMo:List Str:=["_law_purse_here","_law_most"]
theorem Nr:bX nMo pMo (aT kC):=eQ
theorem ndMo:((["_law_name"]:List Str)++nMo).Nodup:=by decide +kernel
inductive Lh(vs:List V)(H:Hp)(Q:VK)(_e:XK):Prop where
 |mk(p:ae)(n:Int)(_:vs=[.ref p,.int n])(_:eC H p)(_:0<n)(_:n<=9)(_:∀(l:ae) (xs:List V) (Ms:List MD) (H':Hp),H l=Z7->H' l=Z8 (.lst xs)->aO (MIn Ms.length H H') xs Ms->0<Ms.length->(Ms.length:Int)<=n->(Ms.map MD.nm).Nodup->eC H' p->But p H H'->Q (.ref l) H'):Lh vs H Q _e
def spMo:Sp:=fun vs H Q Z=>Lh vs H Q Z
theorem ok_mo(D:Df K mg "_law_model" kC pMo f fd)(DN:Df K mg "_law_names" kB ["_law_purse_here","_law_many"] fN fdN)(DM:Df K mg "_law_machine" jw pMa fM fdM)(GM:∀sgs,cg P w K mg base CX0 18 fM fdM pMa (Nq sgs))(DD:Df K mg "_law_draw" eV ["_law_purse_here","_law_out_of"] fD fdD)(B:Bl mg) :
  cg P w K mg base CX0 19 f fd pMo spMo:=by
 have GN:cg P w K mg base CX0 2 fN fdN ["_law_purse_here","_law_many"] yg:=zG DN DD B;have GM:cg P w K mg base CX0 18 fM fdM pMa (fun vs H Q E=>∃sgs,Nq sgs vs H Q E):=⟨fun vs H Q E h=>by
  obtain⟨sgs,p,ls,nm,m,rfl,_⟩:=h;rfl,fun A outer s H ar us vs Q E R he hb hv h=>by
  obtain⟨sgs,h⟩:=h;exact (GM sgs).run A outer s H ar us vs Q E R he hb hv h⟩
 refine D.F.ok Nr (fun vs H Q E h=>?_) (fun cj A outer s H vs Q E R h=>?_)
 ·obtain⟨p,n,rfl,_⟩:=h;rfl
 obtain⟨p,n,rfl,pu,n0,n9,k⟩:=h;have r1:e8 1 _:=R.mono (by decide);have r2:e8 2 _:=R.mono (by decide);refine⟨_,ag (qP (i:=2) Nr.nd rfl (Or.inr rfl) (cI gj ah (pcl (kl DD) r1 DD (bj (pv 0) (bj (pv 1) ao)))))
  (ag (qP (i:=3) Nr.nd rfl (Or.inr rfl) (pcl GN r2 DN (bj (pv 0) (dj ah ao))))
  (aA (bD (oA ["_law_name"] (iU.open (N:=nMo) (sc:=aT kC) rfl rfl (by decide +kernel) rfl (by decide +kernel) (by decide +kernel) rfl (by decide +kernel)) rfl (fc (pcl GN r2 DN (bj (pv 0) (bj (pv 2) ao)))) (fun _ _ _ _=>iw (i:=0) ndMo rfl (Or.inl rfl)) (fun _ _ _ _=>mI) (fun _ _ _ _=>pcl GM R DM (bj (pv 1) (bj (pv 0) (bj (pv 4) (bj (pv 3) ao))))))))),?_⟩
 have big:=dW;refine aX (cH ({_,Z9,_,Z9,p,n,Z9,pu,n0,by omega,fun r G1 r0 r1 da b1=>{_,_,Z9,Z9,bF ?_}}));dsimp only;refine aX (cH ({_,Z9,p,4,Z9,da,by decide,by decide,fun ls sgs G2 cn db cl cs _ I b2=>bF ?_}));dsimp only;refine{_,Z9,_,Z9,p,1+r,Z9,I,by omega,by omega,fun ln ss G3 cp Z ck cr _ g b3=>{ln,Z9,{_,SqL.of Z},?_}};have dc:=il I db;have W:=(b1.trans b2).trans b3;refine qe (K:=K) (xs:=ss.map V.str) (fun i ys G=>ys.length=i/\eC G p/\But p G3 G/\∃Ms:List MD,Ms.map MD.nm=ss.take i/\aO (MIn (1+r) H G) ys Ms) {Z9,g,But.refl _ _,[],Z9,.nil} ?_ ?_ ?_
 ·rintro i ys G hi ⟨h1,h2,U,_⟩;rw[ai]at hi;exact{SqL.of (U _ _ Z (il g Z)),by omega}
 ·rintro i x ys G hi ⟨h1,h2,U,Ms,J,h6⟩;obtain⟨y,hy,rfl,lt,tk⟩:=yi hi;refine{Z9,?_};unfold xM;refine eM ({_,Z9,_,Z9,_,Z9,_,Z9,sgs,p,ls,y,1+r,Z9,h2,U _ _ (b3 _ _ db dc) dc,by omega,by omega,cs,by omega,by omega,fun t G' bs qs ds hs ps M cx b'=>{by rw[aB,h1];rfl,cx,U.trans b',Ms++[⟨y,bs,qs,ds,hs,ps⟩],?_,?_}})
  ·rw[aU,J,tk];rfl
  ·refine cS (Paired.mono (fun v q z=>?_) h6) {t,Z9,M.base ((W.trans U).dm h2)};obtain⟨t',e,z⟩:=z;exact{t',e,z.but pu h2 b'}
 rintro ys G ⟨h1,O,b4,Ms,J,h6⟩ l hl;rw[ai,cF]at J;have lM:Ms.length=ss.length:=by rw[<- J,ai]
 have s5:=aH hl (.lst ys);have Y:=W.trans b4;refine k l ys Ms _ (Y.dm O l hl) ak ?_ (by omega) (by omega) (J ▸ cr) (O.same s5) (Y.same s5);rw[show ((Ms.length:Nat):Int)=1+r from by omega];exact Paired.mono (fun v q z=>by
  obtain⟨t',e,z⟩:=z;exact{t',e,z.same s5}) h6
end
def Hrd(H:Hp)(x:V):Prop:=∃(t Y:ae) (a b c d:V) (Z:List V),x=.ref t/\H t=Z8 (.tup [a,b,c,d,.ref Y])/\H Y=Z8 (.lst Z)/\Z.length<=9/\∀v∈Z,∃u s d,v=.ref u/\H u=Z8 (.tup [.str s,d])
theorem Hrd.same{H H':Hp}{x:V}(s:bN H H')(h:Hrd H x):Hrd H' x:=by
 obtain⟨t,W,a,b,c,d,Z,e,h1,h2,Y,R⟩:=h;refine{t,W,a,b,c,d,Z,e,s _ _ h1,s _ _ h2,Y,fun v Z=>?_};obtain⟨u,y,z,e,U⟩:=R v Z;exact{u,y,z,e,s _ _ U}
theorem Mch.hrd{m:Int}{H H':Hp}{t:ae}{nm:Str}{bs qs:List Str}{ds:List Int}{hs:List (Str×Ds)}{ps:List (Str×Int)}(h:Mch m H H' t nm bs qs ds hs ps):Hrd H' (.ref t):=by
 obtain⟨⟨bl,M,I,V,D,U,h1,h2,E,J,f,W,Z,f1,f2,g,f4⟩,B,nb,nq,G,lq,ld,Y,wb,hk,R,ne⟩:=h;clear R ne;refine{t,V,_,_,_,_,U,Z9,h1,W,by rw[aM Z];exact Y,fun v m=>?_};obtain⟨q,z⟩:∃q,HsO bs qs H H' v q:=by
  clear W Y hk
  induction Z with
  |nil=>cases m
  |cons a _ O=>
   rcases aE.mp m with z|z
   ·exact{_,by rw[z];exact a}
   ·exact O z
 obtain⟨t',l,xs,e,h1,_⟩:=z;exact{t',_,_,e,h1}
theorem Li(a b:Int)(k:Bool):atI [V.int a,.int b] (if k=true then 1 else 0)=Z8 (.int (if k=true then b else a)):=by
 cases k<;>rfl
theorem B7{P:Int->Prop}{a b:Int}(k:Bool)(ha:P a)(hb:P b):P (if k=true then b else a):=by
 cases k
 ·exact ha
 ·exact hb
theorem JH{Z:List Str}{r:Int}(Y:0<=r)(h1:r<Z.length):∃s,atI (Z.map V.str) r=Z8 (.str s):=by
 obtain⟨j,rfl⟩:∃j:Nat,r=(j:Int):={r.toNat,by omega};exact{Z[j],gy (by rw[bM,aI (by omega)];rfl)}
theorem vc{K:af}{a t:ae}{xs U:List V}{c:Int}{n i:Nat}{g:TG}{tc:L2.TT}{te:TE}{σ:St}{H:Hp}{Q:VK}(E:σ[i]?=Z8 (Z8 (.ref t)))(J:SqT K H t U)(W:atI U c=Z8 (.ref a))(hx:SqL K H a xs)(Z:Nat->List V->Hp->Prop)(I:Z 0 [] H)(M:∀i ys H,i<=xs.length->Z i ys H->SqL K H a xs/\ys.length<aG)
  (hs:∀i x ys H,xs[i]?=Z8 x->Z i ys H->g x (cT n Z7++σ) H fun Y H2=>Y.drop n=σ/\tc Y H2 fun b R=>if b=true then te Y R fun y G=>Z (i+1) (ys++[y]) G else Z (i+1) ys R)
  (O:∀ys H,Z xs.length ys H->∀p,H p=Z7->Q (.ref p) (upd H p (.lst ys))):uM n (EB K (tOp (Mb K) (qN i) (tC (.int c)))) g tc te σ H Q:=
 {.ref t,E,t,U,c,_,Z9,Z9,J,W,a,Z9,⟨xs,hx⟩,qe Z I M hs O}
structure SgOk(m:Nat)(e:Ev):Prop where
 t:0<=e.t/\e.t<=1000000
 r:0<=e.r/\e.r<=9
 to:0<=e.to/\e.to<m
 a:-4<=e.a/\e.a<=4
 b:-1000000000000000<=e.b/\e.b<=1000000000000000
theorem nY.keepI{H H':Hp}(s:eS H H'){v:V}{e:Ev}(h:nY H v e):nY H' v e:=by
 obtain⟨t,z,h⟩:=h;exact{t,z,s _ _ h (qW _)}
section
variable{P:aQ}{w:bU}{K:af}{mg:Str->Option aj}{base:cG}{f fD:ae}{fd fdD:cm}
seal PS PSs PE PA PT PW PI PG PGs PC
abbrev nSg:List Str:=["_law_purse_here","_law_machines","_law_most","_law_found","_law_heard","_law_machine_here","_law_k","_law_time","_law_sign","_law_one","_law_other"]
abbrev nnSg:List Str:=["_law_purse_here","_law_machines","_law_most","_law_found","_law_heard","_law_machine_here","_law_k","_law_time","-","_law_one","_law_other"]
abbrev pSg:List Str:=["_law_purse_here","_law_machines","_law_most"]
theorem vS:bX nSg pSg (aT kD):=eQ
theorem ndSg:(((["_law_sign","_law_deeds_here"]:List Str))++nnSg).Nodup:=by decide +kernel
inductive Lj(vs:List V)(H:Hp)(Q:VK)(_e:XK):Prop where
 |mk(p lm:ae)(n:Int)(ms:List V)(_:vs=[.ref p,.ref lm,.int n])(_:eC H p)(_:H lm=Z8 (.lst ms))(_:lm≠p)(_:(∀x∈ms,Hrd H x))(_:0<ms.length)(_:ms.length<=9)(_:0<=n)(_:n<=99)(_:∀(l:ae) (xs:List V) (es:List Ev) (H':Hp),H l=Z7->H' l=Z8 (.lst xs)->aO (nY H') xs es->(es.length:Int)<=n->(∀e∈es,SgOk ms.length e)->eC H' p->But p H H'->Q (.ref l) H'):Lj vs H Q _e
def spSg:Sp:=fun vs H Q Z=>Lj vs H Q Z
theorem ok_sg(D:Df K mg "_law_signs" kD pSg f fd)(J:Df K mg "_law_draw" eV ["_law_purse_here","_law_out_of"] fD fdD)(B:Bl mg) :
  cg P w K mg base CX0 2 f fd pSg spSg:=by
 have GD:cg P w K mg base CX0 1 fD fdD ["_law_purse_here","_law_out_of"] lV:=kl J;refine D.F.ok vS (fun vs H Q E h=>?_) (fun gd A outer s H vs Q E hr h=>?_)
 ·obtain⟨p,lm,n,ms,rfl,_⟩:=h;rfl
 obtain⟨p,lm,n,ms,rfl,pu,ix,ih,hH,m0,m9,n0,n9,k⟩:=h;have r1:e8 1 _:=hr.mono (by decide);refine⟨_,ag (pst 3 vS (dO ao))
  (ag (pst 4 vS (dO (dj bP ao)))
  (ag (fq bV rfl (fc (pv 1)) (pgn 5 vS) (aA (pst 4 vS (cI xA (pv 4) (oA ["_law_sign","_law_deeds_here"] (iU.open (NN:=nnSg) (N:=nSg) (sc:=aT kD) rfl rfl (by decide +kernel) rfl (by decide +kernel) (by decide +kernel) rfl (by decide +kernel)) rfl (fc (aP aY (pv 5) ah)) (fun _ _ _ _=>uo (n:=2) K (by rfl) rfl (eP (iw (i:=0) ndSg rfl (Or.inl rfl)) (eP (iw (i:=1) ndSg rfl (Or.inl rfl)) lu))) (fun _ _ _ _=>mI) (fun _ _ _ _=>pv 0))))))
  (ag (fq bV rfl (jE (by rfl) B.range (jH (pcl GD r1 J (bj (pv 0) (oZ (cI gj (pv 2) ah) ao))) ao)) (pgn 6 vS) (ag (pst 7 vS (aP cy (dO (jH (pcl GD r1 J (bj (pv 0) (dj ah ao))) (jH (pcl GD r1 J (bj (pv 0) (oZ (cI gj (cI j1 ah ah) ah) ao))) ao))) (gB m8 (by rfl) B.int boot_int (aq (mC cZ (pcl GD r1 J (bj (pv 0) (dj ah ao))) ah) ao))))
  (ag (pst 8 vS (aP cy (pv 4) (pcl GD r1 J (bj (pv 0) (jH (cq (c7 K (by rfl)) (by rfl) B.len bO (bj (pv 4) ao)) ao)))))
  (ag (pst 9 vS (cI jm (pcl GD r1 J (bj (pv 0) (dj ah ao))) ah))
  (ag (pst 10 vS (aP cy (dO (dj ah (oZ (cI jm (pcl GD r1 J (bj (pv 0) (oZ (cI gj (cI lH ah (cI j1 ah ah)) ah) ao))) (cI j1 ah ah)) ao))) (gB m8 (by rfl) B.int boot_int (aq (mC cZ (pcl GD r1 J (bj (pv 0) (dj ah ao))) ah) ao))))
  (aA (cV (ia aL bA bC dI (pv 3) (j5 (cW (bj (pv 7) (jH (pcl GD r1 J (bj (pv 0) (dj ah ao))) (jH (pcl GD r1 J (bj (pv 0) (jH (cq (c7 K (by rfl)) (by rfl) B.len bO (bj (pv 1) ao)) ao))) (bj (pv 8) (bj (pv 9) (bj (pv 10) ao))))))) ao) (hs:=uZ)))))))))
  (aA (bD (pv 3)))))),?_⟩
 have big:=dW;have Y:∀{G:Hp} {a:ae},eC G p->G a=Z7->a≠p:=fun {G a} h n=>by
  obtain⟨x,y,e⟩:=h;exact (ay e n).symm
 refine aX (cH ({bE _,fun R I=>?_}));have s1:=aH I (.lst []);have io:=Y pu I;refine bF ?_;dsimp only;refine aX (cH ({F3,fun U g=>?_}));have s2:=aH g (.lst [.str "none"]);have hI:=Y (pu.same s1) g;refine bF ?_;dsimp only;have W:=s2 _ _ (ak:upd H R (.lst []) R=_);have O:upd (upd H R (.lst [])) U (.lst [.str "none"]) U=Z8 (.lst [.str "none"]):=ak;have Z:=s1.trans s2;revert W O Z;generalize upd (upd H R (.lst [])) U (.lst [.str "none"])=G1;intro W O Z;refine aX ({_,Z9,lm,Z9,{_,SqL.of (Z _ _ ix)},?_});refine fX (K:=K) (a:=lm) (xs:=ms) (fun i σ G=>∃(U:ae) (ss:List Str) (v5:Option V),σ=[Z8 (.ref p),Z8 (.ref lm),Z8 (.int n),Z8 (.ref R),Z8 (.ref U),v5,Z7,Z7,Z7,Z7,Z7]/\G U=Z8 (.lst (ss.map V.str))/\U≠p/\U≠R/\0<ss.length/\ss.length<=1+9*i/\bN G1 G)
  {U,["none"],_,Z9,O,hI,(fun z=>by rw[z,ak]at g;cases g),by decide,by decide,fun _ _ e=>e} ?_ ?_ ?_
 ·rintro i σ G _ ⟨U,ss,v5,rfl,h1,h2,h3,h4,h5,M⟩;exact SqL.of (M _ _ (Z _ _ ix))
 ·rintro i x σ G hi ⟨U,ss,v5,rfl,h1,h2,h3,h4,h5,M⟩;have li:i<ms.length:=(aC.mp hi).1;refine Z0 fun Gz gz=>?_;obtain⟨t,hl,a,b,c,d,hv,rfl,ht,hx,lv,hu⟩:=(hH x (bJ hi)).same (Z.trans M);refine gz ?_;refine bF ?_;dsimp only;refine cH ?_;refine{_,Z9,?_};refine vc (K:=K) (a:=hl) (xs:=hv) rfl (SqT.of ht) rfl (SqL.of hx) (fun i ys G'=>G'=G/\∃zs:List Str,ys=zs.map V.str/\zs.length=i) {Z9,[],Z9,Z9} ?_ ?_ ?_
  ·rintro i ys G' hi ⟨rfl,zs,rfl,lz⟩;exact{SqL.of hx,by rw[ai];omega}
  ·rintro i y ys G' hi ⟨rfl,zs,rfl,lz⟩;obtain⟨u,sg,dd,rfl,hu⟩:=hu y (bJ hi);refine{u,_,Z9,SqT.of hu,Z9,_,_,Z9,_,_,Z9,Z9,?_};refine{Z9,?_};unfold xM;refine eM ?_;exact{_,Z9,Z9,zs++[sg],by rw[aU];rfl,by rw[aB,lz];rfl}
  rintro ys G' ⟨rfl,zs,rfl,lz⟩ l hc;have s3:=aH hc (.lst (zs.map V.str));refine{U,l,_,_,Z9,Z9,s3 _ _ h1,ak,by rw[ai,ai];omega,fun q hq=>?_};have s4:=aH hq (.lst (ss.map V.str++zs.map V.str));have nq:q≠p:=Y (((pu.same Z).same M).same s3) hq;refine{q,ss++zs,_,Z9,by rw[aU];exact ak,nq,?_,by rw[aB];omega,by rw[aB];omega,(M.trans s3).trans s4};exact (ay (s3 _ _ (M _ _ W)) hq).symm
 rintro σ G2 ⟨U,ss,v5,rfl,h1,h2,h3,h4,h5,M⟩;dsimp only;have hm:=(pu.same Z).same M;have hL:=M _ _ (Z _ _ ix);have hy:=M _ _ W;have go:bN H G2:=Z.trans M;have ha:lm≠R:=ay ix I;clear M W O Z g hI;have c6:Af 10 6:={by decide,by decide,by decide};have hG:Af 10 15:={by decide,by decide,by decide};refine aX ?_;refine⟨_,Z9,_,Z9,_,_,Z9,Z9,p,n+1,Z9,hm,by omega,by omega,fun rc G3 fz fy gM b3=>⟨rc,Z9,by omega,by omega,j0 (n:=rc.toNat) (fun i σ G=>∃(xs:List V) (es:List Ev) (v6 v7 v8 v9 hR:Option V),σ=[Z8 (.ref p),Z8 (.ref lm),Z8 (.int n),Z8 (.ref R),Z8 (.ref U),v5,v6,v7,v8,v9,hR]/\G R=Z8 (.lst xs)/\aO (nY G) xs es/\xs.length=i/\(∀e∈es,SgOk ms.length e)/\eC G p/\Kp [p,R] G2 G)
  {[],[],_,_,_,_,_,Z9,b3 _ _ hy io,.nil,Z9,(fun e he=>by cases he),gM,Kp.but b3 ax} ?_ ?_⟩⟩
 ·intro i σ G hi qz;refine Z0 fun Gz gz=>?_;obtain⟨xs,es,v6,v7,v8,v9,hR,rfl,hf,hP,lx,ii,iv,kG⟩:=qz;refine gz ?_;have ij:=kG _ _ h1 (by simp[h2,h3]);have hD:=kG _ _ hL (by simp[ih,ha]);refine bF ?_;dsimp only;refine aX (cH ?_);refine{_,Z9,p,6,Z9,iv,by decide,by decide,fun a1 Ga a10 a11 hj ba=>{_,Z9,_,_,Z9,Z9,c6,_,_,Z9,Z9,p,_,Z9,hj,by decide,by decide,fun a2 Gb a20 a21 hF bb=>{lt2,fun l2 hC=>?_}}};have hO:=aH hC (.lst [.int a1,.int a2]);have hg:=Y hF hC;refine{_,Z9,p,9,Z9,hF.same hO,by decide,by decide,fun a3 Gc a30 a31 gn bc=>{Z9,.inr {_,Z9,l2,_,_,_,Z9,Z9,SqL.of (bc _ _ ak hg),Li a1 a2 _,?_}}};have tI:=fun k:Bool=>B7 (P:=fun t=>0<=t/\t<=1000000) k {a10,by omega} ⟨a20,by
   have:a2<1000001:=a21;omega⟩
  refine bF ?_;dsimp only;have hS:=tI (decide (V.int a3=V.int 1));revert hS;generalize (if decide (V.int a3=V.int 1)=true then a2 else a1)=tm;intro hS;have hY:But p G Gc:=((ba.trans bb).same hO).trans bc;refine aX (cH ?_);refine{_,Z9,_,Z9,_,Z9,U,_,Z9,.inl (SqL.of (hY _ _ ij h2)),p,_,Z9,gn,by rw[ai];omega,by rw[ai];omega,fun r4 Gd hb hQ hp bd=>?_};rw[ai]at hQ;obtain⟨sg,gt⟩:=JH hb hQ;refine{U,_,_,_,Z9,Z9,SqL.of (bd _ _ (hY _ _ ij h2) h2),gt,?_};refine bF ?_;dsimp only;refine aX (cH ?_);refine{_,Z9,p,9,Z9,hp,by decide,by decide,fun r5 Ge gg fG ho be=>{_,_,Z9,Z9,?_}};refine bF ?_;dsimp only;refine aX (cH ?_);refine{_,Z9,_,_,Z9,Z9,hG,_,_,Z9,Z9,.inl {by decide,by decide},_,_,Z9,Z9,?_};refine{p,_,Z9,ho,by decide,by decide,fun r6 Gf fx gl hA bf=>{_,_,Z9,Z9,hG,_,_,Z9,Z9,lt2,fun l3 hN=>?_}};have hM:=aH hN (.lst [.int 0,.int (r6-10^(15:Int).toNat)]);have gw:=Y hA hN;refine{_,Z9,p,9,Z9,hA.same hM,by decide,by decide,fun r7 Gg gh ga hd bg=>{Z9,.inr {_,Z9,l3,_,_,_,Z9,Z9,SqL.of (bg _ _ ak gw),Li _ _ _,?_}}};have oI:=B7 (P:=fun t=>-1000000000000000<=t/\t<=1000000000000000) (decide (V.int r7=V.int 1)) (a:=0) (b:=r6-10^(15:Int).toNat) {by decide,by decide} (by
   have e1:r6<2000000000000001:=gl;have e2:(10:Int)^(15:Int).toNat=1000000000000000:=by decide
   rw[e2];exact{by omega,by omega})
  refine bF ?_;dsimp only;revert oI;generalize (if decide (V.int r7=V.int 1)=true then r6-10^(15:Int).toNat else 0)=ot;intro oI;have hT:But p G Gg:=((((hY.trans bd).trans be).trans bf).same hM).trans bg;refine{_,Z9,.inl {Z9,_,SqL.of (hT _ _ hf io)},_,Z9,_,Z9,p,10,Z9,hd,by decide,by decide,fun rk Gh gq ge hk bh=>{_,Z9,_,Z9,lm,_,Z9,.inl (SqL.of (bh _ _ (hT _ _ hD ih) ih)),p,_,Z9,hk,by omega,by omega,fun to Gi hh gk hn bi=>{_,Z9,_,Z9,_,Z9,by show 6<=aG;omega,fun t ht=>?_}}};have im:=aH ht (.tup [.int tm,.int rk,.int to,.str sg,.int (r5-4),.int ot]);have hX:But p G Gi:=(hT.trans bh).trans bi;have hK:=im _ _ (hX _ _ hf io);refine{R,_,_,Z9,Z9,hK,by omega,?_};have ki:eS G (upd Gi t (.tup [.int tm,.int rk,.int to,.str sg,.int (r5-4),.int ot])):=(eS.but iv hX).trans (eS.same im);have hB:∀{b:ae} {ys:List V},upd Gi t (.tup [.int tm,.int rk,.int to,.str sg,.int (r5-4),.int ot]) b=Z8 (.tup ys)->b≠R:=fun {b ys} e z=>by
   rw[z,hK]at e
   cases e
  refine{xs++[.ref t],es++[{tm,rk,0,0,to,sg,r5-4,ot}],_,_,_,_,_,Z9,ak,cS (Paired.mono (fun v q z=>?_) hP) {t,Z9,aN ak (hB ak)},by rw[aB,lx];rfl,fun e he=>?_,?_,?_}
  ·obtain⟨t',e,z⟩:=nY.keepI ki z;exact{t',e,aN z (hB z)}
  ·rcases bY.mp he with z|z
   ·exact ii e z
   ·rw[aD.mp z];exact{hS,{gq,by show rk<=9;omega},⟨hh,gk⟩,{by show -4<=r5-4;omega,by show r5-4<=4;omega},oI}
  ·obtain⟨x,y,e⟩:=hn;exact{x,y,aN (im _ _ e) io.symm}
  ·intro b o e nb;have hE:¬b=p/\¬b=R:=by simpa using nb
   exact aN (im _ _ (hX _ _ (kG b o e nb) hE.1)) hE.2
 ·rintro σ G ⟨xs,es,v6,v7,v8,v9,hR,rfl,hf,hP,lx,ii,iv,kG⟩;dsimp only;refine{_,Z9,?_};have lP:=aM hP;exact k R xs es G I hf hP (by omega) ii iv fun b o e nb=>kG _ _ (go _ _ e) (by
   have:b≠R:=ay e I;simp[nb,this])
end
theorem rV{H:Hp}:∀{ps:List (Str×Int)} {vs:List V},eX H ps vs->aO (fun v (x:Str)=>∃a n,v=.ref a/\H a=Z8 (.tup [.str x,n])) vs (ps.map (·.1))
 | [],_,h=>by
  cases h;exact .nil
 |p::ps,_,h=>by
  cases h with
  |cons a b=>
   obtain⟨t,e,h⟩:=a;exact .cons {t,_,e,h} (rV b)
theorem me{Z:Type}{R:V->Z->Prop}:∀{xs:List V} {Y:List Z},aO R xs Y->∀x∈xs,∃a∈Y,R x a
 |_,_,.nil,_,h=>by cases h
 |_,_,.cons a b,x,h=>by
  rcases aE.mp h with z|z
  ·exact{_,ax,by rw[z];exact a}
  ·obtain⟨c,hc,r⟩:=me b x z;exact{c,aa _ hc,r}
def zH(H:Hp)(v:V)(M:MD):Prop:=∃(t bl Z:ae) (U W R:V) (Y:List V),v=.ref t/\H t=Z8 (.tup [U,.ref bl,.ref Z,W,R])/\H bl=Z8 (.lst Y)/\eX H M.ps Y/\H Z=Z8 (.lst (M.qs.map V.str))
structure MoI(m:Int)(H:Hp)(v:V)(M:MD):Prop where
 ma:tU M.bs M.qs M.ds M.hs H v
 fs:zH H v M
 kb:M.ps.map (·.1)=M.bs
 nb:M.bs.Nodup
 nq:M.qs.Nodup
 lb:M.bs.length<=9
 lq:M.qs.length<=9
 ld:M.ds.length<=100
 lh:M.hs.length<=9
 wb:∀q∈M.ps,-4<=q.2/\q.2<=4
 hk:∀q∈M.hs,q.2.toOk m/\q.2.deep<=4/\q.2.size<=3*ddz 4
 nh:(M.hs.map (·.1)).Nodup
 ne:∀x∈M.bs++M.qs,x.length<=6
theorem zH.same{H H':Hp}(s:bN H H'){v:V}{M:MD}(h:zH H v M):zH H' v M:=by
 obtain⟨t,bl,Z,U,Y,O,R,e,h1,h2,W,J⟩:=h;exact{t,bl,Z,U,Y,O,R,e,s _ _ h1,s _ _ h2,W.same s,s _ _ J}
theorem MoI.same{m:Int}{H H':Hp}(s:bN H H'){v:V}{M:MD}(h:MoI m H v M):MoI m H' v M:=
 {h.ma.same s,h.fs.same s,h.kb,h.nb,h.nq,h.lb,h.lq,h.ld,h.lh,h.wb,h.hk,h.nh,h.ne}
theorem MIn.moI{m:Int}{H H':Hp}{v:V}{M:MD}(h:MIn m H H' v M):MoI m H' v M:=by
 obtain⟨t,rfl,⟨bl,Z,D,J,U,G,h1,h2,W,Y,h5,h6,E,f1,f2,f3,f4⟩,R,nb,nq,B,lq,ld,f,wb,hk,g,ne⟩:=h;refine{{t,bl,Z,D,J,_,U,G,Z9,h1,h2,by rw[<- R];exact rV W,Y,h5,h6,Paired.mono (fun v q z=>?_) E},{t,bl,Z,_,_,_,U,Z9,h1,h2,W,Y},R,nb,nq,B,lq,ld,f,wb,hk,g,ne};obtain⟨u,l,xs,e,O,g2,I,g4,g5⟩:=z;exact{u,.ref l,e,O,l,xs,Z9,I,g4,g5.now}
theorem MIn.tree{m:Int}{H H':Hp}{v:V}{M:MD}(h:MIn m H H' v M):Tree H' 28 v:=by
 obtain⟨t,rfl,⟨bl,B,dl,g,vb,f,h1,h2,Y,U,G,I,Z,f1,f2,f3,f4⟩,kb,nb,nq,lb,lq,ld,lh,wb,hk,nh,ne⟩:=h;have O:M.ps.length<=9:=by grind
 refine Tree.atup h1 (by show 5<1000;decide) fun y hy=>?_;simp at hy
 rcases hy with rfl|rfl|rfl|rfl|rfl
 ·exact Tree.scal (by exact trivial) _
 ·exact Tree.alst h2 (by rw[<- Y.length];omega) fun z hz=>Y.tree z hz
 ·refine Tree.alst U (by rw[ai];omega) fun z hz=>?_;obtain⟨x,_,rfl⟩:=cD.mp hz;exact Tree.scal (by exact trivial) _
 ·refine Tree.alst G (by rw[ai];omega) fun z hz=>?_;obtain⟨x,_,rfl⟩:=cD.mp hz;exact Tree.scal (by exact trivial) _
 ·refine Tree.alst I (by rw[aM Z];omega) fun z hz=>?_;obtain⟨q,hq,u,l,xs,rfl,W,D,R,E,J⟩:=me Z z hz;refine Tree.atup W (by show 2<1000;decide) fun y hy=>?_;simp at hy
  rcases hy with rfl|rfl
  ·exact Tree.scal (by exact trivial) _
  ·exact Tree.alst R E fun z hz=>eF.tree q.2 xs 24 J.now (by have:=(hk q hq).2.1;omega) z hz
theorem zH.alike{H H':Hp}{v O:V}{M:MD}(h:zH H v M)(al:Alike H H' 28 v O):zH H' O M:=by
 refine Z0 fun Gz gz=>?_;obtain⟨t,bl,ql,n0,x3,x4,vb,rfl,h1,h2,g,B⟩:=h;obtain⟨t',f,rfl,W,Z⟩:=sN h1 al;obtain⟨J,Y,rfl,a0,Z⟩:=dH Z;obtain⟨z1,Y,rfl,a1,Z⟩:=dH Z;obtain⟨z2,Y,rfl,a2,Z⟩:=dH Z;obtain⟨G,Y,rfl,a3,Z⟩:=dH Z;obtain⟨D,Y,rfl,a4,Z⟩:=dH Z;obtain rfl:=nX Z;obtain⟨b',U,rfl,c1,I⟩:=qg h2 a1;obtain⟨E,vq,rfl,R,d2⟩:=qg B a2;refine gz ?_;rw[jd d2 (by intro x hx;obtain⟨z,_,rfl⟩:=cD.mp hx;exact trivial)]at R;exact{t',b',E,J,G,D,U,Z9,W,c1,g.alike I,R}
def GK(m:Int)(H:Hp)(Z:ae)(Ms:List MD):Prop:=∃xs,H Z=Z8 (.lst xs)/\aO (MoI m H) xs Ms
theorem GK.same{m:Int}{H H':Hp}(s:bN H H'){Z:ae}{Ms:List MD}(h:GK m H Z Ms):GK m H' Z Ms:=by
 obtain⟨xs,h1,h2⟩:=h;exact{xs,s _ _ h1,Paired.mono (fun _ _ z=>z.same s) h2}
theorem JI{m:Int}{H0 H:Hp}{Z:ae}{xs:List V}{Ms:List MD}(h:H Z=Z8 (.lst xs))(p:aO (MIn m H0 H) xs Ms)(l:Ms.length<1000):Tree H 29 (.ref Z):=
 Tree.alst h ((aM p) ▸ l) fun x hx=>by
  obtain⟨M,_,z⟩:=me p x hx;exact z.tree
theorem JJ{m:Int}{H0 H H2:Hp}{W:ae}{xs:List V}{Ms:List MD}{Y:V}(h:H W=Z8 (.lst xs))(p:aO (MIn m H0 H) xs Ms)(R:Alike H H2 29 (.ref W) Y):∃Z,Y=.ref Z/\GK m H2 Z Ms:=by
 obtain⟨Z,ys,rfl,h1,U⟩:=qg h R;refine{Z,Z9,ys,h1,sQ (T:=Tree H 28) (fun v M Y a b c=>?_) p U fun x hx=>?_}
 ·have z:=a.moI;exact{z.ma.alike c b,z.fs.alike b,z.kb,z.nb,z.nq,z.lb,z.lq,z.ld,z.lh,z.wb,z.hk,z.nh,z.ne}
 ·obtain⟨M,_,z⟩:=me p x hx;exact z.tree
end My
namespace HT
open PySem PyProof.Rows
open PySem.SeqAt
open PySem.AutoSeq1 (wpAny_loadPart')
open PySem.MeetsSeq PySem.MeetsSeq2 PySem.MeetsSeq3
def Nt(A:b8)(s:aw)(x y:aj)(g:Bool):Prop:=∀(prog:aQ) (w:bU) (E:aj->aw->Prop) (Q:aj->aw->Prop),Q (.bool g) s->bQ (bR prog w) A (kg .Gt x y) Q E s
theorem JK(l b:ae)(x y:aj)(xs ys:List aj)(n m:Nat)(dd O:Option ae)(sl sm:Array (Option aj))(g:Bool) :
  Oe (iT.«tuple.__gt__» {[.ref l,.ref b],[]})
   (fun A R s=>s.heap.get? l=Z8 {cls:=.type "tuple",dict:=dd,data:=.seq (x::xs).toArray n,slots:=sl}/\s.heap.get? b=Z8 {cls:=.type "tuple",dict:=O,data:=.seq (y::ys).toArray m,slots:=sm}/\EqAt A.in1 s x y false/\Nt A.in1 s x y g/\R (.ok (.ret (.bool g))) s):=
 .of_wp fun prog w A R s h=>by
  obtain⟨hp,D,d,tk,I⟩:=s;obtain⟨G,hb,J,M,h⟩:=h;have f:=jr
  wp_walk using cQ G,cQ hb,lL _ (fun rest b s'=>b.1=Z7/\s'=⟨hp,D,d,tk,I⟩/\∃Z,rest=(x,y)::Z) _
  case turn=>
   rintro⟨B,z⟩ rest b s' ⟨V,rfl,Z,hz⟩;injection hz with Y W;injection Y with hy hx;subst hy hx;refine au (J prog w _ _ ?_);have U:=fun E Q q=>M prog w E Q q
   wp_walk using U
   exact{_,Z9,by simpa using h}
  case fin=>
   rintro⟨t,b2⟩ s' ⟨V,rfl,Z,hz⟩
   cases hz
  case h=>
   exact{Z9,Z9,xs.zip ys,by simp}
theorem gtAt_heads{A:b8}{s:aw}{l b:ae}{x y:aj}{xs ys:List aj}{g:Bool}(R:m7 s.heap l (x::xs).toArray)(hb:m7 s.heap b (y::ys).toArray)(hu:A.units<dY)(U:EqAt A.in1 s x y false)(V:Nt A.in1 s x y g):Nt A s (.ref l) (.ref b) g:=fun prog w E Q h=>by
 obtain⟨⟨J,dd,t1,sl⟩,Z,rfl,n,rfl⟩:=id R;obtain⟨⟨M,W,O,sm⟩,Y,rfl,m,rfl⟩:=id hb;exact kN {_,Z,Z9} {_,Y,Z9} yL xT (wL _ _) (JK l b x y xs ys n m dd W sl sm g)
  {Z,Y,U,V,show Value.bool g≠Value.notImplemented/\Q (.bool g) s from{(fun x=>nomatch x),h}} hu
end HT
namespace L2
open PySem PySem.Spec PyProof.Rows
section
variable{X:Cx}
def rGtH:R2:=fun x y H Q=>∃a b Y W ns Z R U,x=.ref a/\y=.ref b/\H a=Z8 (.tup (.ref Y::R))/\H b=Z8 (.tup (.ref W::U))/\H Y=Z8 (.tup (ns.map V.int))/\H W=Z8 (.tup (Z.map V.int))/\ns≠Z/\Q (.bl (HT.lexLt Z ns)) H
theorem Nu(hu:X.A.units+1<dY):OpR X (eE .Gt) rGtH:=by
 intro pins s σ H x y v u Q I G J h;refine Z0 fun Gz D=>?_;obtain⟨a,b,ka,kb,ns,B,ra,rb,rfl,rfl,ha,hb,Y,W,ne,q⟩:=h;subst G;subst J;obtain⟨f,V,t,_⟩:=I.tuple (SqT.of ha);obtain⟨R,U,p2,_⟩:=I.tuple (SqT.of hb);obtain⟨k1,s1,z,_⟩:=I.tuple (SqT.of Y);obtain⟨k2,s2,M,_⟩:=I.tuple (SqT.of W);refine D ?_;have Z:=hu;have e:=wM (A:=X.A.in1) I.hok Z Y W;rw[decide_eq_false ne]at e
 cases V with
 |cons g V=>
  cases U with
  |cons O U=>
   subst g;subst O;exact HT.gtAt_heads t p2 (by lia) e (fun prog w E Q h=>HT.gt_tup z M (intsAre_of s1) (intsAre_of s2) Z h) _ _ _ _ {.bl (HT.lexLt B ns),H,I,Z9,q}
end
end L2
namespace L2
open PySem PySem.W PyProof.Rows HT
def jx(a b:List Int):Prop:=lexLt b a=false
theorem jx.refl(a:List Int):jx a a:=uS a
theorem jx.trans{a b c:List Int}(h1:jx a b)(h2:jx b c):jx a c:=by
 unfold jx at *
 cases e:lexLt c a with
 |false=>rfl
 |true=>
  cases f:lexLt a b with
  |true=>
   rw[lx_trans e f]at h2
   cases h2
  |false=>
   rw[rL f h1]at e;rw[e]at h2
   cases h2
theorem jx.of_lt{a b:List Int}(h:lexLt a b=true):jx a b:=lx_asym h
theorem GV{a b c:List Int}(h:lexLt a b=true)(h2:jx b c):lexLt a c=true:=by
 cases e:lexLt a c with
 |true=>rfl
 |false=>
  have y:=h2.trans (e);unfold jx at y;rw[h]at y
  cases y
theorem jx.anti{a b:List Int}(h1:jx a b)(h2:jx b a):a=b:=rL h2 h1
def KR{Z:Type}(r:Nat->List Int)(n:Nat):KasT Z->(Z->Prop)->Prop
 |.ret a,Q=>Q a
 |.ask i j k,Q=>(i<n/\j<n/\i≠j)/\KR r n (k (lexLt (r i) (r j))) Q
section
variable{r:Nat->List Int}{n:Nat}
theorem KR.bind{Z Y:Type}{f:Z->KasT Y}{Q:Y->Prop}:∀{t:KasT Z},KR r n t (fun a=>KR r n (f a) Q)->KR r n (t.bind f) Q
 |.ret _,h=>h
 |.ask _ _ k,⟨h1,W⟩=>{h1,KR.bind W}
theorem KR.sound{Y:Type}{Z:Nat->Nat->(Bool->aw->Prop)->aw->Prop}{s:aw}{Q:Y->Prop}(hc:∀i j (C:Bool->aw->Prop),i<n->j<n->i≠j->C (lexLt (r i) (r j)) s->Z i j C s):∀{t:KasT Y},KR r n t Q->t.kasWp Z (fun a s'=>s'=s/\Q a) s
 |.ret _,h=>⟨Z9,h⟩
 |.ask i j k,⟨⟨h1,h2,V⟩,W⟩=>hc i j _ h1 h2 V (KR.sound hc W)
theorem JL{Z:Type}{a b:KasT Z}{Q:Z->Prop}(h:KR r n a Q):KR r n (if true=true then a else b) Q:=h
theorem JM{Z:Type}{a b:KasT Z}{Q:Z->Prop}(h:KR r n b Q):KR r n (if false=true then a else b) Q:=h
def Rk(r:Nat->List Int)(p:Array Nat)(i:Nat):List Int:=r (p.getD i 0)
def Pm(n:Nat)(p:Array Nat):Prop:=p.Perm (gQ n).toArray
theorem Pm.size{p:Array Nat}(h:Pm n p):p.size=n:=by
 have:=h.size_eq;simpa using this
theorem Pm.lt{p:Array Nat}(h:Pm n p){i:Nat}(hi:i<n):p.getD i 0<n:=by
 have hs:i<p.size:=by rw[h.size];exact hi
 have e:p.getD i 0=p[i]:=by simp[vT,hs]
 rw[e];have m:p[i]∈p.toList:=by simp
 simpa using ((jf.mp h).mem_iff.mp m)
theorem Pm.two{p:Array Nat}(h:Pm n p){i j:Nat}(hi:i<n)(Z:j<n)(ne:i≠j):p.getD i 0<n/\p.getD j 0<n/\p.getD i 0≠p.getD j 0:=by
 refine{h.lt hi,h.lt Z,?_};have Y:=(jf.mp h).nodup_iff.mpr (by simpa using List.nodup_range);have h1:i<p.size:=by rw[h.size];exact hi
 have h2:j<p.size:=by rw[h.size];exact Z
 have V:p.getD i 0=p.toList[i]'(by simpa using h1):=by simp[vT,h1]
 have W:p.getD j 0=p.toList[j]'(by simpa using h2):=by simp[vT,h2]
 rw[V,W];intro z
 rcases GX ne with c|c
 ·exact dA.mp Y i j _ _ c z
 ·exact dA.mp Y j i _ _ c z.symm
theorem qX(p:Array Nat)(i:Nat):p.getD i 0=(p[i]?).getD 0:=by
 simp_all
theorem Pm.rev{p:Array Nat}(h:Pm n p)(i j:Nat):Pm n (Oj p i j):=(mirror_perm _ _ _ _).trans h
theorem Pm.bub{p:Array Nat}(h:Pm n p)(i j:Nat):Pm n (bubble p i j):=(bubble_perm _ _ _).trans h
theorem AW{p:Array Nat}{i j:Nat}(Z:j<=p.size)(k:Nat):Rk r (Oj p i j) k=if i<=k/\k<j then Rk r p (i+j-1-k) else Rk r p k:=by
 unfold Rk Oj;rw[qX,getElem?_mirror_all Z,qX,qX]
 split<;>rfl
theorem GY{p:Array Nat}{Z d:Nat}(hs:Z<p.size)(Y:d<=Z)(k:Nat):Rk r (bubble p Z d) k=if k=Z-d then Rk r p Z else if Z-d<k/\k<=Z then Rk r p (k-1) else Rk r p k:=by
 unfold Rk;rw[qX,getElem?_bubble hs d Y,qX,qX,qX]
 repeat' split
 all_goals rfl
theorem sR{p:Array Nat}{i j:Nat}(Y:j<=p.size)(Z:∀k,i<=k->k<j->Rk r p k=Rk r p (j-1))(k:Nat):Rk r (Oj p i j) k=Rk r p k:=by
 rw[AW Y]
 split
 ·grind
 ·rfl
def Srt(r:Nat->List Int)(p:Array Nat)(m:Nat):Prop:=∀i j,i<=j->j<m->jx (Rk r p i) (Rk r p j)
def Fal(r:Nat->List Int)(p:Array Nat)(m:Nat):Prop:=∀i j,i<=j->j<m->jx (Rk r p j) (Rk r p i)
theorem Srt.one(p:Array Nat):Srt r p 1:=fun i j h1 h2=>by
 have:i=j:=by lia
 subst this;exact jx.refl _
theorem Srt.up{p:Array Nat}{x:Nat}(h1:1<=x)(h:Srt r p x)(l:jx (Rk r p (x-1)) (Rk r p x)):Srt r p (x+1):=fun i j Z Y=>by
 by_cases c:j<x
 ·exact h i j Z c
 ·have:j=x:=by lia
  subst this
  by_cases d:i=j
  ·subst d;exact jx.refl _
  ·exact (h i (j-1) (by lia) (by lia)).trans l
theorem Fal.up{p:Array Nat}{x:Nat}(h1:1<=x)(h:Fal r p x)(l:jx (Rk r p x) (Rk r p (x-1))):Fal r p (x+1):=fun i j Z Y=>by
 by_cases c:j<x
 ·exact h i j Z c
 ·have:j=x:=by omega
  subst this
  by_cases d:i=j
  ·subst d;exact jx.refl _
  ·exact l.trans (h i (j-1) (by omega) (by omega))
theorem Fal.eq{p Z:Array Nat}{m:Nat}(e:∀k,Rk r Z k=Rk r p k)(h:Fal r p m):Fal r Z m:=fun i j a b=>by
 rw[e,e];exact h i j a b
theorem AX{p:Array Nat}(hp:Pm n p){N:Nat}(Z:N<=n){Q:Nat->Prop}(h:∀q,1<=q->q<=N->Srt r p q->(q=N\/lexLt (Rk r p q) (Rk r p (q-1))=true)->Q q):∀(f m:Nat),1<=m->m+f=N->Srt r p m->KR r n (kas_asc p f m) Q
 |0,m,h1,Y,hs=>h m h1 (by omega) hs (.inl (by omega))
 |f+1,m,h1,Y,hs=>by
  refine{hp.two (by omega) (by omega) (by omega),?_}
  cases e:lexLt (r (p.getD m 0)) (r (p.getD (m-1) 0)) with
  |true=>exact h m h1 (by omega) hs (.inr e)
  |false=>exact AX hp Z h f (m+1) (by omega) (by omega) (hs.up h1 e)
theorem uu{N:Nat}(W:N<=n){Q:Array Nat×Nat×Nat->Prop}{V:Nat}(h:∀p m q,Pm n p->V<=m->m<=N->Fal r p m->q+1<=m->(∀i,m-(q+1)<=i->i<m->Rk r p i=Rk r p (m-1))->Q (p,m,q)) :
  ∀(f:Nat) (p:Array Nat) (m q:Nat),Pm n p->1<=m->V<=m->m+f=N->Fal r p m->q+1<=m->(∀i,m-(q+1)<=i->i<m->Rk r p i=Rk r p (m-1))->KR r n (kas_desc f p m q) Q
 |0,p,m,q,hp,h1,Y,U,hs,hq,Z=>h p m q hp Y (by omega) hs hq Z
 |f+1,p,m,q,hp,h1,Y,U,hs,hq,Z=>by
  refine{hp.two (by omega) (by omega) (by omega),?_};have hsz:m<=p.size:=by rw[hp.size];omega
  cases e:lexLt (r (p.getD m 0)) (r (p.getD (m-1) 0)) with
  |true=>
   refine JL ?_;have up:=hs.up h1 (jx.of_lt e)
   by_cases c:q>0
   ·rw[if_pos c];exact uu W h f _ (m+1) 0 (hp.rev _ _) (by omega) (by omega) (by omega) (up.eq (sR hsz Z)) (by omega) (fun i a b=>by congr 1;omega)
   ·rw[if_neg c];exact uu W h f p (m+1) 0 hp (by omega) (by omega) (by omega) up (by omega) (fun i a b=>by congr 1;omega)
  |false=>
   refine JM ({hp.two (by omega) (by omega) (by omega),?_})
   cases d:lexLt (r (p.getD (m-1) 0)) (r (p.getD m 0)) with
   |true=>
    exact JL (h p m q hp Y (by lia) hs hq Z)
   |false=>
    refine JM ?_;have eq:Rk r p m=Rk r p (m-1):=rL e d;refine uu W h f p (m+1) (q+1) hp (by omega) (by omega) (by omega) (hs.up h1 (eq ▸ jx.refl _)) (by lia) (fun i a b=>?_);rw[show m+1-1=m by lia]
    by_cases c:i=m
    ·subst c;rfl
    ·grind
theorem zI{N:Nat}(Z:N<=n){Q:Nat×Array Nat->Prop}(h:∀m p,Pm n p->1<=m->m<=N->Srt r p m->Q (m,p)){p:Array Nat}{m:Nat}(hp:Pm n p)(h1:1<=m)(W:m<=N)(hs:Fal r p m):KR r n (kas_tail3 m N p) Q:=by
 have hsz:m<=p.size:=by rw[hp.size];lia
 refine KR.bind (AX (hp.rev 0 m) Z (fun q a b c _=>?_) (N-m) m h1 (by lia) fun i j Y V=>?_)
 ·exact h q _ (hp.rev 0 m) a b c
 ·rw[AW hsz,AW hsz,if_pos (by lia),if_pos (by lia)];exact hs _ _ (by omega) (by omega)
theorem tD{N:Nat}(W:N<=n){Q:Nat×Array Nat->Prop}(h:∀m p,Pm n p->1<=m->m<=N->Srt r p m->Q (m,p)){p:Array Nat}{m:Nat}(hp:Pm n p)(R:m+1<=N)(hs:Fal r p (m+1)):KR r n (kas_descPart m N p) Q:=by
 refine KR.bind (uu W (fun U O q Z a b Y hq V=>?_) (N-(m+1)) p (m+1) 0 hp (by lia) (aF _) (by lia) hs (by lia) (fun i a b=>by congr 1;lia));dsimp only
 by_cases c:q>0
 ·rw[if_pos c];exact zI W h (Z.rev _ _) (by lia) b (Y.eq (sR (by rw[Z.size];lia) V))
 ·rw[if_neg c];exact zI W h Z (by lia) b Y
theorem GZ{Q:Nat×Array Nat->Prop}(h:∀m p,Pm n p->1<=m->m<=n->Srt r p m->Q (m,p)){p:Array Nat}(hp:Pm n p)(h1:1<=n):KR r n (kas_count n p) Q:=by
 refine KR.bind (AX hp (aF n) (fun m U V hs W=>?_) (n-1) 1 (aF _) (by omega) (Srt.one p))
 by_cases c:m=n
 ·rw[if_pos (by simpa using c)];exact h m p hp U V hs
 ·rw[if_neg (by simpa using c)];have Y:=W.resolve_left c
  by_cases g:m>1
  ·rw[if_pos g];refine{hp.two (by lia) (by omega) (by omega),?_}
   cases e:lexLt (r (p.getD 0 0)) (r (p.getD (m-1) 0)) with
   |true=>
    exact JL (h m p hp U V hs)
   |false=>
    refine JM ?_;have Z:=fun k _ hk=>by
     have a1:=hs 0 k (by omega) hk;exact (hs k (m-1) (by omega) (by omega)).anti (jx.trans (e) a1)
    refine tD (aF n) h (hp.rev _ _) (by lia) (Fal.eq (sR (by rw[hp.size];lia) Z) (Fal.up (by lia) (fun i j R O=>?_) (jx.of_lt Y)));rw[Z i (by lia) (by lia),Z j (by lia) O];exact jx.refl _
  ·rw[if_neg g];have:m=1:=by lia
   subst this;exact tD (aF n) h hp (by lia) (Fal.up (aF _) (fun i j a b=>by
    have:i=j:=by lia
    subst this;exact jx.refl _) (jx.of_lt Y))
theorem vd{p:Array Nat}{k:Nat}(hp:Pm n p)(hk:k<n)(hs:Srt r p k){Q:Nat->Prop}(h:∀l,l<=k->(∀i,i<l->jx (Rk r p i) (Rk r p k))->(∀i,l<=i->i<k->lexLt (Rk r p k) (Rk r p i)=true)->Q l) :
  ∀(f l q:Nat),l<=q->q<=k->q-l<=f->(∀i,i<l->jx (Rk r p i) (Rk r p k))->(∀i,q<=i->i<k->lexLt (Rk r p k) (Rk r p i)=true)->KR r n (kas_place p k f l q) Q
 |0,l,q,a,b,c,lo,hi=>by
  have:l=q:=by omega
  subst this;exact h l b lo hi
 |f+1,l,q,a,b,c,lo,hi=>by
  unfold kas_place
  by_cases d:l≥q
  ·rw[if_pos d];have:l=q:=by lia
   subst this;exact h l b lo hi
  ·rw[if_neg d];refine{hp.two hk (by omega) (by omega),?_}
   cases e:lexLt (r (p.getD k 0)) (r (p.getD ((l+q)/2) 0)) with
   |true=>
    exact JL (vd hp hk hs h f l _ (by omega) (by omega) (by omega) lo fun i h1 h2=>GV e (hs _ _ h1 h2))
   |false=>
    exact JM (vd hp hk hs h f _ q (by omega) (by omega) (by omega) (fun i h1=>(hs i ((l+q)/2) (by lia) (by lia)).trans e) hi)
theorem Ha{Q:Array Nat->Prop}(h:∀p,Pm n p->Srt r p n->Q p):∀(f:Nat) (p:Array Nat) (k:Nat),Pm n p->k+f=n->Srt r p k->KR r n (kas_bin f p k) Q
 |0,p,k,hp,Y,hs=>h p hp (by rw[<- Y];exact hs)
 |f+1,p,k,hp,Y,hs=>by
  unfold kas_bin;refine KR.bind (vd hp (by omega) hs (fun l V lo hi=>?_) k 0 k (bE _) (aF _) (by omega) (fun i h=>absurd h (by omega)) (fun i a b=>absurd b (by omega)));refine Ha h f _ (k+1) (hp.bub _ _) (by omega) fun i j W U=>?_;have Z:k<p.size:=by rw[hp.size];lia
  rw[GY Z (by lia),GY Z (by lia),show k-(k-l)=l by lia]
  repeat' split
  all_goals first
   |(exfalso;lia)
   |exact jx.refl _
   |exact lo _ (by lia)
   |exact jx.of_lt (hi _ (by lia) (by omega))
   |exact hs _ _ (by omega) (by omega)
theorem JN(h1:1<=n):KR r n (kas_sort n) (fun p=>Pm n p/\Srt r p n):=by
 refine KR.bind (GZ (fun m p hp Z Y hs=>?_) (Array.Perm.refl _) h1);dsimp only
 by_cases c:m<n
 ·rw[if_pos c];refine Ha (fun p hp hs=>⟨hp,hs⟩) _ p (max m 1) hp (by lia) ?_;rw[show max m 1=m by lia];exact hs
 ·rw[if_neg c];have:m=n:=by lia
  subst this;exact⟨hp,hs⟩
end
end L2
namespace L2
open PySem PySem.W PySem.Spec PyProof.Rows HT
section
variable{prog:aQ}{w:bU}{A:b8}{E:aj->aw->Prop}{s:aw}
theorem tV{R:cG}{a:ae}{vs:List aj}{n:Nat}{b:Bool}{P:Fin->aw->Prop}{r:Nat->List Int}(I:s.heap.get? a=Z8 (fk "list" vs.toArray n))(k0:∀c o,R.get? c=Z8 o->s.heap.get? c=Z8 o)(D:R.get? a=Z7)(h2:2<=vs.length)(O:vs.length<64)
  (hk:∀h':cG,(∀c o,R.get? c=Z8 o->h'.get? c=Z8 o)->∀Q:SortKind->aw->Prop,Q (Hc false) {s with heap:=h'}->bQ (bR prog w) A (keyKind' vs.toArray) Q E {s with heap:=h'})
  (hc:∀h':cG,(∀c o,R.get? c=Z8 o->h'.get? c=Z8 o)->∀i j (C:Bool->aw->Prop),i<vs.length->j<vs.length->i≠j->C (lexLt (r i) (r j)) {s with heap:=h'}->kas_ask prog w A (Hc false) (qY b vs) i j C {s with heap:=h'})
  (h:∀p,Pm vs.length p->Srt r p vs.length->P (.done (.ret .none)) {s with heap:=sortedHeap s.heap a vs (tE (qY b (p.toList.map fun i=>(qY b vs).getD i Value.none)))}) :
  bQ (bR prog w) A (iT.«list.sort» ⟨[.ref a],[(pQ "reverse",.bool b)]⟩) P E s:=by
 rw[list_sort_rev];have ha:=aS I;refine au (listItems_at I rfl (au (uf I rfl ?_)));obtain⟨f,V⟩:∃f,(s.heap.update a (dQ fun _=>#[])).get? a=Z8 (fk "list" #[] f):=⟨_,get?_update_seq I (fun _=>#[])⟩;refine au (yN V rfl (au (wpAny_newTuple (au (ug (eK ?_))))));have J:(((s.heap.update a (dQ fun _=>#[])).push (fk "tuple" vs.toArray 0)).push (fk "list" #[] 0)).get? a=Z8 (fk "list" #[] f):=by
  rw[gs _ _ _ (by rw[uT,gO];exact aR (gv ha)),gs _ _ _ (by rw[gO];exact aR ha)];exact V
 have Y:∀c o,R.get? c=Z8 o->(((s.heap.update a (dQ fun _=>#[])).push (fk "tuple" vs.toArray 0)).push (fk "list" #[] 0)).get? c=Z8 o:=fun c o e=>by
  have lt:=aS (k0 c o e);have ne:c≠a:=fun z=>by
   rw[z,D]at e
   cases e
  rw[gs _ _ _ (by rw[uT,gO];exact aR (gv lt)),gs _ _ _ (by rw[gO];exact aR lt),Dr _ _ _ _ ne];exact k0 c o e
 have step:∀t:Sem Fin,bQ (bR prog w) A t P E {s with heap:=((s.heap.update a (dQ fun _=>#[])).push (fk "tuple" vs.toArray 0)).push (fk "list" #[] 0)} ->
   bQ (bR prog w) A (if b=true then (do let _ <- Io "list.sort.reverse";t) else t) P E {s with heap:=((s.heap.update a (dQ fun _=>#[])).push (fk "tuple" vs.toArray 0)).push (fk "list" #[] 0)}:=by
  intro t ht
  split
  ·exact au (AC ht)
  ·exact ht
 refine step _ ?_;have U:¬vs.toArray.size<2:=by
  rw[aJ]
  lia
 rw[if_neg U,if_neg U];refine au (hk _ Y _ ?_);rw[kat_pairs b rfl];have B:=kat_len b vs;refine au (eJ (kat_run (Q:=fun Z s'=>∃p:Array Nat,arrOf Z=p.map (kas_item ((qY b vs).toArray.zip (qY b vs).toArray))/\failedOf Z=Z7/\s'={s with heap:=((s.heap.update a (dQ fun _=>#[])).push (fk "tuple" vs.toArray 0)).push (fk "list" #[] 0)}/\Pm vs.length p/\Srt r p vs.length) rfl (B ▸ h2) (B ▸ O) (fun p Z s' hp W g hg=>⟨p,W,g,hg⟩) (by
  rw[B];exact KR.sound (hc _ Y) (JN (by lia)))) ?_ fun _ _ e=>e)
 rintro⟨⟨⟩,Z⟩ s' ⟨p,W,g,rfl,M,G⟩;refine au (yN J rfl ?_);rw[(kat_snds rfl W),kat_outs];have lp:(qY b (p.toList.map fun i=>(qY b vs).getD i Value.none)).length<64:=by
  rw[kat_len,ai,qS,M.size];exact O
 refine au (uf J rfl ?_);rw[g];simp only[bne_self_eq_false,Em,if_false];exact bK (h p M G)
theorem sorted_N{l:ae}{vs:List aj}{b:Bool}{Q:aj->aw->Prop}{r:Nat->List Int}(U:s.heap.IsList l vs.toArray)(h2:2<=vs.length)(W:vs.length<64)
  (hk:∀(Z:b8) (E:aj->aw->Prop) (h':cG),Z.units<=A.units+2->(∀c o,s.heap.get? c=Z8 o->h'.get? c=Z8 o)->∀Q:SortKind->aw->Prop,Q (Hc false) {s with heap:=h'}->bQ (bR prog w) Z (keyKind' vs.toArray) Q E {s with heap:=h'})
  (hc:∀(Z:b8) (h':cG),Z.units<=A.units+2->(∀c o,s.heap.get? c=Z8 o->h'.get? c=Z8 o)->∀i j (C:Bool->aw->Prop),i<vs.length->j<vs.length->i≠j->C (lexLt (r i) (r j)) {s with heap:=h'}->kas_ask prog w Z (Hc false) (qY b vs) i j C {s with heap:=h'})
  (h:∀p,Pm vs.length p->Srt r p vs.length->Q (.ref (s.heap.objs.size+1)) {s with heap:=El s.heap vs (tE (qY b (p.toList.map fun i=>(qY b vs).getD i Value.none)))}) :
  bQ (bR prog w) A (vD (.builtin "sorted") [.ref l] [(pQ "reverse",.bool b)]) Q E s:=by
 refine Fi kind_sorted plain_sorted entry_sorted (args_sorted_rev _ _) (au (bK (au (collect_list U (au (ug ?_))))));have hsz:((s.heap.push (fk "list" #[] 0)).update s.heap.objs.size (dQ (·++vs.toArray))).objs.size=s.heap.objs.size+1:=by
  rw[gO,uT]
 have Y:(((s.heap.push (fk "list" #[] 0)).update s.heap.objs.size (dQ (·++vs.toArray))).push (fk "list" vs.toArray 0)).get? (s.heap.objs.size+1)=Z8 (fk "list" vs.toArray 0):=by
  rw[<- hsz];exact cA _ rfl
 have k0:∀c o,s.heap.get? c=Z8 o->(((s.heap.push (fk "list" #[] 0)).update s.heap.objs.size (dQ (·++vs.toArray))).push (fk "list" vs.toArray 0)).get? c=Z8 o:=fun c o e=>by
  have lt:=aS e;rw[gs _ _ _ (hsz ▸ aR (gv lt)),Dr _ _ _ _ (aR lt),gs _ _ _ (aR lt)];exact e
 have V:s.heap.get? (s.heap.objs.size+1)=Z7:=by
  cases e:s.heap.get? (s.heap.objs.size+1) with
  |none=>rfl
  |some o=>
   have:=aS e;exact absurd this (Nat.not_lt.mpr (e9 _))
 rw[hsz];exact au (eK (KN slot_list_sort {_,Y,Z9} entry_list_sort (tV Y k0 V h2 W (fun h' k Q q=>hk _ _ h' (aF _) k Q q) (fun h' k i j C hi R ne q=>hc _ h' (aF _) k i j C hi R ne q) fun p a1 a2=>{_,Z9,bK {_,Z9,h p a1 a2}}) (Mw _ _)))
end
def AY(H:Hp)(z:V×List Int):Prop:=∃a k Z,z.1=.ref a/\H a=Z8 (.tup (.ref k::Z))/\H k=Z8 (.tup (z.2.map V.int))
theorem sS:∀{xs:List V} {Z:List aj},dv xs Z->∀(i:Nat),i<xs.length->∃v,Z.getD i Value.none=v/\∃x,xs[i]?=Z8 x/\RelV x v
 |_,_,.nil,i,h=>absurd h (by simp)
 |_,_,.cons a b,0,h=>{_,Z9,_,Z9,a}
 |_,_,.cons a b,i+1,h=>by
  obtain⟨v,e,x,h1,h2⟩:=sS b i (by simpa using h);exact{v,by simpa using e,x,by simpa using h1,h2}
theorem w9{xs:List V}{Z:List aj}(h:dv xs Z)(d:V):∀(is:List Nat),(∀i∈is,i<xs.length)->dv (is.map fun i=>(xs.getD i d)) (is.map fun i=>Z.getD i Value.none)
 | [],_=>.nil
 |i::is,hb=>by
  obtain⟨v,e,x,h1,h2⟩:=sS h i (hb i ax);refine .cons ?_ (w9 h d is fun j Y=>hb j (aa _ Y));show RelV (xs.getD i d) (Z.getD i Value.none);rw[e,fj,h1];exact h2
theorem AZ{Z:Type}(l:List Z)(d:Z):(gQ l.length).map (fun i=>l.getD i d)=l:=by
 apply tu;intro i;rw[bM]
 by_cases h:i<l.length
 ·simp_all
 ·simp_all
def pZ:V×List Int:=(.non,[])
theorem Hd{zs:List (V×List Int)}(R:(zs.map (·.2)).Nodup){p:Array Nat}(hp:Pm zs.length p)(hs:Srt (fun i=>(zs.reverse.getD i pZ).2) p zs.length) :
  ((p.toList.map fun i=>zs.reverse.getD i pZ).reverse).Perm zs/\((p.toList.map fun i=>zs.reverse.getD i pZ).reverse).Pairwise (fun a b=>HT.lexLt b.2 a.2=true):=by
 have pl:p.toList.Perm (gQ zs.length):=by simpa using jf.mp hp
 have Y:(p.toList.map fun i=>zs.reverse.getD i pZ).Perm zs:=by
  refine (pl.map _).trans ?_;have e:=AZ zs.reverse pZ;rw[eO]at e;rw[e];exact tF _
 refine{(tF _).trans Y,List.pairwise_reverse.mpr (dA.mpr fun i j hi W Z=>?_)};have U:j<zs.length:=by
  have:=Y.length_eq
  lia
 have at_:∀k (h:k<(p.toList.map fun i=>zs.reverse.getD i pZ).length),(p.toList.map fun i=>zs.reverse.getD i pZ)[k].2=Rk (fun i=>(zs.reverse.getD i pZ).2) p k:=fun k h=>by
  have hk:k<p.size:=by simp_all
  unfold Rk;simp[vT,hk]
 rw[at_ i hi,at_ j W];refine lx_of_not (hs i j (jZ Z) U) fun z=>(dA.mp ((Y.map _).nodup_iff.mpr R) i j (by simpa using hi) (by simpa using W) Z) ((jt _).trans (Eq.trans ?_ (jt _).symm));rw[at_ i hi,at_ j W];exact z.symm
section
variable{X:Cx}{e:c8}{t:TA}{p pos kp bp:Pos}{j:Nat}
def Nv(t:TA):TE:=fun σ H Q=>t σ H fun vs H1=>∃(p:ae) (zs:List (V×List Int)),vs=[.ref p]/\H1 p=Z8 (.lst (zs.map (·.1)))/\(∀z∈zs,AY H1 z)/\(zs.map (·.2)).Nodup/\zs.length<64 /\
 ∀(l:ae) (Z:List (V×List Int)),H1 l=Z7->Z.Perm zs->Z.Pairwise (fun a b=>HT.lexLt b.2 a.2=true)->Q (.ref l) (upd H1 l (.lst (Z.map (·.1))))
theorem xa{s:aw}{H:Hp}{P:aQ}{w:bU}(ok:HOk P w H s.heap):∀{zs:List (V×List Int)} {Z:List aj},dv (zs.map (·.1)) Z->(∀z∈zs,AY H z)->∃fs,KatTups s.heap Z fs/\fs.length=Z.length/\∀f∈fs,∃k o,f=.ref k/\s.heap.get? k=Z8 o/\o.cls=.type "tuple"
 | [],_,r,_=>by
  cases r;exact{[],KatTups.nil,Z9,fun f W=>by cases W}
 |z::zs,_,r,hz=>by
  cases r with
  |cons a b=>
   obtain⟨fs,h1,h2,G⟩:=xa ok b fun z Y=>hz z (aa _ Y);obtain⟨ad,k,ra,B,E,e3⟩:=hz z ax;have a:RelV z.1 _:=a;rw[B]at a;refine Z0 fun Gz D=>?_;subst a;obtain⟨us,J,g,R,t,n1,M⟩:=iD ok E;obtain⟨ws,r2,I,U,O,n2,d2⟩:=iD ok e3;refine D ?_
   cases J with
   |cons a1 b1=>
    subst a1;refine{.ref k::fs,KatTups.cons R t M rfl h1,by rw[cw,cw,h2],fun f W=>?_}
    rcases aE.mp W with y|y
    ·exact⟨k,I,y,U,O⟩
    ·exact G f y
theorem He{M:c8}(hu:X.A.units+5<dY)(hg:Gl X "sorted")(hm:X.mg "sorted"=Z7)(ha:PA X [e] t)(hk:PE X M (tC (.bl true)))(he:jk pos (cO [e] X.env)=[(false,gc e X.env)]:=by rfl)
  (J:(oq pos (jC [{Z8 "reverse",M,kp}] X.env)).all (·.1.isSome)=true:=by rfl) (ee:(oq pos (jC [{Z8 "reverse",M,kp}] X.env)).any (·.1.isNone)=false:=by rfl)
  (ei:(oq pos (jC [{Z8 "reverse",M,kp}] X.env)).filterMap (·.1)=[pQ "reverse"]:=by rfl) :
  PE X (.Call (.Name "sorted" p) [e] [{Z8 "reverse",M,kp}] pos) (Nv t):=by
 intro pins s σ H Q I h;refine iS (sh I hg hm boot_sorted (callWith_kw (thn (ha pos pins s σ H _ I h) fun us s1 ⟨vs,H1,I1,r1,q1⟩=>Z0 fun Gz U=>?_) (by rw[he];rfl) (by rw[he];rfl) J ee));obtain⟨l,zs,rfl,hl,hz,nd,ea,q⟩:=q1;obtain⟨u,rfl,ru⟩:=vals1 r1;subst ru;refine U (kws_cons (thn (hk pins s1 σ H1 (fun v H2=>v=.bl true/\H2=H1) I1 (⟨Z9,Z9⟩)) fun v s2 ef=>kws_nil (Z0 fun Gz U=>?_)));obtain⟨y,H2,O,r2,e1,e2⟩:=ef;subst e1 e2;subst r2;refine U ?_;rw[ei];obtain⟨Z,n,B,ho,dG⟩:=O.lst hl;have Y:=B.length;rw[ai]at Y
 by_cases c:Z.length<2
 ·refine AI {_,ho,Z9,n,Z9} c ?_;obtain⟨ep,R⟩:=sortedAll_at s2.heap Z Z.toArray;have two:2<=aG:=by decide
  have z:=O.laid (o:=.lst (zs.map (·.1))) (t':=s2.toks) (fun _ _=>sortedAll_old) (e9 _) (h':=El s2.heap Z Z.toArray) {by rw[ai];lia,Z,ep,B,R};refine{.ref (s2.heap.objs.size+1),_,z,Z9,q _ zs (O.hok.fresh (e9 _)) (ig _) ?_}
  match zs,Y with
  | [],_=>exact List.Pairwise.nil
  | [_],_=>exact oX _ _
  |_::_::_,Y=>exact absurd c (by rw[<- Y];simp)
 ·have ed:∀{α:Type} (l:List α),qY true l=l.reverse:=fun l=>rfl;refine sorted_N (r:=fun i=>(zs.reverse.getD i pZ).2) {_,ho,Z9,n,Z9} (by lia) (by lia) (fun A' E' h' hA k Q' q'=>?_) (fun A' h' hA k i j C hi hj ne q'=>?_) fun p hp hs=>?_
  ·have D:=(O.kept (t':=s2.toks) k).hok;obtain⟨fs,h1,h2,h3⟩:=xa D B hz;refine kat_kind (T:=.type "tuple") h1 (by lia) (fun v hv=>?_) (by rfl) ?_
   ·obtain⟨kk,o,rfl,g,cl⟩:=h3 v hv;rw[<- cl];exact (Looks.ld g).andThen .now
   ·exact q'
  ·have D:=(O.kept (t':=s2.toks) k).hok;have f:=B.reverse;rw[<- uv]at f;have at_:∀m,m<Z.length->∃(a kk:ae) (us ws:List aj),Z.reverse.getD m Value.none=.ref a/\m7 h' a (.ref kk::us).toArray/\m7 h' kk ws.toArray/\gp ws (zs.reverse.getD m pZ).2/\H2 kk=Z8 (.tup ((zs.reverse.getD m pZ).2.map V.int)):=fun m hm=>by
    have W:m<zs.reverse.length:=by rw[eO];lia
    obtain⟨v,ev,x,hx,rx⟩:=sS f m (by rw[ai];exact W);rw[bM,aI W]at hx;injection hx with hx;refine Z0 fun Gz U=>?_;subst hx;have ez:zs.reverse.getD m pZ=zs.reverse[m]:=by rw[fj,aI W];rfl
    obtain⟨ad,kk,ra,e1,e2,e3⟩:=hz _ (List.mem_reverse.mp (kJ W));refine U ?_;have rx:RelV (zs.reverse[m]).1 v:=rx;rw[e1]at rx;subst rx;obtain⟨us,r1,t1⟩:=iD D e2;obtain⟨ws,r2,t2⟩:=iD D e3
    cases r1 with
    |cons a1 b1=>
     subst a1;exact{ad,kk,_,ws,ev,t1,t2,by rw[ez];exact intsAre_of r2,by rw[ez];exact e3}
   refine Z0 fun Gz U=>?_;obtain⟨a1,k1,dL,dV,g1,t1,u1,i1,m1⟩:=at_ i hi;obtain⟨a2,k2,ec,eb,g2,t2,u2,i2,m2⟩:=at_ j hj;refine U ?_;have eh:(zs.reverse.getD i pZ).2≠(zs.reverse.getD j pZ).2:=by
    have E:=((tF zs).map _).nodup_iff.mpr nd;have h1:i<zs.reverse.length:=by rw[eO];lia
    have h2:j<zs.reverse.length:=by rw[eO];lia
    rw[fj,aI h1,fj,aI h2]
    rcases GX ne with c|c
    ·exact fun z=>dA.mp E i j (by simpa using h1) (by simpa using h2) c ((jt _).trans (z.trans (jt _).symm))
    ·exact fun z=>dA.mp E j i (by simpa using h2) (by simpa using h1) c ((jt _).trans (z.symm.trans (jt _).symm))
   have eq:=wM (A:=A') D (by omega) m1 m2;rw[decide_eq_false eh]at eq;show bQ _ A' (keyLt' (Hc false) (Z.reverse.getD i Value.none) (Z.reverse.getD j Value.none)) C _ _;rw[g1,g2];refine Z0 fun Gz U=>?_;obtain⟨o1,y1,_,n1,d1⟩:=id t1;obtain⟨o2,y2,_,n2,d2⟩:=id t2;refine U (kat_lt y1 d1 y2 d2 (kat_cons (eq _ _ _ _ (kat_no (kat_one _ _ (HT.lt_tupInts u1 u2 i1 i2 (by omega) q'))))))
  ·have G:Pm zs.length p:=by rw[Y];exact hp
   obtain⟨ek,ej⟩:=Hd nd G (Y ▸ hs);have f:=B.reverse;rw[<- uv]at f;have vo:=(w9 f V.non p.toList fun i hi=>by
    have:=(jf.mp G).mem_iff.mp hi;simpa using this).reverse
   have ev:(p.toList.map fun i=>(zs.reverse.map (·.1)).getD i V.non).reverse=((p.toList.map fun i=>zs.reverse.getD i pZ).reverse).map (·.1):=by
    refine Eq.trans ?_ uv.symm;rw[eI]
    congr 1
    refine jB fun i _=>?_;show (zs.reverse.map (·.1)).getD i V.non=(zs.reverse.getD i pZ).1;rw[fj,bM,fj]
    cases zs.reverse[i]?<;>rfl
   rw[ev]at vo;obtain⟨ep,R⟩:=sortedAll_at s2.heap Z (tE (p.toList.map fun i=>Z.reverse.getD i Value.none).reverse);have z:=O.laid (o:=.lst (((p.toList.map fun i=>zs.reverse.getD i pZ).reverse).map (·.1))) (t':=s2.toks) (fun _ _=>sortedAll_old) (e9 _) (h':=El s2.heap Z (tE (p.toList.map fun i=>Z.reverse.getD i Value.none).reverse)) ⟨by
    rw[ai,ek.length_eq];have:64<=aG:=by decide
    omega,_,ep,vo,R⟩
   exact{.ref (s2.heap.objs.size+1),_,z,Z9,q _ _ (O.hok.fresh (e9 _)) ek ej}
end
end L2
namespace My
open PySem L2
abbrev p0(zs:List (V×List Int)):Prop:=zs.Pairwise (fun a b=>HT.lexLt b.2 a.2=true)
theorem p0.put{zs:List (V×List Int)}{x:V×List Int}{i:Nat}(h:p0 zs)(h1:∀(j:Nat) z,j<i->zs[j]?=Z8 z->HT.lexLt x.2 z.2=true)(h2:∀(j:Nat) z,i<=j->zs[j]?=Z8 z->HT.lexLt z.2 x.2=true):p0 (zs.take i++x::zs.drop i):=by
 have a1:∀a∈zs.take i,HT.lexLt x.2 a.2=true:=fun a ha=>by
  obtain⟨j,Z⟩:=cz ha;have lt:=(aC.mp Z).1;rw[cL]at lt;rw[yG (by omega)]at Z;exact h1 j a (by omega) Z
 have a2:∀a∈zs.drop i,HT.lexLt a.2 x.2=true:=fun a ha=>by
  obtain⟨j,Z⟩:=cz ha;rw[Ei]at Z;exact h2 (i+j) a (by omega) Z
 have Y:p0 (zs.take i++zs.drop i):=by simp_all
 obtain⟨U,p2,W⟩:=ic.mp Y;refine ic.mpr {U,gS.mpr {fun b hb=>a2 b hb,p2},fun a ha b hb=>?_}
 rcases aE.mp hb with z|z
 ·rw[z];exact a1 a ha
 ·exact W a ha b z
theorem p0.at_{zs:List (V×List Int)}(h:p0 zs){i j:Nat}(lt:i<j){y z:V×List Int}(hi:zs[i]?=Z8 y)(R:zs[j]?=Z8 z):HT.lexLt z.2 y.2=true:=by
 obtain⟨Y,U⟩:=aC.mp hi;obtain⟨W,Z⟩:=aC.mp R;have:=dA.mp h i j Y W lt;rw[U,Z]at this;exact this
section
variable{P:aQ}{w:bU}{K:af}{mg:Str->Option aj}{base:cG}{f fP:ae}{fd fdP:cm}
inductive Hf(vs:List V)(H:Hp)(Q:VK)(_e:XK):Prop where
 |mk(q b:ae)(zs:List (V×List Int))(n:List Int)(_:vs=[.ref q,.ref b])(_:H q=Z8 (.lst (zs.map (·.1))))(_:(∀z∈zs,AY H z))(_:p0 zs)(_:AY H (.ref b,n))(_:n∉zs.map (·.2))(_:zs.length<=10000000)(_:∀i:Nat,i<=zs.length->p0 (zs.take i++(V.ref b,n)::zs.drop i)->Q (.int i) H):Hf vs H Q _e
def spPlH:Sp:=fun vs H Q Z=>Hf vs H Q Z
theorem Nx(D:Df K mg "place_in" oG ["falling","thing"] f fd)(B:Bl mg):cg P w K mg base CX0 1 f fd ["falling","thing"] spPlH:=by
 refine D.F.ok wY (fun vs H Q E h=>?_) (fun cc A outer s H vs Q E hr h=>?_)
 ·obtain⟨q,b,zs,n,rfl,_⟩:=h;rfl
 obtain⟨q,b,zs,n,rfl,hq,hz,R,hb,nn,hl,k⟩:=h;obtain⟨b0,kb,rb,G,J,Y⟩:=hb;injection G with G;subst G;refine⟨_,ag (pst 2 wY ah)
  (ag (pst 3 wY (cq gX (by rfl) B.len bO (aq (pv 0) ao)))
  (ag (rp bV (aZ oQ (pv 2) (pv 3))
   (ag (pst 4 wY (cI Ir (cI gj (pv 2) (pv 3)) ah))
   (aA (cC (aZ (Nu (kS hr)) (aP cy (pv 0) (pv 4)) (pv 1))
    (aA (pst 2 wY (cI gj (pv 4) ah)))
    (aA (pst 3 wY (pv 4)))))))
  (aA (bD (pv 2))))),?_⟩
 refine⟨_,Z9,q,_,Z9,.inl (SqL.of hq),yT (fun σ H2=>∃(lo hi:Nat) (m:Option V),σ=[Z8 (.ref q),Z8 (.ref b),Z8 (.int lo),Z8 (.int hi),m]/\H2=H/\lo<=hi/\hi<=zs.length /\
   (∀(j:Nat) (z:V×List Int),j<lo->zs[j]?=Z8 z->HT.lexLt n z.2=true)/\∀(j:Nat) (z:V×List Int),hi<=j->zs[j]?=Z8 z->HT.lexLt n z.2=false)
  (fun σ _=>match σ with | [_,_,Z8 (.int lo),Z8 (.int hi),_]=>(hi-lo).toNat|_=>0) ?_ ?_ ?_⟩
 ·refine{0,zs.length,Z7,?_,Z9,bE _,aF _,fun j z h=>absurd h (iP _),fun j z h e=>?_}
  ·rw[ai];rfl
  ·rw[iR (by omega)]at e
   cases e
 ·rintro σ H2 ⟨lo,hi,m,rfl,rfl,h1,h2,h3,h4⟩;refine{_,Z9,_,Z9,_,_,Z9,Z9,_,Z9,gr (fun c=>?_) (fun c=>?_)}
  ·have c:lo<hi:=by
    have z:=of_decide_eq_true c;omega
   refine{_,Z9,_,Z9,_,_,Z9,Z9,_,_,Z9,Z9,{by decide,by decide},?_};have em:((lo:Int)+(hi:Int))/2=(((lo+hi)/2:Nat):Int):=by omega
   refine Z0 fun Gz gz=>?_;obtain⟨z,Z⟩:∃z,zs[(lo+hi)/2]?=Z8 z:={_,aI (by omega)};have mz:=bJ Z;obtain⟨az,kz,rz,ez,t,O⟩:=hz z mz;refine gz ?_;refine{_,Z9,_,Z9,q,_,_,_,Z9,Z9,SqL.of hq,(by rw[em];exact gy (by rw[bM,Z,Option.map_some,ez])),_,Z9,az,b,kz,kb,z.2,n,rz,rb,Z9,Z9,t,J,O,Y,(fun y=>nn (by rw[<- y];exact mf mz)),_,Z9,?_};refine gr (fun g=>?_) (fun g=>?_)
   ·refine{_,Z9,_,_,Z9,Z9,{(lo+hi)/2+1,hi,Z8 (.int (((lo:Int)+(hi:Int))/2)),?_,Z9,by omega,h2,fun j y M e=>?_,h4},?_}
    ·have U:(((lo+hi)/2+1:Nat):Int)=((lo:Int)+(hi:Int))/2+1:=by omega
     rw[U];rfl
    ·by_cases W:j=(lo+hi)/2
     ·rw[W,Z]at e;injection e with e;subst e;exact g
     ·exact HT.lx_trans g (R.at_ (show j<(lo+hi)/2 by omega) e Z)
    ·show ((hi:Int)-(((lo:Int)+(hi:Int))/2+1)).toNat<((hi:Int)-(lo:Int)).toNat;omega
   ·refine{_,Z9,{lo,(lo+hi)/2,Z8 (.int (((lo:Int)+(hi:Int))/2)),?_,Z9,by omega,by omega,h3,fun j y M e=>?_},?_}
    ·rw[<- em];rfl
    ·have g':HT.lexLt n z.2=false:=by
      cases e':HT.lexLt n z.2 with
      |false=>rfl
      |true=>exact absurd e' g
     by_cases W:j=(lo+hi)/2
     ·rw[W,Z]at e;injection e with e;subst e;exact g'
     ·have z1:=R.at_ (show (lo+hi)/2<j by omega) Z e
      cases e':HT.lexLt n y.2 with
      |false=>rfl
      |true=>
       have z2:=HT.lx_trans e' z1;rw[g']at z2
       cases z2
    ·show ((((lo:Int)+(hi:Int))/2)-(lo:Int)).toNat<((hi:Int)-(lo:Int)).toNat;omega
  ·have e:lo=hi:=by
    have z:¬((lo:Int)<(hi:Int)):=fun z=>c (decide_eq_true z);omega
   subst e;refine{_,Z9,k lo h2 (R.put h3 fun j z M e=>?_)};exact HT.lx_of_not (h4 j z M e) fun y=>nn (by
    have y:n=z.2:=y;rw[y];exact mf (bJ e))
 ·rintro σ H2 Q1 Q2 I h;obtain⟨a1,e1,a2,U,i,j,e3,e4,b',e5,h⟩:=h;exact{a1,e1,a2,U,i,j,e3,e4,b',e5,I _ _ h}
inductive Hg(vs:List V)(H:Hp)(Q:VK)(_e:XK):Prop where
 |mk(q b:ae)(zs:List (V×List Int))(n:List Int)(_:vs=[.ref q,.ref b])(_:H q=Z8 (.lst (zs.map (·.1))))(_:(∀z∈zs,AY H z))(_:p0 zs)(_:AY H (.ref b,n))(_:n∉zs.map (·.2))(_:zs.length<=10000000)(_:∀zs':List (V×List Int),zs'.Perm ((V.ref b,n)::zs)->p0 zs'->Q .non (upd H q (.lst (zs'.map (·.1))))):Hg vs H Q _e
def B8:Sp:=fun vs H Q Z=>Hg vs H Q Z
theorem Ny(D:Df K mg "put_in" rM ["falling","thing"] f fd)(Z:Df K mg "place_in" oG ["falling","thing"] fP fdP)(B:Bl mg):cg P w K mg base CX0 2 f fd ["falling","thing"] B8:=by
 refine D.F.ok scPic (fun vs H Q E h=>?_) (fun R A outer s H vs Q E O h=>?_)
 ·obtain⟨q,b,zs,n,rfl,_⟩:=h;rfl
 obtain⟨q,b,zs,n,rfl,hq,hz,U,hb,Y,W,k⟩:=h;refine{_,aA (cV (ia aL PySem.F.slot_list_insert PySem.F.type_list_insert CZ (pv 0) (aq (pcl (Nx Z B) O Z (aq (pv 0) (aq (pv 1) ao))) (aq (pv 1) ao)))),?_};have sl:10000000<aG:=by decide
 refine{_,Z9,.inl {Z9,_,SqL.of hq},_,Z9,_,Z9,q,b,zs,n,Z9,hq,hz,U,hb,Y,W,fun i hi M=>{_,Z9,q,_,i,.ref b,Z9,Z9,hq,by rw[ai];exact hi,by rw[ai];omega,?_}};have z:=k (zs.take i++(V.ref b,n)::zs.drop i) ?_ M
 ·rw[aU,cP,oh,Np]at z;exact z
 ·refine Ie.trans ?_;rw[A0]
end
structure Sta where
 bx:List (Str×Int)
 qu:List (Str×List Int)
 dr:Nat
 se:Int
def Sta.w(s:Sta):Wk:=w0 s.bx s.qu s.dr s.se
structure Rec where
 h:Ev
 wb:List (Str×Int)
 wq:List (Str×List Int)
 out:List Ev
inductive Stp where
 |fin(h:Ev)
 |flt(e:Flt)(h:Ev)
inductive End where
 |empty
 |cut
 |stp(s:Stp)
structure RS where
 sts:List Sta
 pd:List Ev
 re:Option Ev
 sp:Option Stp
def Ev.key(e:Ev):List Int:=[e.t,e.r,e.fr,e.c]
def ve(x:Ev):List Ev->List Ev
 | []=>[x]
 |y::ys=>if HT.lexLt x.key y.key=true then y::ve x ys else x::y::ys
def oO(xs pd:List Ev):List Ev:=xs.foldl (fun p e=>ve e p) pd
abbrev kW(es:List Ev):Prop:=es.Pairwise (fun a b=>HT.lexLt b.key a.key=true)
def j6(r:RS)(left:Int):Option End:=match r.sp with
 |some s=>Z8 (.stp s)
 |none=>if r.pd.isEmpty=true then Z8 .empty else if left<=0 then Z8 .cut else Z7
def gT(Ms:List MD)(r:RS):RS×List Rec:=match r.pd.getLast? with
 |none=>(r,[])
 |some h=>match Ms[h.to.toNat]?,r.sts[h.to.toNat]? with
  |some M,Z8 s=>(match doS h M.ds (iG M.hs h.sg) s.w with
   |.error e=>({r with pd:=r.pd.dropLast,sp:=Z8 (.flt e h)},[])
   |.ok w=>({r.sts.set h.to.toNat ⟨w.bx,w.qu,w.dr,w.se⟩,oO w.out r.pd.dropLast,Z8 h,if w.en=true then Z8 (.fin h) else Z7},[{h,wrB M.bs w,wrQ M.qs w,w.out}]))
  |_,_=>(r,[])
def itR(Ms:List MD)(r:RS):Nat->RS×List Rec
 |0=>(r,[])
 |n+1=>((gT Ms (itR Ms r n).1).1,(itR Ms r n).2++(gT Ms (itR Ms r n).1).2)
theorem nZ(x:Ev):∀ys:List Ev,(ve x ys).Perm (x::ys)
 | []=>ig _
 |y::ys=>by
  unfold ve
  split
  ·exact ((nZ x ys).cons y).trans (List.Perm.swap x y ys)
  ·exact ig _
theorem gF:∀(xs pd:List Ev),(oO xs pd).Perm (xs++pd)
 | [],pd=>ig _
 |x::xs,pd=>by
  show (oO xs (ve x pd)).Perm _;refine (gF xs (ve x pd)).trans ?_;refine ((ig xs).append (nZ x pd)).trans ?_;exact Ie
theorem sT{x:Ev}:∀{ys:List Ev},kW ys->(∀y∈ys,x.key≠y.key)->kW (ve x ys)
 | [],_,_=>oX _ _
 |y::ys,h,n=>by
  obtain⟨h1,h2⟩:=gS.mp h;unfold ve
  by_cases c:HT.lexLt x.key y.key=true
  ·rw[if_pos c];refine gS.mpr {fun z hz=>?_,sT h2 fun z hz=>n z (aa _ hz)}
   rcases aE.mp ((nZ x ys).mem_iff.mp hz) with e|e
   ·rw[e];exact c
   ·exact h1 z e
  ·rw[if_neg c];have lt:=HT.lx_of_not (by
    cases e:HT.lexLt x.key y.key with
    |false=>rfl
    |true=>exact absurd e c) (n y ax)
   refine gS.mpr {fun z hz=>?_,h}
   rcases aE.mp hz with e|e
   ·rw[e];exact lt
   ·exact HT.lx_trans (h1 z e) lt
theorem xb:∀{xs ys:List Ev},kW xs->kW ys->xs.Perm ys->xs=ys
 | [],ys,_,_,p=>(List.nil_perm.mp p).symm ▸ rfl
 |x::xs,[],_,_,p=>absurd p (by intro z;have:=z.length_eq;simp at this)
 |x::xs,y::ys,h,k,p=>by
  obtain⟨h1,h2⟩:=gS.mp h;obtain⟨k1,k2⟩:=gS.mp k;have e:x=y:=by
   rcases aE.mp (p.mem_iff.mp (ax)) with z|z
   ·exact z
   ·rcases aE.mp (p.mem_iff.mpr (ax)) with q|q
    ·exact q.symm
    ·have a:=k1 x z;have b:=HT.lx_asym (h1 y q);rw[a]at b
     cases b
  subst e;rw[xb h2 k2 ((Lk x).mp p)]
structure Ll(m:Int)(h:Ev)(se se':Int)(e:Ev):Prop where
 fr:e.fr=h.to
 c0:se<=e.c
 c1:e.c<se'
 t0:h.t<e.t
 t1:e.t<=10^12
 to0:0<=e.to
 to1:e.to<m
structure News(m:Int)(h:Ev)(n:Nat)(w w':Wk):Prop where
 se:w.se<=w'.se
 ex:∃new,w'.out=w.out++new/\new.length<=n/\(∀e∈new,Ll m h w.se w'.se e)/\new.Pairwise (fun a b=>a.c<b.c)
theorem News.none{m:Int}{h:Ev}{n:Nat}{w Z:Wk}(Y:Z.se=w.se)(W:Z.out=w.out):News m h n w Z:=
 {by rw[Y];exact Int.le_refl _,[],by rw[W,cB],bE _,(fun e V=>by cases V),List.Pairwise.nil}
theorem News.trans{m:Int}{h:Ev}{I M:Nat}{w J V:Wk}(a:News m h I w J)(b:News m h M J V):News m h (I+M) w V:=by
 obtain⟨g,x1,t,l1,U,B⟩:=a;obtain⟨s2,D,E,l2,R,p2⟩:=b;refine{Int.le_trans g s2,x1++D,by rw[E,t,iX],by rw[aB];lia,fun e he=>?_,ic.mpr {B,p2,fun a ha b hb=>?_}}
 ·rcases bY.mp he with z|z
  ·obtain⟨f,O,G,Z,t1,W,Y⟩:=U e z;exact{f,O,by lia,Z,t1,W,Y}
  ·obtain⟨f,O,G,Z,t1,W,Y⟩:=R e z;exact{f,by lia,G,Z,t1,W,Y}
 ·have:=(U a ha).c1;have:=(R b hb).c0
  lia
theorem News.le{m:Int}{h:Ev}{Z Y:Nat}{w W:Wk}(a:News m h Z w W)(l:Z<=Y):News m h Y w W:=by
 obtain⟨V,x1,O,M,U,R⟩:=a;exact{V,x1,O,by lia,U,R}
theorem News.from{m:Int}{h:Ev}{n:Nat}{w0 w W:Wk}(a:News m h n w W)(O:w.se=w0.se)(V:w.out=w0.out):News m h n w0 W:=by
 obtain⟨Z,x1,f1,R,Y,U⟩:=a;rw[O]at Z Y;exact{Z,x1,by rw[f1,V],R,Y,U}
theorem qZ{h:Ev}{w Z:Wk}{f:Fm}{k:Wk->Int->Except Flt Wk}(e:rck h w f k=.ok Z):∃n,k {w with rk:=w.rk++[f]} n=.ok Z:=by
 unfold rck at e
 split at e
 ·exact{_,e}
 ·cases e
 ·cases e
mutual
theorem Hh{m:Int}{h:Ev}{ds:List Int}:∀(D:Dd) (w Z:Wk),D.toOk m->doD h ds D w=.ok Z->News m h D.size w Z
 |.put x f,w,Z,_,e=>by
  simp only[doD]at e;obtain⟨n,e⟩:=qZ e
  cases e;exact News.none rfl rfl
 |.push q f,w,Z,_,e=>by
  simp only[doD]at e;obtain⟨n,e⟩:=qZ e;try dsimp only at e
  split at e
  ·cases e
  ·cases e;exact News.none rfl rfl
 |.pull q x o,w,Z,to,e=>by
  simp only[doD]at e;simp only[Dd.toOk]at to
  split at e
  ·exact ((oa o _ _ to e).le (e9 _)).from rfl rfl
  ·cases e;exact News.none rfl rfl
 |.draw x f,w,Z,_,e=>by
  simp only[doD]at e;obtain⟨n,e⟩:=qZ e;try dsimp only at e
  split at e
  ·cases e
  ·split at e
   ·cases e
   ·cases e;exact News.none rfl rfl
 |.send to V sp rk a b,w,Z,Y,e=>by
  simp only[doD]at e;simp only[Dd.toOk]at Y;obtain⟨n,e⟩:=qZ e;try dsimp only at e
  split at e
  ·cases e
  ·rename_i c
   obtain⟨x,e⟩:=qZ e;obtain⟨y,e⟩:=qZ e;try dsimp only at e
   split at e
   ·cases e
   ·rename_i c2
    cases e;refine{?_,[_],Z9,aF _,fun q hq=>?_,oX _ _}
    ·show w.se<=w.se+1;omega
    ·rw[aD.mp hq];exact{Z9,Int.le_refl _,(by show w.se<w.se+1;omega),(by show h.t<h.t+n;omega),(by show h.t+n<=10^12;omega),Y.1,Y.2}
 |.ife f t W,w,Z,to,e=>by
  simp only[doD]at e;simp only[Dd.toOk]at to;obtain⟨n,e⟩:=qZ e;try dsimp only at e
  simp only[Dd.size]
  split at e
  ·exact ((oa W _ _ to.2 e).le (by omega)).from rfl rfl
  ·exact ((oa t _ _ to.1 e).le (by omega)).from rfl rfl
 |.fin,w,Z,_,e=>by
  simp only[doD]at e
  cases e;exact News.none rfl rfl
theorem oa{m:Int}{h:Ev}{ds:List Int}:∀(D:Ds) (w Z:Wk),D.toOk m->doS h ds D w=.ok Z->News m h D.size w Z
 |.nil,w,Z,_,e=>by
  simp only[doS]at e
  cases e;exact News.none rfl rfl
 |.cons d r,w,Z,to,e=>by
  simp only[doS]at e;simp only[Ds.toOk]at to;simp only[Ds.size]
  split at e
  ·rename_i w1 e1
   exact (Hh d _ _ to.1 e1).trans (oa r _ _ to.2 e)
  ·cases e
end
structure Dt(m:Nat)(e:Ev):Prop where
 to0:0<=e.to
 to1:e.to<m
 wt:Wo e.t
 wa:Wo e.a
 wb:Wo e.b
structure ROk(m:Nat)(r:RS):Prop where
 len:r.sts.length=m
 fall:kW r.pd
 ev:∀e∈r.pd,Dt m e
 cn:∀e∈r.pd,e.fr=-1\/∃(i:Nat) (s:Sta),e.fr=(i:Int)/\r.sts[i]?=Z8 s/\e.c<s.se
theorem qq{pd:List Ev}{h:Ev}(f:kW (pd++[h])):kW pd/\∀e∈pd,HT.lexLt h.key e.key=true:=by
 obtain⟨f1,_,Z⟩:=ic.mp f;exact{f1,fun e Y=>Z e Y h (aD.mpr rfl)}
theorem vg{pd:List Ev}{h:Ev}(e:pd.getLast?=Z8 h):pd=pd.dropLast++[h]:=by
 obtain⟨ys,rfl⟩:=List.getLast?_eq_some_iff.mp e;rw[qL]
theorem vh{a b:Ev}(h:a.fr≠b.fr\/a.c≠b.c):a.key≠b.key:=fun z=>by
 unfold Ev.key at z;simp only[List.cons.injEq]at z
 rcases h with h|h
 ·exact h z.2.2.1
 ·exact h z.2.2.2.1
theorem qv:∀{xs pd:List Ev},kW pd->(∀x∈xs,∀y∈pd,x.key≠y.key)->xs.Pairwise (fun a b=>a.key≠b.key)->kW (oO xs pd)
 | [],_,h,_,_=>h
 |x::xs,pd,h,n,p=>by
  obtain⟨Z,p2⟩:=gS.mp p;refine qv (xs:=xs) (sT h fun y hy=>n x ax y hy) (fun z hz y hy=>?_) p2
  rcases aE.mp ((nZ x pd).mem_iff.mp hy) with e|e
  ·rw[e];exact fun q=>Z z hz q.symm
  ·exact n z (aa _ hz) y e
structure Did(Ms:List MD)(r:RS)(h:Ev)(M:MD)(s:Sta):Prop where
 pd:r.pd=r.pd.dropLast++[h]
 hM:Ms[h.to.toNat]?=Z8 M
 hs:r.sts[h.to.toNat]?=Z8 s
theorem rW{Ms:List MD}{r:RS}{h:Ev}{M:MD}{s:Sta}(d:Did Ms r h M s){e:Flt}(q:doS h M.ds (iG M.hs h.sg) s.w=.error e):gT Ms r=({r with pd:=r.pd.dropLast,sp:=Z8 (.flt e h)},[]):=by
 have l:r.pd.getLast?=Z8 h:=by
  rw[d.pd,B9]
 unfold gT;rw[l];dsimp only;rw[d.hM,d.hs];dsimp only;rw[q]
theorem uw{Ms:List MD}{r:RS}{h:Ev}{M:MD}{s:Sta}(d:Did Ms r h M s){w:Wk}(q:doS h M.ds (iG M.hs h.sg) s.w=.ok w):gT Ms r=({r.sts.set h.to.toNat ⟨w.bx,w.qu,w.dr,w.se⟩,oO w.out r.pd.dropLast,Z8 h,if w.en=true then Z8 (.fin h) else Z7},[{h,wrB M.bs w,wrQ M.qs w,w.out}]):=by
 have l:r.pd.getLast?=Z8 h:=by
  rw[d.pd,B9]
 unfold gT;rw[l];dsimp only;rw[d.hM,d.hs];dsimp only;rw[q]
theorem zJ{m:Nat}{Ms:List MD}{r:RS}{h:Ev}{M:MD}{s:Sta}(k:ROk m r)(d:Did Ms r h M s){n:Nat}{w:Wk}(N:News m h n s.w w):(∀x∈w.out,∀y∈r.pd.dropLast,x.key≠y.key)/\w.out.Pairwise (fun a b=>a.key≠b.key)/\(∀x∈w.out,Ll m h s.se w.se x):=by
 obtain⟨U,new,e,J,Y,hp⟩:=N;rw[e];have Z:h∈r.pd:=by
  rw[d.pd];exact aV _ (aD.mpr rfl)
 have I:=(k.ev h Z).to0;refine{fun x hx y hy=>?_,hp.imp fun z=>vh (.inr (by lia)),Y};have o:=Y x hx
 rcases k.cn y (jj _ hy) with z|⟨i,s',G,V,R⟩
 ·refine vh (.inl ?_);rw[o.fr,z]
  lia
 ·by_cases c:y.fr=h.to
  ·refine vh (.inr ?_);have W:h.to.toNat=i:=by lia
   have:=d.hs;rw[W,V]at this
   cases this;have O:s.se<=x.c:=o.c0
   lia
  ·refine vh (.inl ?_);rw[o.fr];exact fun q=>c q.symm
theorem zK{m:Nat}{Ms:List MD}{r:RS}{h:Ev}{M:MD}{s:Sta}(k:ROk m r)(d:Did Ms r h M s){n:Nat}{w:Wk}(q:doS h M.ds (iG M.hs h.sg) s.w=.ok w)(N:News m h n s.w w)(U:∀e∈w.out,Wo e.a/\Wo e.b):ROk m (gT Ms r).1:=by
 rw[uw d q];obtain⟨J,E,V⟩:=zJ k d N;have f:=k.fall;rw[d.pd]at f;obtain⟨f1,g⟩:=qq f;refine{by rw[IE];exact k.len,qv f1 J E,fun e Y=>?_,fun e Y=>?_}
 ·rcases bY.mp ((gF _ _).mem_iff.mp Y) with z|z
  ·obtain⟨a,b,c,d',B,I,g'⟩:=V e z;have Z:h∈r.pd:=by
    rw[d.pd];exact aV _ (aD.mpr rfl)
   have G:=(k.ev h Z).wt;refine{I,g',?_,(U e z).1,(U e z).2};unfold Wo at G |-
   lia
  ·exact k.ev e (jj _ z)
 ·have lt:=(aC.mp d.hs).1;have Z:h∈r.pd:=by
   rw[d.pd];exact aV _ (aD.mpr rfl)
  have t:=(k.ev h Z).to0
  rcases bY.mp ((gF _ _).mem_iff.mp Y) with z|z
  ·obtain⟨a,b,c,_⟩:=V e z;refine .inr {h.to.toNat,_,by lia,eG lt,c}
  ·rcases k.cn e (jj _ z) with y|⟨i,s',O,R,W⟩
   ·exact .inl y
   ·by_cases c:h.to.toNat=i
    ·subst c;rw[<- (dy (d.hs.symm.trans R))]at W;refine .inr {_,_,O,eG lt,?_};have D:s.se<=w.se:=N.se;show e.c<w.se
     lia
    ·exact .inr {i,s',O,by rw[hW c];exact R,W}
theorem xc{m:Nat}{Ms:List MD}{r:RS}{h:Ev}{M:MD}{s:Sta}(k:ROk m r)(d:Did Ms r h M s){e:Flt}(q:doS h M.ds (iG M.hs h.sg) s.w=.error e):ROk m (gT Ms r).1:=by
 rw[rW d q];have f:=k.fall;rw[d.pd]at f;exact{k.len,(qq f).1,fun e Z=>k.ev e (jj _ Z),fun e Z=>k.cn e (jj _ Z)}
structure Ex where
 l:List ae
 b:Hp
def Ex.In(ex:Ex)(a:ae):Prop:=a∈ex.l\/∃o,ex.b a=Z8 o/\∀xs,o≠.tup xs
instance:Membership Addr Ex:={fun ex a=>ex.In a}
def Ex.add(ex:Ex)(a:ae):Ex:={a::ex.l,ex.b}
theorem Ex.here{ex:Ex}{a:ae}:a∈ex.add a:=.inl ax
theorem Ex.more{ex:Ex}{a b:ae}(h:b∈ex):b∈ex.add a:=h.elim (fun z=>.inl (aa _ z)) .inr
theorem Ex.or{ex:Ex}{a b:ae}(h:b∈ex.add a):b=a\/b∈ex:=h.elim (fun z=>(aE.mp z).elim .inl fun y=>.inr (.inl y)) fun z=>.inr (.inr z)
open Classical in
noncomputable def Hid(ex:Ex)(G:Hp):Hp:=fun a=>if a∈ex then Z7 else G a
section
variable{ex:Ex}{G G':Hp}{a:ae}{o:HO}
theorem j7(e:Hid ex G a=Z8 o):a∉ex:=fun m=>by
 unfold Hid at e;rw[if_pos m]at e
 cases e
theorem fJ(n:a∉ex):Hid ex G a=G a:=if_neg n
theorem eA:bN (Hid ex G) G:=fun b o e=>by
 rw[fJ (j7 e)]at e;exact e
theorem iC(m:a∈ex):Hid ex (upd G a o)=Hid ex G:=by
 funext b
 unfold Hid
 by_cases c:b∈ex
 ·simp_all
 ·rw[if_neg c,if_neg c,aW fun z=>c (by rw[z];exact m)]
theorem ir(s:bN G G'):bN (Hid ex G) (Hid ex G'):=fun b o e=>by
 rw[fJ (j7 e)];exact s _ _ (eA _ _ e)
theorem Nz(s:∀b o,G b=Z8 o->b∉ex->G' b=Z8 o):bN (Hid ex G) (Hid ex G'):=fun b o e=>by
 rw[fJ (j7 e)];exact s _ _ (eA _ _ e) (j7 e)
theorem gP{xs:List V}(Z:∀a∈ex,∃o,G a=Z8 o/\∀xs,o≠.tup xs)(h:G a=Z8 (.tup xs)):Hid ex G a=Z8 (.tup xs):=by
 rw[fJ fun m=>by
  obtain⟨o,e,n⟩:=Z a m;rw[e]at h
  cases h;exact n _ rfl]
 exact h
theorem p4(n:G a=Z7):Hid (ex.add a) (upd G a o)=Hid ex G:=by
 funext b
 unfold Hid
 by_cases c:b=a
 ·rw[c,if_pos Ex.here]
  by_cases d:a∈ex
  ·rw[if_pos d]
  ·rw[if_neg d,n]
 ·by_cases d:b∈ex
  ·rw[if_pos d,if_pos (Ex.more d)]
  ·rw[if_neg d,if_neg (fun z=>(Ex.or z).elim c d),aW c]
theorem zL:bN (Hid (ex.add a) G) (Hid ex G):=fun b o e=>by
 rw[fJ fun m=>j7 e (Ex.more m)];exact eA _ _ e
end
abbrev vk(h:Ev):HO:=.tup [.int h.t,.int h.r,.int h.fr,.int h.c]
def RcIn(F:Hp)(v:V)(q:Rec):Prop:=∃(W k U od:ae) (Z Y vs:List V) (R:List (Str×ae)),v=.ref W/\F W=Z8 (.tup [.ref k,.int q.h.to,.str q.h.sg,.int q.h.a,.int q.h.b,.ref U,.ref od])/\F k=Z8 (vk q.h) /\
 F U=Z8 (.lst (Z++Y))/\aO (vQ F) Z q.wb/\aO (vR F) Y R/\eN F R q.wq/\F od=Z8 (.lst vs)/\aO (fH F) vs q.out
theorem RcIn.same{F W:Hp}(s:bN F W){v:V}{q:Rec}(h:RcIn F v q):RcIn W v q:=by
 obtain⟨O,k,G,od,Z,Y,vs,E,e,h1,h2,R,D,I,M,U,J⟩:=h;exact{O,k,G,od,Z,Y,vs,E,e,s _ _ h1,s _ _ h2,s _ _ R,Paired.mono (fun _ _ z=>z.keep fun a xs e=>s _ _ e) D,Paired.mono (fun _ _ z=>z.keep fun a xs e=>s _ _ e) I,M.same s,s _ _ U,Paired.mono (fun _ _ z=>z.same s) J}
def kX:Flt->Str
 |.nought=>"nought"
 |.great=>"great"
 |.full=>"full"
 |.dry=>"dry"
 |.span=>"span"
 |.late=>"late"
def JO(F:Hp)(v:V):Option Ev->Prop
 |none=>v=.non
 |some h=>∃k,v=.ref k/\F k=Z8 (vk h)
def rX(F:Hp)(v:V):Stp->Prop
 |.fin h=>∃t k,v=.ref t/\F t=Z8 (.tup [.str "end",.ref k])/\F k=Z8 (vk h)
 |.flt e h=>∃t k,v=.ref t/\F t=Z8 (.tup [.str "fault",.str (kX e),.ref k])/\F k=Z8 (vk h)
def JP(F:Hp)(v:V):Option Stp->Prop
 |none=>v=.non
 |some s=>rX F v s
def q5(F:Hp)(v:V):End->Prop
 |.empty=>∃t,v=.ref t/\F t=Z8 (.tup [.str "empty"])
 |.cut=>∃t,v=.ref t/\F t=Z8 (.tup [.str "cut"])
 |.stp s=>rX F v s
theorem JO.same{F Z:Hp}(s:bN F Z){v:V}:∀{q:Option Ev},JO F v q->JO Z v q
 |none,h=>h
 |some _,⟨k,e,h⟩=>{k,e,s _ _ h}
theorem rX.same{F Z:Hp}(s:bN F Z){v:V}:∀{q:Stp},rX F v q->rX Z v q
 |.fin _,⟨t,k,e,h1,h2⟩=>{t,k,e,s _ _ h1,s _ _ h2}
 |.flt _ _,⟨t,k,e,h1,h2⟩=>{t,k,e,s _ _ h1,s _ _ h2}
theorem JP.same{F Z:Hp}(s:bN F Z){v:V}:∀{q:Option Stp},JP F v q->JP Z v q
 |none,h=>h
 |some _,h=>rX.same s h
theorem q5.same{F Z:Hp}(s:bN F Z){v:V}:∀{q:End},q5 F v q->q5 Z v q
 |.empty,⟨t,e,h⟩=>{t,e,s _ _ h}
 |.cut,⟨t,e,h⟩=>{t,e,s _ _ h}
 |.stp _,h=>rX.same s h
def j8(m s p r e:V):List (Str×V):=[("model",m),("states",s),("pending",p),("reached",r),("stopped",e)]
structure CoT(K:af)(mg:Str->Option aj)(CC:ae):Prop where
 cl:Cls K CC
 nM:ff K CC "model"
 nS:ff K CC "states"
 nP:ff K CC "pending"
 nR:ff K CC "reached"
 nE:ff K CC "stopped"
 m:mg "Course"=Z8 (.ref CC)
theorem co_m(m s p r e:V):(j8 m s p r e).lookup ("model":Str)=Z8 m:=rfl
theorem NA(m s p r e:V):(j8 m s p r e).lookup ("states":Str)=Z8 s:=rfl
theorem NB(m s p r e:V):(j8 m s p r e).lookup ("pending":Str)=Z8 p:=rfl
theorem NC(m s p r e:V):(j8 m s p r e).lookup ("stopped":Str)=Z8 e:=rfl
theorem A1(m s p r e:V):(j8 m s p r e).length<1000:=by show 5<1000;decide
theorem JQ(m s p r e Z:V):dS "reached" Z (j8 m s p r e)=j8 m s p Z e:=rfl
theorem Ca(m s p r e Z:V):dS "stopped" Z (j8 m s p r e)=j8 m s p r Z:=rfl
theorem Lm(m s p r e:V){x:Str}(hx:(["model","states","pending","reached","stopped"]:List Str).contains x=false):(j8 m s p r e).lookup x=Z7:=by
 have z:∀k∈(["model","states","pending","reached","stopped"]:List Str),(x==k)=false:=fun k hk=>beq_eq_false_iff_ne.mpr fun e=>by
  rw[e,qj.mpr hk]at hx
  cases hx
 unfold j8;rw[kE (z _ (by simp)),kE (z _ (by simp)),kE (z _ (by simp)),kE (z _ (by simp)),kE (z _ (by simp))];rfl
def vU(CM:ae)(Ms:List MD)(H:Hp)(m:ae):Prop:=∃(dx Z:ae) (fs:List (Str×V)),H m=Z8 (.ins CM dx fs)/\fs.lookup ("machines":Str)=Z8 (.ref Z)/\GK (Ms.length:Int) H Z Ms
theorem vU.same{CM:ae}{Ms:List MD}{H H':Hp}(s:bN H H'){m:ae}(h:vU CM Ms H m):vU CM Ms H' m:=by
 obtain⟨dx,Y,fs,h1,h2,Z⟩:=h;exact{dx,Y,fs,s _ _ h1,h2,Z.same s}
abbrev StA(CS:ae)(F:Hp):ae->Sta->Prop:=fun a s=>lZ CS F a s.bx s.qu s.dr s.se
structure mw(CC CS:ae)(Ms:List MD)(Hb:Hp)(ex:Ex)(G:Hp)(co m sl pl:ae)(r:RS):Prop where
 ok:ROk Ms.length r
 sm:∀b o,Hb b=Z8 o->b≠co/\b≠sl/\b≠pl/\G b=Z8 o
 i1:co∈ex
 i2:sl∈ex
 i3:pl∈ex
 n1:co≠sl
 n2:co≠pl
 n3:sl≠pl
 hc:∃dx rv sv,G co=Z8 (.ins CC dx (j8 (.ref m) (.ref sl) (.ref pl) rv sv))/\JO (Hid ex G) rv r.re/\JP (Hid ex G) sv r.sp
 hs:∃ss:List ae,G sl=Z8 (.lst (ss.map V.ref))/\aO (StA CS (Hid ex G)) ss r.sts
 hp:∃ps,G pl=Z8 (.lst ps)/\aO (fH (Hid ex G)) ps r.pd
 wk:∀(i:Nat) (M:MD) (s:Sta),Ms[i]?=Z8 M->r.sts[i]?=Z8 s->m5 M.bs M.qs s.w
 nt:∀a∈ex,∃o,G a=Z8 o/\∀xs,o≠.tup xs
theorem lZ.same'{CS:ae}{H H':Hp}(s:bN H H'){st:ae}{bx:List (Str×Int)}{qu:List (Str×List Int)}{dr:Nat}{se:Int}(h:lZ CS H st bx qu dr se):lZ CS H' st bx qu dr se:=by
 obtain⟨dx,U,Y,W,h1,h2,Z,V⟩:=h;exact{dx,U,Y,W,s _ _ h1,s _ _ h2,s _ _ Z,V.same s}
section
variable{CC CS:ae}{Ms:List MD}{Hb G G':Hp}{ex:Ex}{co m sl pl:ae}{r:RS}
theorem mw.same(c:mw CC CS Ms Hb ex G co m sl pl r)(s:bN G G'):mw CC CS Ms Hb ex G' co m sl pl r:=by
 obtain⟨dx,M,R,h1,h2,W⟩:=c.hc;obtain⟨Z,O,U⟩:=c.hs;obtain⟨ps,V,Y⟩:=c.hp;have f:=ir (ex:=ex) s;exact⟨c.ok,fun b o e=>(c.sm b o e).imp id (xf id (xf id (s _ _))),c.i1,c.i2,c.i3,c.n1,c.n2,c.n3,{dx,M,R,s _ _ h1,h2.same f,W.same f},{Z,s _ _ O,Paired.mono (fun _ _ z=>lZ.same' f z) U},{ps,s _ _ V,Paired.mono (fun _ _ z=>z.same f) Y},c.wk,fun a ha=>by
  obtain⟨o,e,n⟩:=c.nt a ha;exact{o,s _ _ e,n}⟩
theorem mw.more(c:mw CC CS Ms Hb ex G co m sl pl r){a:ae}{o:HO}(n:G a=Z7)(I:∀xs,o≠.tup xs):mw CC CS Ms Hb (ex.add a) (upd G a o) co m sl pl r:=by
 refine Z0 fun D R=>?_;obtain⟨dx,E,J,h1,h2,O⟩:=c.hc;obtain⟨V,Y,M⟩:=c.hs;obtain⟨ps,Z,U⟩:=c.hp;refine R ({c.ok,?_,Ex.more c.i1,Ex.more c.i2,Ex.more c.i3,c.n1,c.n2,c.n3,{dx,E,J,aN h1 (ay h1 n),?_,?_},{V,aN Y (ay Y n),?_},{ps,aN Z (ay Z n),?_},c.wk,fun b hb=>?_})
 ·exact fun b o e=>(c.sm b o e).imp id (xf id (xf id fun z=>aN z (ay z n)))
 ·rw[p4 n];exact h2
 ·rw[p4 n];exact O
 ·rw[p4 n];exact M
 ·rw[p4 n];exact U
 ·rcases Ex.or hb with z|z
  ·rw[z];exact⟨o,ak,I⟩
  ·obtain⟨o',e,W⟩:=c.nt b z;exact{o',aN e (ay e n),W}
theorem mw.less{a:ae}(c:mw CC CS Ms Hb (ex.add a) G co m sl pl r)(a1:co≠a)(a2:sl≠a)(a3:pl≠a):mw CC CS Ms Hb ex G co m sl pl r:=by
 obtain⟨dx,M,R,h1,h2,W⟩:=c.hc;obtain⟨Z,O,U⟩:=c.hs;obtain⟨ps,V,Y⟩:=c.hp;have f:bN (Hid (ex.add a) G) (Hid ex G):=zL;have out:∀{b:ae},b∈ex.add a->b≠a->b∈ex:=fun m n=>(Ex.or m).elim (fun z=>absurd z n) id;exact{c.ok,c.sm,out c.i1 a1,out c.i2 a2,out c.i3 a3,c.n1,c.n2,c.n3,{dx,M,R,h1,h2.same f,W.same f},{Z,O,Paired.mono (fun _ _ z=>lZ.same' f z) U},{ps,V,Paired.mono (fun _ _ z=>z.same f) Y},c.wk,fun b hb=>c.nt b (Ex.more hb)}
theorem mw.upd(c:mw CC CS Ms Hb ex G co m sl pl r){a:ae}{o:HO}(ha:a∈ex)(ab:Hb a=Z7)(a1:co≠a)(a2:sl≠a)(a3:pl≠a)(J:∀xs,o≠.tup xs):mw CC CS Ms Hb ex (L2.upd G a o) co m sl pl r:=by
 obtain⟨dx,I,O,h1,h2,V⟩:=c.hc;obtain⟨Y,M,R⟩:=c.hs;obtain⟨ps,U,W⟩:=c.hp;refine{c.ok,?_,c.i1,c.i2,c.i3,c.n1,c.n2,c.n3,{dx,I,O,aN h1 a1,?_,?_},{Y,aN M a2,?_},{ps,aN U a3,?_},c.wk,fun b hb=>?_}
 ·exact fun b o e=>(c.sm b o e).imp id (xf id (xf id fun z=>aN z (ay e ab)))
 ·rw[iC ha];exact h2
 ·rw[iC ha];exact V
 ·rw[iC ha];exact R
 ·rw[iC ha];exact W
 ·by_cases z:b=a
  ·rw[z];exact⟨o,ak,J⟩
  ·obtain⟨o',e,Z⟩:=c.nt b hb;exact{o',aN e z,Z}
end
theorem Paired.snoc_inv{W Y:Type}{R:W->Y->Prop}:∀{ys:List Y} {xs:List W} {y:Y},aO R xs (ys++[y])->∃Z x,xs=Z++[x]/\aO R Z ys/\R x y
 | [],xs,y,p=>by
  cases p with
  |cons a b=>
   cases b;exact{[],_,Z9,.nil,a}
 |z::ys,xs,y,p=>by
  cases p with
  |cons a b=>
   obtain⟨Z,x,e,V,r⟩:=Paired.snoc_inv b;exact{_::Z,x,by rw[e];rfl,.cons a V,r}
theorem gi{Y Z:Type}{R:Y->Z->Prop}:∀{xs:List Y} {ys:List Z} {i:Nat} {y:Z},aO R xs ys->ys[i]?=Z8 y->∃x,xs[i]?=Z8 x/\R x y
 |_,_,i,y,.nil,h=>by simp at h
 |_,_,0,y,.cons a b,h=>by
  simp at h;subst h;exact{_,Z9,a}
 |_,_,i+1,y,.cons a b,h=>by
  obtain⟨x,h1,h2⟩:=gi b (by simpa using h);exact{x,by simpa using h1,h2}
theorem Paired.set{Z Y:Type}{R:Z->Y->Prop}:∀{xs:List Z} {ys:List Y},aO R xs ys->∀(i:Nat) {x:Z} {y:Y},R x y->aO R (xs.set i x) (ys.set i y)
 |_,_,.nil,i,x,y,h=>.nil
 |_,_,.cons a b,0,x,y,h=>.cons h b
 |_,_,.cons a b,i+1,x,y,h=>.cons a (Paired.set b i h)
theorem Du{R M:Type}{f:R->M}{xs ys:List M}(p:xs.Perm ys):∀Z:List R,Z.map f=ys->∃Y:List R,Y.Perm Z/\Y.map f=xs:=by
 induction p with
 |nil=>
  intro Z e;have:Z=[]:=Dv.mp e;subst this;exact{[],ig _,Z9}
 |cons x _ E=>
  intro Z e
  cases Z with
  |nil=>cases e
  |cons u Z=>
   obtain⟨O,V⟩:=vm e;obtain⟨Y,I,J⟩:=E Z V;exact{u::Y,I.cons u,by rw[cP,J,O]}
 |swap x y l=>
  intro Z e
  match Z,e with
  |a::b::r,e=>
   obtain⟨O,e⟩:=vm e;obtain⟨V,e3⟩:=vm e;exact{b::a::r,List.Perm.swap _ _ _,by rw[cP,cP,O,V,e3]}
 |trans _ _ W U=>
  intro Z e;obtain⟨u1,D,G⟩:=U Z e;obtain⟨u2,p2,B⟩:=W u1 G;exact{u2,p2.trans D,B}
theorem tG{Y W:Type}{R:Y->W->Prop}:∀{Z:List (Y×W)},(∀u∈Z,R u.1 u.2)->aO R (Z.map (·.1)) (Z.map (·.2))
 | [],_=>.nil
 |u::Z,h=>.cons (h u ax) (tG fun v V=>h v (aa _ V))
theorem vn{Z Y:Type}{R:Z->Y->Prop}{xs:List Z}{ys:List Y}(p:aO R xs ys):(xs.zip ys).map (·.1)=xs/\(xs.zip ys).map (·.2)=ys/\∀u∈xs.zip ys,R u.1 u.2:=by
 induction p with
 |nil=>exact{Z9,Z9,fun u hu=>by cases hu}
 |cons a _ V=>
  obtain⟨h1,h2,W⟩:=V;refine{by rw[iH,cP,h1],by rw[iH,cP,h2],fun u hu=>?_}
  rcases aE.mp hu with z|z
  ·rw[z];exact a
  ·exact W u z
theorem A2{G:Hp}{v:V}{e:Ev}(h:fH G v e):AY G (v,e.key):=by
 obtain⟨t,k,Z,h1,h2⟩:=h;exact{t,k,_,Z,h1,h2}
theorem xg{F:Hp}{Z:List (V×Ev)}{es:List Ev}{zs:List (V×List Int)}(hu:∀u∈Z,fH F u.1 u.2)(p:zs.Perm (Z.map fun u=>(u.1,u.2.key)))(f:p0 zs)(q:(Z.map (·.2)).Perm es)(R:kW es):∃ps,zs.map (·.1)=ps/\aO (fH F) ps es:=by
 obtain⟨W,U,O⟩:=Du p Z rfl;have h:=tG fun u Y=>hu u (U.mem_iff.mp Y);rw[xb (by grind) R ((U.map _).trans q)]at h;refine{W.map (·.1),?_,h};rw[<- O,eI];rfl
theorem JR{F G:Hp}(s:bN F G){pl:ae}{v:V}{ps:List V}{pd:List Ev}{e:Ev}{Q:VK}{E:XK}(hp:G pl=Z8 (.lst ps))(g:aO (fH F) ps pd)(fe:kW pd)(O:fH F v e)(I:∀y∈pd,e.key≠y.key)(len:pd.length<=10000000)
  (k:∀Z,aO (fH F) Z (ve e pd)->Q .non (upd G pl (.lst Z))):B8 [.ref pl,v] G Q E:=by
 obtain⟨z1,J,M⟩:=vn g;obtain⟨t,kk,rfl,h1,h2⟩:=id O;refine{pl,t,(ps.zip pd).map fun u=>(u.1,u.2.key),e.key,Z9,?_,fun z hz=>?_,?_,(A2 O).imp fun a ⟨k,W,R,U,e3⟩=>{k,W,R,s _ _ U,s _ _ e3},?_,?_,fun bg p f=>?_}
 ·rw[eI];have:((fun x:V×List Int=>x.1) ∘ fun u:V×Ev=>(u.1,u.2.key))=(fun u:V×Ev=>u.1):=rfl;rw[this,z1];exact hp
 ·obtain⟨u,hu,rfl⟩:=cD.mp hz;obtain⟨a,k,W,R,U,e3⟩:=A2 (M u hu);exact{a,k,W,R,s _ _ U,s _ _ e3}
 ·grind
 ·intro m;obtain⟨x,hx,ex⟩:=cD.mp m;obtain⟨u,hu,rfl⟩:=cD.mp hx;refine I u.2 ?_ ex.symm;rw[<- J];exact mf hu
 ·grind
 ·have D:∀u∈(V.ref t,e)::ps.zip pd,fH F u.1 u.2:=fun u hu=>by
   rcases aE.mp hu with z|z
   ·rw[z];exact O
   ·exact M u z
  have hB:(((V.ref t,e)::ps.zip pd).map (·.2)).Perm (ve e pd):=by
   rw[cP,J];exact (nZ e pd).symm
  obtain⟨Z,B,Y⟩:=xg D p f hB (sT fe I);rw[B];exact k Z Y
section
variable{P:aQ}{w:bU}{K:af}{mg:Str->Option aj}{base:cG}{f:ae}{fd:cm}
theorem Hi:bX ["self"] ["self"] (aT oC):=eQ
theorem Dw(F:Fun K "word" "Great.word" oC f fd):pR P w K mg base CX0 1 f fd ["self"] (pX "great"):=by
 refine F.okH Hi (fun vs H Q E h=>?_) (fun Z A outer s H vs Q E h=>?_)
 ·obtain⟨a,rfl,_⟩:=h;rfl
 obtain⟨a,rfl,q⟩:=h;exact{_,aA (bD bP),q}
theorem JS:bX ["self"] ["self"] (aT pT):=eQ
theorem Hj(F:Fun K "word" "Full.word" pT f fd):pR P w K mg base CX0 1 f fd ["self"] (pX "full"):=by
 refine F.okH JS (fun vs H Q E h=>?_) (fun Z A outer s H vs Q E h=>?_)
 ·obtain⟨a,rfl,_⟩:=h;rfl
 obtain⟨a,rfl,q⟩:=h;exact{_,aA (bD bP),q}
theorem ND:bX ["self"] ["self"] (aT qT):=eQ
theorem JT(F:Fun K "word" "Dry.word" qT f fd):pR P w K mg base CX0 1 f fd ["self"] (pX "dry"):=by
 refine F.okH ND (fun vs H Q E h=>?_) (fun Z A outer s H vs Q E h=>?_)
 ·obtain⟨a,rfl,_⟩:=h;rfl
 obtain⟨a,rfl,q⟩:=h;exact{_,aA (bD bP),q}
theorem JU:bX ["self"] ["self"] (aT pU):=eQ
theorem Hk(F:Fun K "word" "Span.word" pU f fd):pR P w K mg base CX0 1 f fd ["self"] (pX "span"):=by
 refine F.okH JU (fun vs H Q E h=>?_) (fun Z A outer s H vs Q E h=>?_)
 ·obtain⟨a,rfl,_⟩:=h;rfl
 obtain⟨a,rfl,q⟩:=h;exact{_,aA (bD bP),q}
theorem JV:bX ["self"] ["self"] (aT pV):=eQ
theorem Hl(F:Fun K "word" "Late.word" pV f fd):pR P w K mg base CX0 1 f fd ["self"] (pX "late"):=by
 refine F.okH JV (fun vs H Q E h=>?_) (fun Z A outer s H vs Q E h=>?_)
 ·obtain⟨a,rfl,_⟩:=h;rfl
 obtain⟨a,rfl,q⟩:=h;exact{_,aA (bD bP),q}
end
def Cb{Z:Type}(a b c d e f:Z):Flt->Z
 |.nought=>a
 |.great=>b
 |.full=>c
 |.dry=>d
 |.span=>e
 |.late=>f
theorem eN.hid{ex:Ex}{G:Hp}{Z:List (Str×ae)}{qu:List (Str×List Int)}(n:∀a∈Z.map (·.2),a∉ex)(q:eN G Z qu):eN (Hid ex G) Z qu:=
 eN.keep (L:={0,0,0,0,0,0,0,0,0,0,.non,.non,Z}) (fun a u e m=>by rw[fJ (n a m)];exact e) (fun _ h=>h) q
theorem fH.hid{ex:Ex}{G:Hp}(Z:∀a∈ex,∃o,G a=Z8 o/\∀xs,o≠.tup xs){v:V}{e:Ev}(h:fH G v e):fH (Hid ex G) v e:=by
 obtain⟨t,k,Y,h1,h2⟩:=h;exact{t,k,Y,gP Z h1,gP Z h2}
theorem Dg.sta{CD CS:ae}{bs qs:List Str}{H0 G:Hp}{L:Lay}{h:Ev}{ds:List Int}{w:Wk}(g:Dg CD CS bs qs H0 G L h ds w){ex:Ex}(n:∀a∈L.all,a∉ex):lZ CS (Hid ex G) L.st w.bx w.qu w.dr w.se:=
 {L.dxs,L.bd,L.qd,L.qa,by rw[fJ (n _ KZ)];exact g.hst,by rw[fJ (n _ K0)];exact g.hb,by rw[fJ (n _ in_qd)];exact g.hq,g.hl.hid fun a m=>n a (in_l m)}
theorem FW.told{CD CS:ae}{bs qs:List Str}{H G:Hp}{L:Lay}{h:Ev}{ds:List Int}{w:Wk}{t O I:ae}{Y R:List V}{E:List (Str×ae)}(d:FW CD CS bs qs H G L h ds w t O I Y R E){ex:Ex}(M:∀a∈ex,∃o,H a=Z8 o/\∀xs,o≠.tup xs) :
  ∃vs,G L.od=Z8 (.lst vs)/\L.od∉ex/\aO (fH (Hid ex G)) vs w.out/\RcIn (Hid ex G) (.ref O) {h,wrB bs w,wrQ qs w,w.out}:=by
 have Z:∀a∈ex,∃o,G a=Z8 o/\∀xs,o≠.tup xs:=fun a ha=>by
  obtain⟨o,e,n⟩:=M a ha;exact{o,d.sm _ _ e,n}
 have nx:∀{a},H a=Z7->a∉ex:=fun {a} z m=>by
  obtain⟨o,e,_⟩:=M a m;rw[z]at e
  cases e
 refine Z0 fun Gz D=>?_;obtain⟨H0,B,g⟩:=d.dg;obtain⟨vs,J,f⟩:=g.ho;obtain⟨k,h1,h2⟩:=d.hrc;refine D ?_;have U:=nx (none_of B (g.fr _ K1));have W:=Paired.mono (fun _ _ z=>fH.hid Z z) f;refine{vs,J,U,W,O,k,I,L.od,Y,R,vs,E,Z9,gP Z h1,gP Z (d.sm _ _ h2),?_,Paired.mono (fun _ _ z=>z.keep fun a xs e=>gP Z e) d.wr.b,Paired.mono (fun _ _ z=>z.keep fun a xs e=>gP Z e) d.wr.q,d.wr.l.hid fun a m=>nx (d.wr.fr a (aa _ m)),?_,W}
 ·rw[fJ (nx (d.wr.fr _ ax))];exact d.wr.hl
 ·rw[fJ U];exact J
theorem m5.clean{bs qs:List Str}{w:Wk}(k:m5 bs qs w):m5 bs qs (w0 w.bx w.qu w.dr w.se):=
 {k.kb,k.kq,k.nb,k.nq,k.wb,k.wq,ji,(fun x hx=>by cases hx),ji,(fun x hx=>by cases hx),(fun x hx=>by cases hx),k.fw}
theorem yj{P:Ds->Prop}{hs:List (Str×Ds)}(h:∀q∈hs,P q.2)(n:P .nil)(Z:Str):P (iG hs Z):=by
 unfold iG
 cases e:hs.lookup Z with
 |none=>exact n
 |some d=>exact h _ (kH e)
def ToldR(F:Hp)(v:V):List Rec->Prop
 | []=>v=.non
 |q::_=>RcIn F v q
def Oth(ex:Ex)(co sl pl:ae)(H G:Hp):Prop:=∀a,a≠co->a≠sl->a≠pl->∀o,H a=Z8 o->G a=Z8 o
theorem A3{Hb H G:Hp}{co sl pl:ae}(s:∀b o,Hb b=Z8 o->b≠co/\b≠sl/\b≠pl/\H b=Z8 o)(V:∀a,a≠co->a≠sl->a≠pl->∀o,H a=Z8 o->G a=Z8 o):∀b o,Hb b=Z8 o->b≠co/\b≠sl/\b≠pl/\G b=Z8 o:=fun b o e=>by
 obtain⟨W,Y,Z,z⟩:=s b o e;exact{W,Y,Z,V b W Y Z o z}
theorem cg.some{ι:Type}{P:aQ}{w:bU}{K:af}{mg:Str->Option aj}{base:cG}{CX:CXT}{k:Nat}{f:ae}{fd:cm}{ps:List Str}{sp:ι->Sp}(F:∀i,cg P w K mg base CX k f fd ps (sp i)) :
  cg P w K mg base CX k f fd ps (fun vs H Q E=>∃i,sp i vs H Q E):=
 {fun vs H Q E ⟨i,q⟩=>(F i).len vs H Q E q,fun A outer s H args W vs Q E Y Z hb V ⟨i,hs⟩=>(F i).run A outer s H args W vs Q E Y Z hb V hs}
theorem JW{X:Cx}{o value:c8}{f:Str}{ta tv:TE}{pos pos':Pos}(K:af)(Y:X.K=K)(ha:PE X o ta)(Z:PE X value tv)(hs:qB value (Z8 (.Attribute o f pos')) pos.line X.env=pure false):PS X (.Assign [.Attribute o f pos'] value pos) (sFld K ta tv f):=by
 rw[<- Y];exact gm ha Z hs
theorem nil_o{σ:St}{H:Hp}{Q:List V->Hp->Prop}(h:Q [] H):tN σ H Q:=h
theorem A4{D:kK}{σ:St}{H:Hp}(h:D.nx σ H):Eu D σ H:=h
theorem Dx(xs:List Ev)(x:Ev)(pd:List Ev):oO (xs++[x]) pd=ve x (oO xs pd):=by
 unfold oO;rw[Ft];rfl
section
variable{P:aQ}{w:bU}{K:af}{mg:Str->Option aj}{base:cG}{f fPu fDn CC CM CS CD CF:ae}{fd fdPu fdDn:cm}{cf fW:Flt->ae}{fdW:Flt->cm}
seal PS PSs PE PA PT PW PI PG PGs PC
inductive Ln(CC CS:ae)(vs:List V)(H:Hp)(Q:VK)(_e:XK):Prop where
 |mk(Ms:List MD)(Hb:Hp)(ex:Ex)(co m sl pl:ae)(r:RS)(left:Int)(_:vs=[.ref co,.int left])(_:mw CC CS Ms Hb ex H co m sl pl r)(_:∀v G,bN H G->((j6 r left=Z7/\v=.non)\/∃e,j6 r left=Z8 e/\q5 (Hid ex G) v e)->Q v G):Ln CC CS vs H Q _e
def spEd(CC CS:ae):Sp:=fun vs H Q Z=>Ln CC CS vs H Q Z
theorem scEd:bX ["self","left"] ["self","left"] (aT gu):=eQ
theorem ok_ed(M:Mt K CC "ending_due" "Course.ending_due" gu ["self","left"] f fd)(T:CoT K mg CC):cg P w K mg base CX0 1 f fd ["self","left"] (spEd CC CS):=by
 refine M.F.ok scEd (fun vs H Q E h=>?_) (fun D A outer s H vs Q E hr h=>?_)
 ·obtain⟨Ms,Hb,ex,co,m,sl,pl,r,left,rfl,_⟩:=h;rfl
 obtain⟨Ms,Hb,ex,co,m,sl,pl,r,left,rfl,c,q⟩:=h;refine⟨_,ag (cC (uz (Be (cK (pv 0) rfl))) (aA (bD (cK (pv 0) rfl))) bL)
  (ag (cC (kL (uF (cK (pv 0) rfl) (fun _=>rfl))) (aA (bD (cW (aq bP ao)))) bL)
  (ag (cC (aZ op_le (pv 1) ah) (aA (bD (cW (aq bP ao)))) bL)
  (aA (bD xo)))),?_⟩
 refine Z0 fun g O=>?_;obtain⟨dx,rv,I,h1,h2,Y⟩:=c.hc;obtain⟨ps,J,R⟩:=c.hp;refine O ?_;have B:=aM R;have V:∀{G:Hp},bN H G->∀a∈ex,∃o,G a=Z8 o/\∀xs,o≠.tup xs:=fun s a ha=>by
  obtain⟨o,e,n⟩:=c.nt a ha;exact{o,s _ _ e,n}
 cases hsp:r.sp with
 |some st=>
  rw[hsp]at Y;have due:j6 r left=Z8 (.stp st):=by
   unfold j6;rw[hsp]
  obtain⟨t,rfl⟩:∃t,I=.ref t:=by
   cases st with
   |fin h=>
    obtain⟨t,_,e,_⟩:=Y;exact⟨t,e⟩
   |flt e h=>
    obtain⟨t,_,e,_⟩:=Y;exact⟨t,e⟩
  exact{_,Z9,co,CC,dx,_,_,Z9,h1,T.cl,T.nE,NC _ _ _ _ _,_,Z9,eM ({_,Z9,co,CC,dx,_,_,Z9,h1,T.cl,T.nE,NC _ _ _ _ _,q _ _ (bN.refl _) (.inr {_,due,Y})})}
 |none=>
  rw[hsp]at Y;subst Y;refine{_,Z9,co,CC,dx,_,_,Z9,h1,T.cl,T.nE,NC _ _ _ _ _,_,Z9,dP ({_,Z9,co,CC,dx,_,_,Z9,h1,T.cl,T.nP,NB _ _ _ _ _,_,.inl {_,SqL.of J,Z9},?_})}
  cases ps with
  |nil=>
   refine eM {F3,fun t W=>q _ _ (aH W _) (.inr {.empty,?_,t,Z9,gP (V (aH W _)) ak})};unfold j6;rw[hsp,(kY B.symm)];rfl
  |cons x xs=>
   have U:r.pd.isEmpty=false:=by grind
   refine dP ({_,Z9,_,_,Z9,Z9,_,Z9,gr (fun Z=>?_) (fun Z=>?_)})
   ·have Z:=of_decide_eq_true Z;refine{F3,fun t W=>q _ _ (aH W _) (.inr {.cut,?_,t,Z9,gP (V (aH W _)) ak})};unfold j6;rw[hsp];rw[U,if_neg (by decide),if_pos Z]
   ·have Z:=fun z=>Z (decide_eq_true z);refine q _ _ (bN.refl _) (.inl {?_,Z9});unfold j6;rw[hsp];rw[U,if_neg (by decide),if_neg Z]
inductive Hm(CC CM CS:ae)(vs:List V)(H:Hp)(Q:VK)(_e:XK):Prop where
 |mk(Ms:List MD)(Hb:Hp)(ex:Ex)(co m sl pl:ae)(r:RS)(_:vs=[.ref co])(_:vU CM Ms Hb m)(_:mw CC CS Ms Hb ex H co m sl pl r)(_:r.sp=Z7)(_:r.pd≠[])(_:r.pd.length<=9000000)(_:∀v G,mw CC CS Ms Hb ex G co m sl pl (gT Ms r).1->bN (Hid ex H) (Hid ex G)->Oth ex co sl pl H G->ToldR (Hid ex G) v (gT Ms r).2->Q v G):Hm CC CM CS vs H Q _e
def Lo(CC CM CS:ae):Sp:=fun vs H Q Z=>Hm CC CM CS vs H Q Z
abbrev nD1:List Str:=["self","happening","at","told","fault","sent"]
theorem Dy:bX nD1 ["self"] (aT iF):=eQ
theorem Hn{n j:Nat}(h:j<n):ixN n (j:Int)=Z8 j:=by
 unfold ixN;rw[if_pos (by lia),if_pos (by lia)];simp
theorem NF(M:Mt K CC "do_one" "Course.do_one" iF ["self"] f fd)(gg:Df K mg "put_in" rM ["falling","thing"] fPu fdPu)(fa:cg P w K mg base CX0 2 fPu fdPu ["falling","thing"] B8)
  (jb:Df K mg "done" xX ["model","state","happening"] fDn fdDn) (ft:∀bq:List Str×List Str,cg P w K mg base (CXo P w) 37 fDn fdDn ["model","state","happening"] (FX cf CM CD CS bq.1 bq.2 5))
  (mW:∀e,xr K (cf e) "word" (fW e)) (bW:∀e,Binds K (fdW e) ["self"] []) (GW:∀e,pR P w K mg base CX0 1 (fW e) (fdW e) ["self"] (pX (kX e))) (XN:∀e,vN K (cf e)) (mF:mg "Fault"=Z8 (.ref CF)) (hx:∀e,dC K (.ref (cf e)) (.ref CF)=Z8 true) (T:CoT K mg CC) (TM:MdT K mg CM CS) :
  cg P w K mg base CX0 38 f fd ["self"] (Lo CC CM CS):=by
 refine M.F.ok Dy (fun vs H Q E h=>?_) (fun ey A outer s H vs Q E hr h=>?_)
 ·obtain⟨Ms,Hb,ex,co,m,sl,pl,r,rfl,_⟩:=h;rfl
 refine Z0 fun Gz gz=>?_;obtain⟨Ms,Hb,ex,co,m,sl,pl,r,rfl,hM,c,hd,gk,eu,k⟩:=h;have r1:e8 1 _:=hr.mono (by decide);obtain⟨dx,rv,sv,ih,hg,ki⟩:=c.hc;obtain⟨t,fw,jp⟩:=c.hs;obtain⟨ps,hG,hN⟩:=c.hp;obtain⟨h,hl⟩:∃h,r.pd.getLast?=Z8 h:=by
  cases e:r.pd.getLast? with
  |none=>exact absurd (yk.mp e) gk
  |some h=>exact⟨h,Z9⟩
 have ku:=vg hl;have gd:h∈r.pd:=by
  rw[ku];exact aV _ (aD.mpr rfl)
 have eo:=c.ok.ev h gd;obtain⟨j,hj⟩:∃j:Nat,h.to=(j:Int):={h.to.toNat,by have:=eo.to0;lia};have jl:j<Ms.length:=by have:=eo.to1;lia
 have ej:h.to.toNat=j:=by lia
 have js:j<r.sts.length:=by rw[c.ok.len];exact jl
 obtain⟨Mm,kz⟩:∃M,Ms[j]?=Z8 M:={_,aI jl};obtain⟨st0,lb⟩:∃s,r.sts[j]?=Z8 s:={_,aI js};have d:Did Ms r h Mm st0:={ku,by rw[ej];exact kz,by rw[ej];exact lb};obtain⟨Z,v,hR,kb,hv⟩:∃Z v,ps=Z++[v]/\aO (fH (Hid ex H)) Z r.pd.dropLast/\fH (Hid ex H) v h:=by
  rw[ku]at hN;exact Paired.snoc_inv hN
 obtain⟨th,Y,rfl,ho,hH⟩:=id hv;obtain⟨gh,ml,fs,hm,ga,xs,eL,gt⟩:=id hM;obtain⟨mv,fy,hX⟩:=gi gt kz;obtain⟨sta,ka,gl⟩:=gi jp lb;refine gz ?_;have dk:=yj (P:=fun D=>D.toOk (Ms.length:Int)/\D.deep<=4/\D.size<=3*ddz 4) hX.hk {by simp only[Ds.toOk],by simp only[Ds.deep];lia,by simp only[Ds.size];lia} h.sg;have dz:3*ddz 4<=5000:=by decide
 refine⟨_,ag (pst 1 Dy (sF aL jX jY EW (cK (pv 0) rfl)))
  (ag (pst 2 Dy (aP aY (pv 1) ah))
  (ag (IX (fun C σ G=>∃(e:Flt) (u3 u4 u5:Option V),C=cf e/\σ=[Z8 (.ref co),Z8 (.ref th),Z8 (.int h.to),u3,u4,u5]/\doS h Mm.ds (iG Mm.hs h.sg) st0.w=.error e/\bN (upd H pl (.lst Z)) G)
    (fun pins=>aA (pst 3 Dy (E3 (cg.some ft) hr (by rfl) jb.m jb.F.kp jb.b AA (aq (yc K (by rfl) (pv 0) (by rfl)) (aq (aP (uX K (by rfl)) (yc K (by rfl) (pv 0) (by rfl)) (pv 2)) (aq (pv 1) ao))))))
    (Mv 4 (by rfl) mF Dy.nd rfl rfl (fun ea=>ag (JW K (by rfl) (pv 0) (cW (aq bP (aq (C4 (ι:=Flt) (C:=cf) (fm:=fW) (fd:=fdW) (sp:=fun e=>pX (kX e)) (pv 4) XN mW GW ⟨Z9,r1.dp,r1.un⟩ bW jM) (aq (aP (je K (by rfl)) (pv 1) ah) ao)))) rfl) (aA (bD xo))) IL)
    bL)
  (ag (pf (aP aY (pv 3) ah) (qO (cK (pv 0) rfl) (pv 2) lN))
  (ag (gm (pv 0) (aP aY (pv 1) ah) rfl)
  (ag (fq bV rfl (fc (aP aY (aP aY (pv 3) ah) ah)) (pgn 5 Dy) (aA (cV (pcl fa (hr.mono (by decide)) gg (aq (cK (pv 0) rfl) (aq (pv 5) ao))))))
  (ag (cC (hJ (aP aY (pv 3) ah)) (aA (gm (pv 0) (cW (aq bP (aq (aP aY (pv 1) ah) ao))) rfl)) bL)
  (aA (bD (aP aY (pv 3) ah))))))))),?_⟩
 subst hR;refine aX (cH ({_,Z9,co,CC,dx,_,_,Z9,ih,T.cl,T.nP,NB _ _ _ _ _,.inl {Z9,_,SqL.of hG},pl,_,.ref th,Z9,Z9,hG,?_,?_}))
 ·rw[aB];show (Z++[V.ref th])[Z.length+1-1]?=_;rw[Ho,dM (aF _),AR];rfl
 rw[qL];refine bF ?_;dsimp only;have F1:Hid ex (upd H pl (.lst Z))=Hid ex H:=iC c.i3;have lj:upd H pl (.lst Z) co=Z8 (.ins CC dx (j8 (.ref m) (.ref sl) (.ref pl) rv sv)):=aN ih c.n2;have lc:upd H pl (.lst Z) sl=Z8 (.lst (t.map V.ref)):=aN fw c.n3;have kv:upd H pl (.lst Z) pl=Z8 (.lst Z):=ak;have lk:∀a∈ex,∃o,upd H pl (.lst Z) a=Z8 o/\∀xs,o≠.tup xs:=fun a ha=>by
  by_cases z:a=pl
  ·rw[z];exact{_,ak,fun xs z=>by cases z}
  ·obtain⟨o,e,n⟩:=c.nt a ha;exact{o,aN e z,n}
 have li:Oth ex co sl pl H (upd H pl (.lst Z)):=fun a _ _ z o e=>aN e z;revert F1 lj lc kv lk li;generalize upd H pl (.lst Z)=G1;intro F1 lj lc kv lk li;have ii:bN (Hid ex H) G1:=by
  rw[<- F1];exact eA
 have iv:bN Hb G1:=fun b o e=>by
  obtain⟨I,n2,n3,z⟩:=c.sm b o e;exact li b I n2 n3 o z
 have lm:=ii _ _ ho;refine aX (cH ?_);refine{_,Z9,th,_,_,_,Z9,Z9,SqT.of lm,Z9,?_};refine bF ?_;dsimp only;refine aX ?_;refine{?_,fun C er W hl ht=>?_}
 ·refine cH ?_;have eH:atI (t.map V.ref) h.to=Z8 (.ref sta):=by
   rw[hj];exact gy (by rw[bM,ka];rfl)
  refine{_,Z9,co,CC,dx,_,_,Z9,lj,T.cl,T.nM,co_m _ _ _ _ _,_,Z9,co,CC,dx,_,_,Z9,lj,T.cl,T.nS,NA _ _ _ _ _,_,Z9,sl,_,_,_,Z9,Z9,SqL.of lc,eH,_,Z9,?_};refine{(Mm.bs,Mm.qs),m,gh,ml,sta,fs,xs,.ref th,mv,h,Mm.ds,Mm.hs,st0.bx,st0.qu,st0.dr,st0.se,Z9,iv _ _ hm,ga,iv _ _ eL,hv.same ii,by rw[hj];exact gy fy,(hX.same iv).ma,lZ.same' ii gl,c.wk j Mm st0 kz lb,eo.wt,eo.wa,eo.wb,by lia,by lia,?_}
  cases ew:doS h Mm.ds (iG Mm.hs h.sg) (w0 st0.bx st0.qu st0.dr st0.se) with
  |error e=>
   exact fun W s6=>{_,Z9,e,_,_,_,Z9,Z9,ew,s6}
  |ok J=>
   intro W L t6 rc wl ez et qa Dn;have ko:doS h Mm.ds (iG Mm.hs h.sg) st0.w=.ok J:=ew;rw[uw d ko]at k;have N:=oa (m:=(Ms.length:Int)) _ _ _ dk.1 ko;refine Z0 fun Gz gz=>?_;obtain⟨hE,hF,eD⟩:=zJ c.ok d N;obtain⟨H0,s0,g⟩:=Dn.dg;refine gz ?_;have ln:=zK c.ok d ko N g.ok.wo;rw[uw d ko]at ln;refine Z0 fun Gz gz=>?_;obtain⟨vs,go,hL,hY,ke⟩:=Dn.told lk;have B:=Dn.sm;obtain⟨kk,gn,_⟩:=Dn.hrc;refine gz ?_;have nx:∀a∈L.all,a∉ex:=fun a ha z=>by
    obtain⟨o,e,_⟩:=lk a z;have:=g.fr a ha;rw[s0 _ _ e]at this
    cases this
   have fz:=g.sta nx;have f6:bN (Hid ex H) (Hid ex W):=by
    rw[<- F1];exact ir B
   have ep:bN (Hid ex W) W:=eA;have hD:=B _ _ lj;have hC:=B _ _ lc;have hf:=B _ _ kv;have fG:Oth ex co sl pl H W:=fun a I n2 n3 o e=>B _ _ (li a I n2 n3 o e);have kq:∀a∈ex,∃o,W a=Z8 o/\∀xs,o≠.tup xs:=fun a ha=>by
    obtain⟨o,e,n⟩:=lk a ha;exact{o,B _ _ e,n}
   refine bF ?_;refine A4 ?_;dsimp only;refine A4 ?_;dsimp only;have gM:j<(t.map V.ref).length:=(aC.mp (show (t.map V.ref)[j]?=Z8 (.ref sta) by rw[bM,ka];rfl)).1;refine aX (cH ?_);refine{_,Z9,t6,_,_,_,Z9,Z9,SqT.of Dn.ht,Z9,?_};refine{_,Z9,co,CC,dx,_,_,Z9,hD,T.cl,T.nS,NA _ _ _ _ _,_,Z9,sl,_,_,j,Z9,Z9,hC,by rw[hj];exact Hn gM,?_};have hK:upd W sl (.lst ((t.map V.ref).set j (.ref L.st))) th=Z8 (.tup [.ref Y,.int h.to,.str h.sg,.int h.a,.int h.b]):=aN (B _ _ lm) (jD (B _ _ lm) hC (by intro z;cases z));have fe:upd W sl (.lst ((t.map V.ref).set j (.ref L.st))) co=Z8 (.ins CC dx (j8 (.ref m) (.ref sl) (.ref pl) rv sv)):=aN hD c.n1;refine aX ?_;refine{_,Z9,th,_,_,_,Z9,Z9,SqT.of hK,Z9,_,Z9,co,CC,dx,_,Z9,fe,T.cl,T.nR,A1 _ _ _ _ _,?_};rw[JQ];have F8:Hid ex (upd (upd W sl (.lst ((t.map V.ref).set j (.ref L.st)))) co (.ins CC dx (j8 (.ref m) (.ref sl) (.ref pl) (.ref Y) sv)))=Hid ex W:=by
    rw[iC c.i1,iC c.i2]
   have ky:upd (upd W sl (.lst ((t.map V.ref).set j (.ref L.st)))) co (.ins CC dx (j8 (.ref m) (.ref sl) (.ref pl) (.ref Y) sv)) co=Z8 (.ins CC dx (j8 (.ref m) (.ref sl) (.ref pl) (.ref Y) sv)):=ak;have kt:upd (upd W sl (.lst ((t.map V.ref).set j (.ref L.st)))) co (.ins CC dx (j8 (.ref m) (.ref sl) (.ref pl) (.ref Y) sv)) sl=Z8 (.lst ((t.map V.ref).set j (.ref L.st))):=aN ak c.n1.symm;have ij:upd (upd W sl (.lst ((t.map V.ref).set j (.ref L.st)))) co (.ins CC dx (j8 (.ref m) (.ref sl) (.ref pl) (.ref Y) sv)) pl=Z8 (.lst Z):=aN (aN hf c.n3.symm) c.n2.symm;have ix:Oth ex co sl pl H (upd (upd W sl (.lst ((t.map V.ref).set j (.ref L.st)))) co (.ins CC dx (j8 (.ref m) (.ref sl) (.ref pl) (.ref Y) sv))):=fun a I n2 n3 o e=>aN (aN (fG a I n2 n3 o e) n2) I;have ja:∀a∈ex,∃o,upd (upd W sl (.lst ((t.map V.ref).set j (.ref L.st)))) co (.ins CC dx (j8 (.ref m) (.ref sl) (.ref pl) (.ref Y) sv)) a=Z8 o/\∀xs,o≠.tup xs:=fun a ha=>by
    by_cases z:a=co
    ·rw[z];exact{_,ak,fun xs z=>by cases z}
    ·by_cases y:a=sl
     ·rw[y];exact{_,kt,fun xs z=>by cases z}
     ·obtain⟨o,e,n⟩:=kq a ha;exact{o,aN (aN e y) z,n}
   revert F8 ky kt ij ix ja;generalize upd (upd W sl (.lst ((t.map V.ref).set j (.ref L.st)))) co (.ins CC dx (j8 (.ref m) (.ref sl) (.ref pl) (.ref Y) sv))=G8;intro F8 ky kt ij ix ja;have lg:bN (Hid ex W) G8:=by
    rw[<- F8];exact eA
   have kw:Hid ex W t6=Z8 (.tup [.ref L.st,.ref rc,.bl J.en]):=gP kq Dn.ht;have hB:Hid ex W rc=_:=gP kq gn;have kc:Hid ex W L.od=Z8 (.lst vs):=by
    rw[fJ hL];exact go
   have hO:Hid ex W th=_:=gP kq (B _ _ lm);have lh:Hid ex W Y=Z8 (vk h):=f6 _ _ hH;have ge:kW r.pd.dropLast:=by
    have z:=c.ok.fall;rw[ku]at z;exact (qq z).1
   have hI:L.od≠pl:=fun z=>hL (by rw[z];exact c.i3);refine aX ?_;refine⟨_,Z9,t6,_,_,_,Z9,Z9,SqT.of (lg _ _ kw),Z9,rc,_,_,_,Z9,Z9,SqT.of (lg _ _ hB),Z9,L.od,Z9,{_,SqL.of (lg _ _ kc)},fX (K:=K) (a:=L.od) (xs:=vs) (fun i σ G'=>∃(u4 u:Option V) (ps:List V),σ=[Z8 (.ref co),Z8 (.ref th),Z8 (.int h.to),Z8 (.ref t6),u4,u]/\G' pl=Z8 (.lst ps)/\aO (fH (Hid ex W)) ps (oO (J.out.take i) r.pd.dropLast)/\But pl G8 G')
    {_,_,Z,Z9,ij,by rw[dE];exact Paired.mono (fun _ _ z=>z.same f6) kb,But.refl _ _} ?_ ?_ ?_⟩
   ·rintro i σ G' _ ⟨_,_,_,rfl,_,_,b⟩;exact SqL.of (b _ _ (lg _ _ kc) hI)
   ·intro i x σ G' hi qz;refine Z0 fun Gz gz=>?_;obtain⟨u4,u,ps,rfl,g1,g2,b⟩:=qz;refine gz ?_;obtain⟨e,he,fx⟩:=iJ hY hi;have hb:bN (Hid ex W) G':=fun a o z=>b _ _ (lg _ _ z) fun y=>j7 z (by rw[y];exact c.i3);have mem:e∈J.out:=bJ he;have tk:J.out.take (i+1)=J.out.take i++[e]:=by
     rw[dh,he];rfl
    have fo:∀x∈J.out.take i,x.key≠e.key:=fun x hx=>by
     have pw:=hF;rw[<- A0 (i+1) J.out,tk]at pw;exact (ic.mp (ic.mp pw).1).2.2 x hx e (aD.mpr rfl)
    have hA:kW (oO (J.out.take i) r.pd.dropLast):=qv ge (fun x hx=>hE x (BI hx)) (hF.sublist (hZ _ _));refine{_,Z9,co,CC,dx,_,_,Z9,b _ _ ky c.n2,T.cl,T.nP,NB _ _ _ _ _,_,Z9,?_};refine nil_o ?_;show B8 [V.ref pl,x] G' _ _;refine JR (F:=Hid ex W) hb g1 g2 hA fx (fun y hy=>?_) ?_ fun gq hP=>?_
    ·rcases bY.mp ((gF _ _).mem_iff.mp hy) with z|z
     ·exact fun q=>fo y z q.symm
     ·exact hE e mem y z
    ·rw[(gF _ _).length_eq,aB,kR,cL];obtain⟨new,e1,e2,_⟩:=N.ex;have e1:J.out=new:=e1;have:=dk.2.2;rw[e1]
     lia
    ·refine{_,_,gq,Z9,ak,?_,b.trans (But.upd pl _ _)};rw[tk,Dx];exact hP
   rintro σ G9 ⟨u4,u,em,rfl,g1,g2,b⟩;have hn:vs.length=J.out.length:=aM hY;rw[hn,cF]at g2;have F9:bN (Hid ex W) (Hid ex G9):=by
    rw[<- F8];exact Nz fun a o e n=>b _ _ e fun y=>n (by rw[y];exact c.i3)
   have im:bN (Hid ex W) G9:=F9.trans eA;have hS:=b _ _ ky c.n2;have io:=b _ _ kt c.n3;have kG:Oth ex co sl pl H G9:=fun a I n2 n3 o e=>b _ _ (ix a I n2 n3 o e) n3;have hT:∀a∈ex,∃o,G9 a=Z8 o/\∀xs,o≠.tup xs:=fun a ha=>by
    by_cases z:a=pl
    ·rw[z];exact{_,g1,fun xs z=>by cases z}
    ·obtain⟨o,e,n⟩:=ja a ha;exact{o,b _ _ e z,n}
   have hu:∀(i:Nat) (M:MD) (s:Sta),Ms[i]?=Z8 M->(r.sts.set h.to.toNat ⟨J.bx,J.qu,J.dr,J.se⟩)[i]?=Z8 s->m5 M.bs M.qs s.w:=fun i M s hi hs=>by
    rw[ej]at hs
    by_cases z:i=j
    ·rw[z,eG js]at hs;rw[z,kz]at hi;injection hs with hs;subst hs;injection hi with hi;subst hi;exact g.ok.clean
    ·rw[hW (fun y=>z y.symm)]at hs;exact c.wk i M s hi hs
   have hq:∀{F:Hp},bN (Hid ex W) F->aO (StA CS F) (t.set j L.st) (r.sts.set h.to.toNat ⟨J.bx,J.qu,J.dr,J.se⟩):=fun {F} s=>by
    rw[ej];exact Paired.set (Paired.mono (fun _ _ z=>lZ.same' (f6.trans s) z) jp) j (lZ.same' s fz)
   have gw:(t.map V.ref).set j (.ref L.st)=(t.set j L.st).map V.ref:=List.map_set.symm;rw[gw]at io;refine aX ?_;refine{_,Z9,t6,_,_,_,Z9,Z9,SqT.of (im _ _ kw),Z9,J.en,Z9,?_}
   cases een:J.en with
   |true=>
    rw[een]at k ln;refine eM ?_;refine{_,Z9,th,_,_,_,Z9,Z9,SqT.of (im _ _ hO),Z9,lt2,fun O ld=>?_};have sz:=aH ld (.tup [.str "end",.ref Y]);refine{_,Z9,co,CC,dx,_,Z9,sz _ _ hS,T.cl,T.nE,A1 _ _ _ _ _,?_};rw[Ca];have U:Hid ex (upd (upd G9 O (.tup [.str "end",.ref Y])) co (.ins CC dx (j8 (.ref m) (.ref sl) (.ref pl) (.ref Y) (.ref O))))=Hid ex (upd G9 O (.tup [.str "end",.ref Y])):=iC c.i1;have la:∀a∈ex,∃o,upd G9 O (.tup [.str "end",.ref Y]) a=Z8 o/\∀xs,o≠.tup xs:=fun a ha=>by
     obtain⟨o,e,n⟩:=hT a ha;exact{o,sz _ _ e,n}
    have R:bN (Hid ex W) (Hid ex (upd G9 O (.tup [.str "end",.ref Y]))):=F9.trans (ir sz);have ll:Hid ex (upd G9 O (.tup [.str "end",.ref Y])) O=Z8 (.tup [.str "end",.ref Y]):=gP la ak;have lf:∀{a:ae} {o:HO},a≠co->upd G9 O (.tup [.str "end",.ref Y]) a=Z8 o->upd (upd G9 O (.tup [.str "end",.ref Y])) co (.ins CC dx (j8 (.ref m) (.ref sl) (.ref pl) (.ref Y) (.ref O))) a=Z8 o:=fun n e=>aN e n;have hQ:bN (Hid ex W) (upd (upd G9 O (.tup [.str "end",.ref Y])) co (.ins CC dx (j8 (.ref m) (.ref sl) (.ref pl) (.ref Y) (.ref O)))):=by
     refine bN.trans R ?_;rw[<- U];exact eA
    refine{_,Z9,t6,_,_,_,Z9,Z9,SqT.of (hQ _ _ kw),Z9,?_};refine k _ _ {ln,?_,c.i1,c.i2,c.i3,c.n1,c.n2,c.n3,{dx,_,_,ak,?_,?_},{_,lf c.n1.symm (sz _ _ io),?_},{_,lf c.n2.symm (sz _ _ g1),?_},hu,fun a ha=>?_} ?_ ?_ ?_
    ·exact A3 c.sm fun a I n2 n3 o e=>lf I (sz _ _ (kG a I n2 n3 o e))
    ·rw[U];exact{Y,Z9,R _ _ lh}
    ·rw[U];exact{O,Y,Z9,ll,R _ _ lh}
    ·rw[U];exact hq R
    ·rw[U];exact Paired.mono (fun _ _ z=>z.same R) g2
    ·by_cases z:a=co
     ·rw[z];exact{_,ak,fun xs z=>by cases z}
     ·obtain⟨o,e,n⟩:=la a ha;exact{o,lf z e,n}
    ·rw[U];exact f6.trans R
    ·exact fun a I n2 n3 o e=>lf I (sz _ _ (kG a I n2 n3 o e))
    ·rw[U];exact ke.same R
   |false=>
    rw[een]at k ln;refine dP ?_;have fb:sv=.non:=by
     rw[hd]at ki;exact ki
    refine{_,Z9,t6,_,_,_,Z9,Z9,SqT.of (im _ _ kw),Z9,?_};exact k _ _ {ln,A3 c.sm kG,c.i1,c.i2,c.i3,c.n1,c.n2,c.n3,{dx,_,_,hS,{Y,Z9,F9 _ _ lh},fb},{_,io,hq F9},{_,g1,Paired.mono (fun _ _ z=>z.same F9) g2},hu,hT} (f6.trans F9) kG (ke.same F9)
 ·
  refine Z0 fun Gz gz=>?_;obtain⟨e,u3,u4,u5,rfl,rfl,ew,s6⟩:=ht;refine gz ?_;rw[rW d ew]at k;have ln:=xc c.ok d ew;rw[rW d ew]at ln;refine .inl {hx e,fun ea hh=>?_};have sx:=aH hh (XO ea (cf e));have s7:=s6.trans sx;have f7:bN (Hid ex H) (Hid ex (upd W ea (XO ea (cf e)))):=by
   rw[<- F1];exact ir s7
  refine aX ?_;refine{_,Z9,ea,e,Z9,ak,_,Z9,_,Z9,th,_,_,_,Z9,Z9,SqT.of (s7 _ _ lm),Z9,(by show 3<=aG;decide),fun O ld=>?_};have sz:=aH ld (.tup [.str "fault",.str (kX e),.ref Y]);have s8:=s7.trans sz;refine{_,Z9,co,CC,dx,_,Z9,s8 _ _ lj,T.cl,T.nE,A1 _ _ _ _ _,?_};rw[Ca];revert ld sz s8;generalize upd W ea (XO ea (cf e))=G7 at f7 |-;intro ld sz s8;have U:Hid ex (upd (upd G7 O (.tup [.str "fault",.str (kX e),.ref Y])) co (.ins CC dx (j8 (.ref m) (.ref sl) (.ref pl) rv (.ref O))))=Hid ex (upd G7 O (.tup [.str "fault",.str (kX e),.ref Y])):=iC c.i1;have la:∀a∈ex,∃o,upd G7 O (.tup [.str "fault",.str (kX e),.ref Y]) a=Z8 o/\∀xs,o≠.tup xs:=fun a ha=>by
   obtain⟨o,e,n⟩:=lk a ha;exact{o,s8 _ _ e,n}
  have R:bN (Hid ex H) (Hid ex (upd G7 O (.tup [.str "fault",.str (kX e),.ref Y]))):=f7.trans (ir sz);have ll:Hid ex (upd G7 O (.tup [.str "fault",.str (kX e),.ref Y])) O=Z8 (.tup [.str "fault",.str (kX e),.ref Y]):=gP la ak;refine k _ _ {ln,?_,c.i1,c.i2,c.i3,c.n1,c.n2,c.n3,{dx,_,_,ak,?_,?_},{t,aN (s8 _ _ lc) c.n1.symm,?_},{Z,aN (s8 _ _ kv) c.n2.symm,?_},c.wk,fun a ha=>?_} ?_ ?_ rfl
  ·exact A3 c.sm fun a I n2 n3 o e=>aN (s8 _ _ (li a I n2 n3 o e)) I
  ·rw[U];exact hg.same R
  ·rw[U];exact{O,Y,Z9,ll,R _ _ hH}
  ·rw[U];exact Paired.mono (fun _ _ z=>lZ.same' R z) jp
  ·rw[U];exact Paired.mono (fun _ _ z=>z.same R) kb
  ·by_cases z:a=co
   ·rw[z];exact{_,ak,fun xs z=>by cases z}
   ·obtain⟨o,e,n⟩:=la a ha;exact{o,aN e z,n}
  ·rw[U];exact R
  ·exact fun a I n2 n3 o e=>aN (s8 _ _ (li a I n2 n3 o e)) I
end
def NH(Ms:List MD):Prop:=∀M∈Ms,∀q∈M.hs,q.2.toOk (Ms.length:Int)/\q.2.deep<=4/\q.2.size<=3*ddz 4
theorem vU.ok{CM:ae}{Ms:List MD}{H:Hp}{m:ae}(h:vU CM Ms H m):NH Ms:=by
 obtain⟨dx,W,fs,_,_,xs,_,p⟩:=h;intro M Z;obtain⟨j,Y⟩:=cz Z;obtain⟨x,_,z⟩:=gi p Y;exact z.hk
theorem NI{Ms:List MD}{r:RS}(k:ROk Ms.length r)(n:r.pd≠[]):∃h M s,Did Ms r h M s:=by
 obtain⟨h,U⟩:∃h,r.pd.getLast?=Z8 h:=by
  cases e:r.pd.getLast? with
  |none=>exact absurd (yk.mp e) n
  |some h=>exact⟨h,Z9⟩
 have Z:=vg U;have Y:h∈r.pd:=by
  rw[Z];exact aV _ (aD.mpr rfl)
 have W:=k.ev h Y;have V:h.to.toNat<Ms.length:=by have:=W.to1;have:=W.to0;omega
 exact{h,_,_,Z,aI V,aI (k.len ▸ V)}
inductive Hq(Ms:List MD)(r:RS):Prop
 |err(h:Ev)(M:MD)(s:Sta)(e:Flt)(d:Did Ms r h M s)(q:doS h M.ds (iG M.hs h.sg) s.w=.error e)(eq:gT Ms r=({r with pd:=r.pd.dropLast,sp:=Z8 (.flt e h)},[]))
 |ok(h:Ev)(M:MD)(s:Sta)(w:Wk)(d:Did Ms r h M s)(q:doS h M.ds (iG M.hs h.sg) s.w=.ok w)(N:News (Ms.length:Int) h (3*ddz 4) s.w w)
   (eq:gT Ms r=(⟨r.sts.set h.to.toNat ⟨w.bx,w.qu,w.dr,w.se⟩,oO w.out r.pd.dropLast,Z8 h,if w.en=true then Z8 (.fin h) else Z7⟩,[⟨h,wrB M.bs w,wrQ M.qs w,w.out⟩]))
theorem Cc{Ms:List MD}{r:RS}(Y:NH Ms)(k:ROk Ms.length r)(n:r.pd≠[]):Hq Ms r:=by
 obtain⟨h,M,s,d⟩:=NI k n;have Z:=yj (P:=fun D=>D.toOk (Ms.length:Int)/\D.deep<=4/\D.size<=3*ddz 4) (Y M (bJ d.hM)) ⟨by simp only[Ds.toOk],by simp only[Ds.deep];omega,by simp only[Ds.size];omega⟩ h.sg
 cases q:doS h M.ds (iG M.hs h.sg) s.w with
 |error e=>exact .err h M s e d q (rW d q)
 |ok w=>exact .ok h M s w d q ((oa _ _ _ Z.1 q).le Z.2.2) (uw d q)
theorem zM{r:RS}{left:Int}(h:j6 r left=Z7):r.sp=Z7/\r.pd≠[]/\0<left:=by
 unfold j6 at h
 split at h
 ·cases h
 ·grind
theorem NJ{r:RS}{left:Int}{s:Stp}(h:r.sp=Z8 s):j6 r left=Z8 (.stp s):=by
 unfold j6;rw[h]
theorem zN{Ms:List MD}{r:RS}(h:Hq Ms r):(gT Ms r).1.pd.length<=r.pd.length+5000*(gT Ms r).2.length/\((∃q,(gT Ms r).2=[q])\/((gT Ms r).2=[]/\∃s,(gT Ms r).1.sp=Z8 s)):=by
 cases h with
 |err h M s e d q eq=>
  rw[eq];refine{?_,.inr {Z9,_,Z9}};rw[kR];omega
 |ok h M s w d q N eq=>
  rw[eq];refine{?_,.inl {_,Z9}};show (oO w.out r.pd.dropLast).length<=r.pd.length+5000*1;rw[(gF _ _).length_eq,aB,kR];obtain⟨new,Z,Y,_⟩:=N.ex;have Z:w.out=new:=Z;have W:3*ddz 4<=5000:=by decide
  rw[Z];omega
def xh(Ms:List MD)(r:RS)(Z:Int)(i:Nat)(e:End):Prop:=(∀j,j<i->ROk Ms.length (itR Ms r j).1/\j6 (itR Ms r j).1 (Z-(itR Ms r j).2.length)=Z7)/\j6 (itR Ms r i).1 (Z-(itR Ms r i).2.length)=Z8 e/\ROk Ms.length (itR Ms r i).1
def rMu(σ:St)(G:Hp):Nat:=match (σ[3]?:Option (Option V)),(σ[2]?:Option (Option V)) with
 |some (Z8 .non),Z8 (Z8 (.ref rl))=>(match G rl with|some (.lst rs)=>1+(2000-rs.length)|_=>0)
 |_,_=>0
theorem Cd{σ:St}{G:Hp}{rl:ae}{rs:List V}(W:σ[3]?=Z8 (Z8 .non))(Z:σ[2]?=Z8 (Z8 (.ref rl)))(Y:G rl=Z8 (.lst rs)):rMu σ G=1+(2000-rs.length):=by
 unfold rMu;rw[W,Z];dsimp only;rw[Y]
theorem Ce{σ:St}{G:Hp}{t:ae}(Z:σ[3]?=Z8 (Z8 (.ref t))):rMu σ G=0:=by
 unfold rMu;rw[Z]
theorem q5.ref{F:Hp}{v:V}:∀{e:End},q5 F v e->∃t,v=.ref t
 |.empty,⟨t,e,_⟩=>⟨t,e⟩
 |.cut,⟨t,e,_⟩=>⟨t,e⟩
 |.stp (.fin _),⟨t,_,e,_⟩=>⟨t,e⟩
 |.stp (.flt _ _),⟨t,_,e,_⟩=>⟨t,e⟩
section
variable{P:aQ}{w:bU}{K:af}{mg:Str->Option aj}{base:cG}{f fE fO CC CM CS:ae}{fd fdE fdO:cm}
seal PS PSs PE PA PT PW PI PG PGs PC
structure Ran(CC CS:ae)(Ms:List MD)(Hb:Hp)(ex:Ex)(co m sl pl:ae)(r:RS)(most:Int)(H G:Hp)(t:ae)(i:Nat)(e:End):Prop where
 st:xh Ms r most i e
 cc:mw CC CS Ms Hb ex G co m sl pl (itR Ms r i).1
 sm:bN (Hid ex H) (Hid ex G)
 ot:Oth ex co sl pl H G
 rs:∃rl en rvs,Hid ex G t=Z8 (.tup [.ref rl,en])/\Hid ex G rl=Z8 (.lst rvs)/\H rl=Z7/\aO (RcIn (Hid ex G)) rvs (itR Ms r i).2/\q5 (Hid ex G) en e
inductive Hr(CC CM CS:ae)(vs:List V)(H:Hp)(Q:VK)(_e:XK):Prop where
 |mk(Ms:List MD)(Hb:Hp)(ex:Ex)(co m sl pl:ae)(r:RS)(most:Int)(_:vs=[.ref co,.int most])(_:vU CM Ms Hb m)(_:mw CC CS Ms Hb ex H co m sl pl r)(_:most<=1000)(_:r.pd.length<=1000000)(_:∀G t i e,Ran CC CS Ms Hb ex co m sl pl r most H G t i e->Q (.ref t) G):Hr CC CM CS vs H Q _e
def Lp(CC CM CS:ae):Sp:=fun vs H Q Z=>Hr CC CM CS vs H Q Z
abbrev nRn:List Str:=["course","most","records","ending","record"]
theorem Hs:bX nRn ["course","most"] (aT rN):=eQ
theorem NK(D:Df K mg "run_on" rN ["course","most"] f fd)(ME:Mt K CC "ending_due" "Course.ending_due" gu ["self","left"] fE fdE)(GE:cg P w K mg base CX0 1 fE fdE ["self","left"] (spEd CC CS))
  (MO:Mt K CC "do_one" "Course.do_one" iF ["self"] fO fdO) (GO:cg P w K mg base CX0 38 fO fdO ["self"] (Lo CC CM CS)) (T:CoT K mg CC) (B:Bl mg) :
  cg P w K mg base CX0 39 f fd ["course","most"] (Lp CC CM CS):=by
 refine D.F.ok Hs (fun vs H Q E h=>?_) (fun ea A outer s H vs Q E hr h=>?_)
 ·obtain⟨Ms,Hb,ex,co,m,sl,pl,r,Z,rfl,_⟩:=h;rfl
 obtain⟨Ms,Hb,ex,co,m,sl,pl,r,Z,rfl,hM,c,ee,dV,k⟩:=h;have r1:e8 1 _:=hr.mono (by decide);refine⟨_,ag (pst 2 Hs (dO ao))
  (ag (pst 3 Hs (iN (pv 0) T.cl ME.m GE r1 ME.b .nil jM (aq (pv 1) ao)))
  (ag (rp bV (uz (LU (pv 3)))
   (ag (pst 4 Hs (rB (pv 0) T.cl MO.m GO hr MO.b .nil jM))
   (ag (cC (uz (Be (pv 4))) (aA (cV (ia aL bA bC dI (pv 2) (aq (pv 4) ao)))) bL)
   (aA (pst 3 Hs (iN (pv 0) T.cl ME.m GE r1 ME.b .nil jM (aq (cI jm (pv 1) (cq (c7 K (by rfl)) (by rfl) B.len bO (aq (pv 2) ao))) ao)))))))
  (aA (bD (cW (aq (pv 2) (aq (pv 3) ao))))))),?_⟩
 have eH:∀{G:Hp} {r':RS} {ex':Ex},mw CC CS Ms Hb ex' G co m sl pl r'->∃dx fs,G co=Z8 (.ins CC dx fs)/\fs.lookup ("ending_due":Str)=Z7/\fs.lookup ("do_one":Str)=Z7:=fun c'=>by
  obtain⟨dx,rv,sv,h1,_⟩:=c'.hc;exact{dx,_,h1,Lm _ _ _ _ _ (by decide +kernel),Lm _ _ _ _ _ (by decide +kernel)}
 have mo:=hM.ok;refine aX (cH ?_);refine{bE _,fun rl U=>?_};refine bF ?_;dsimp only;have c0:=c.more (o:=.lst []) U (fun xs z=>by cases z);have et:upd H rl (.lst []) rl=Z8 (.lst []):=ak;have f0:bN (Hid ex H) (Hid (ex.add rl) (upd H rl (.lst []))):=by
  rw[p4 U];exact bN.refl _
 have ep:Oth ex co sl pl H (upd H rl (.lst [])):=fun a _ _ _ o e=>aN e (ay e U);have n1:co≠rl:=by
  obtain⟨dx,rv,sv,h1,_⟩:=c.hc;exact ay h1 U
 have n2:sl≠rl:=by
  obtain⟨ss,h1,_⟩:=c.hs;exact ay h1 U
 have n3:pl≠rl:=by
  obtain⟨ss,h1,_⟩:=c.hp;exact ay h1 U
 have eo:Hb rl=Z7:=by
  cases z:Hb rl with
  |none=>rfl
  |some o=>
   have y:=(c.sm _ _ z).2.2.2;rw[U]at y
   cases y
 revert c0 et f0 ep;generalize upd H rl (.lst [])=G0;intro c0 et f0 ep;refine aX (cH ?_);refine Z0 fun Gz gz=>?_;obtain⟨dx,fs,J,fw,eD⟩:=eH c0;refine gz ?_;refine{_,Z9,co,dx,fs,Z9,J,fw,_,Z9,Ms,Hb,ex.add rl,co,m,sl,pl,r,Z,Z9,c0,fun en G1 s1 ft=>?_};refine bF ?_;dsimp only;refine aX ?_;refine yT (fun σ G=>∃(i:Nat) (en:V) (u4:Option V) (Y:List V),σ=[Z8 (.ref co),Z8 (.int Z),Z8 (.ref rl),Z8 en,u4]/\(∀j,j<i->ROk Ms.length (itR Ms r j).1/\j6 (itR Ms r j).1 (Z-(itR Ms r j).2.length)=Z7)/\mw CC CS Ms Hb (ex.add rl) G co m sl pl (itR Ms r i).1 /\
   G rl=Z8 (.lst Y)/\aO (RcIn (Hid (ex.add rl) G)) Y (itR Ms r i).2/\bN (Hid ex H) (Hid (ex.add rl) G)/\Oth ex co sl pl H G/\(itR Ms r i).1.pd.length<=1000000+5000*(itR Ms r i).2.length /\
   ((j6 (itR Ms r i).1 (Z-(itR Ms r i).2.length)=Z7/\en=.non)\/∃e,j6 (itR Ms r i).1 (Z-(itR Ms r i).2.length)=Z8 e/\q5 (Hid (ex.add rl) G) en e)) rMu ?_ ?_ ?_
 ·refine{0,en,_,[],Z9,fun j hj=>absurd hj (iP _),c0.same s1,s1 _ _ et,.nil,f0.trans (ir s1),fun a q1 q2 q3 o e=>s1 _ _ (ep a q1 q2 q3 o e),by show r.pd.length<=_;omega,?_};have e0:Z-(((itR Ms r 0).2.length:Nat):Int)=Z:=by
   show Z-((0:Nat):Int)=Z;omega
  rw[e0];exact ft
 ·clear ft;intro σ G qz;refine Z0 fun Gz gz=>?_;obtain⟨i,en,u4,Y,rfl,hj,c1,fe,eL,f1,ej,dz,hd⟩:=qz;refine gz ?_;have dL:=aM eL
  rcases hd with⟨hd,rfl⟩|⟨e,hd,ft⟩
  ·obtain⟨d1,d2,d3⟩:=zM hd;have si:=Cc mo c1.ok d2;obtain⟨fa,ei⟩:=zN si;refine{_,Z9,_,Z9,eM ?_};refine aX (cH ?_);refine Z0 fun Gz gz=>?_;obtain⟨dx,fs,J,fw,eD⟩:=eH c1;refine gz ?_;refine{_,Z9,co,dx,fs,Z9,J,eD,Ms,Hb,ex.add rl,co,m,sl,pl,_,Z9,hM,c1,d1,d2,by omega,fun v G2 c2 f2 ek tl=>?_};refine bF ?_;dsimp only;have I:G2 rl=Z8 (.lst Y):=ek rl n1.symm n2.symm n3.symm _ fe;have ey:Oth ex co sl pl H G2:=fun a q1 q2 q3 o e=>ek a q1 q2 q3 o (ej a q1 q2 q3 o e);have el:rMu [Z8 (.ref co),Z8 (.int Z),Z8 (.ref rl),Z8 .non,u4] G=1+(2000-Y.length):=Cd rfl rfl fe;have big:2000<aG:=by decide
   have fb:itR Ms r (i+1)=((gT Ms (itR Ms r i).1).1,(itR Ms r i).2++(gT Ms (itR Ms r i).1).2):=rfl;have em:∀j,j<i+1->ROk Ms.length (itR Ms r j).1/\j6 (itR Ms r j).1 (Z-(itR Ms r j).2.length)=Z7:=fun j dG=>by
    rcases tP j i with z|z
    ·exact hj j z
    ·have:j=i:=by omega
     rw[this];exact⟨c1.ok,hd⟩
   rcases ei with⟨q,eq⟩|⟨eq,sp,ed⟩
   ·rw[eq]at tl fa;obtain⟨M,eh⟩:∃M,v=.ref M:=by
     obtain⟨M,_,_,_,_,_,_,_,e,_⟩:=tl;exact⟨M,e⟩
    subst eh;refine aX ?_;refine{_,Z9,_,Z9,eM ?_};refine{_,Z9,.inl {Z9,_,SqL.of I},_,Z9,rl,Y,.ref M,Z9,Z9,I,by omega,?_};have c3:=c2.upd (a:=rl) (o:=.lst (Y++[.ref M])) Ex.here eo n1 n2 n3 (fun xs z=>by cases z);have O:upd G2 rl (.lst (Y++[.ref M])) rl=Z8 (.lst (Y++[.ref M])):=ak;have f3:Hid (ex.add rl) (upd G2 rl (.lst (Y++[.ref M])))=Hid (ex.add rl) G2:=iC Ex.here;have eu:Oth ex co sl pl H (upd G2 rl (.lst (Y++[.ref M]))):=fun a q1 q2 q3 o e=>aN (ey a q1 q2 q3 o e) (ay e U);have W:aO (RcIn (Hid (ex.add rl) (upd G2 rl (.lst (Y++[.ref M]))))) (Y++[.ref M]) (itR Ms r (i+1)).2:=by
     rw[f3,fb,eq];exact cS (Paired.mono (fun _ _ z=>z.same f2) eL) tl
    have er:bN (Hid ex H) (Hid (ex.add rl) (upd G2 rl (.lst (Y++[.ref M])))):=by
     rw[f3];exact f1.trans f2
    have R:mw CC CS Ms Hb (ex.add rl) (upd G2 rl (.lst (Y++[.ref M]))) co m sl pl (itR Ms r (i+1)).1:=c3;revert R O eu W er;clear c3 f3;generalize upd G2 rl (.lst (Y++[.ref M]))=G3;intro O eu W er R;have l3:=aM W;dsimp only;refine cH ?_;obtain⟨dx,fs,J,fw,eD⟩:=eH R;refine{_,Z9,co,dx,fs,Z9,J,fw,_,Z9,_,Z9,rl,_,Z9,.inl (SqL.of O),_,_,Z9,Z9,Ms,Hb,ex.add rl,co,m,sl,pl,_,_,Z9,R,fun ez G4 s4 g=>?_};refine bF ?_;dsimp only;refine{{i+1,ez,_,_,Z9,em,R.same s4,s4 _ _ O,Paired.mono (fun _ _ z=>z.same (ir s4)) W,er.trans (ir s4),fun a q1 q2 q3 o e=>s4 _ _ (eu a q1 q2 q3 o e),?_,?_},?_}
    ·rw[fb,eq,aB];show (gT Ms (itR Ms r i).1).1.pd.length<=_;show _<=1000000+5000*((itR Ms r i).2.length+1);simp only[cw,cY]at fa;omega
    ·rw[<- l3];exact g
    ·rw[el]
     rcases g with⟨_,rfl⟩|⟨e,_,he⟩
     ·rw[Cd rfl rfl (s4 _ _ O),aB];simp only[cw,cY];omega
     ·obtain⟨t,rfl⟩:=he.ref;rw[Ce rfl];omega
   ·rw[eq]at tl fa;have tl:v=.non:=tl;subst tl;refine aX ?_;refine{_,Z9,_,Z9,dP (A4 ?_)};dsimp only;have R:mw CC CS Ms Hb (ex.add rl) G2 co m sl pl (itR Ms r (i+1)).1:=c2;have W:aO (RcIn (Hid (ex.add rl) G2)) Y (itR Ms r (i+1)).2:=by
     rw[fb,eq,cB];exact Paired.mono (fun _ _ z=>z.same f2) eL
    have l3:=aM W;refine cH ?_;obtain⟨dx,fs,J,fw,eD⟩:=eH R;refine{_,Z9,co,dx,fs,Z9,J,fw,_,Z9,_,Z9,rl,_,Z9,.inl (SqL.of I),_,_,Z9,Z9,Ms,Hb,ex.add rl,co,m,sl,pl,_,_,Z9,R,fun ez G4 s4 g=>?_};refine bF ?_;dsimp only;have ew:∃e,j6 (itR Ms r (i+1)).1 (Z-(Y.length:Int))=Z8 e/\q5 (Hid (ex.add rl) G4) ez e:=by
     rcases g with⟨z,_⟩|z
     ·have y:j6 (itR Ms r (i+1)).1 (Z-(Y.length:Int))=Z8 (.stp sp):=NJ ed;rw[y]at z
      cases z
     ·exact z
    refine{{i+1,ez,_,_,Z9,em,R.same s4,s4 _ _ I,Paired.mono (fun _ _ z=>z.same (ir s4)) W,(f1.trans f2).trans (ir s4),fun a q1 q2 q3 o e=>s4 _ _ (ey a q1 q2 q3 o e),?_,?_},?_}
    ·rw[fb,eq,cB];show (gT Ms (itR Ms r i).1).1.pd.length<=1000000+5000*(itR Ms r i).2.length;simp only[cY]at fa;omega
    ·rw[<- l3];exact .inr ew
    ·rw[el];obtain⟨e,_,he⟩:=ew;obtain⟨t,rfl⟩:=he.ref;rw[Ce rfl];omega
  ·obtain⟨t0,rfl⟩:=ft.ref;refine{_,Z9,_,Z9,dP ?_};dsimp only;refine oW ?_;refine{_,Z9,_,Z9,lt2,fun t ht=>?_};have fo:=aH ht (.tup [.ref rl,.ref t0]);have f5:bN (Hid (ex.add rl) G) (Hid ex (upd G t (.tup [.ref rl,.ref t0]))):=(ir fo).trans zL;have eb:rl∉ex:=fun z=>by
    obtain⟨o,e,_⟩:=c.nt rl z;rw[U]at e
    cases e
   have ef:∀a∈ex,∃o,upd G t (.tup [.ref rl,.ref t0]) a=Z8 o/\∀xs,o≠.tup xs:=fun a ha=>by
    obtain⟨o,e,n⟩:=c1.nt a (Ex.more ha);exact{o,fo _ _ e,n}
   exact k _ t i e {⟨hj,hd,c1.ok⟩,(c1.same fo).less n1 n2 n3,f1.trans f5,fun a q1 q2 q3 o e=>fo _ _ (ej a q1 q2 q3 o e),rl,_,Y,gP ef ak,by rw[fJ eb];exact fo _ _ fe,U,Paired.mono (fun _ _ z=>z.same f5) eL,ft.same f5}
 ·rintro σ G4 Q1 Q2 hq ⟨x,hx,c,ec,z⟩;exact{x,hx,c,ec,hq _ _ z}
end
def st0(M:MD):Sta:={M.ps,M.qs.map fun q=>(q,[]),0,0}
def og(es:List Ev):List Ev:=es.mapIdx fun i e=>atP e i
def qF(Ms:List MD)(es:List Ev):RS:={Ms.map st0,oO (og es) [],Z7,Z7}
theorem jy{Z Y:Type}{R:Z->Y->Prop}:∀{xs:List Z} {ys:List Y},xs.length=ys.length->(∀(i:Nat) x y,xs[i]?=Z8 x->ys[i]?=Z8 y->R x y)->aO R xs ys
 | [],[],_,_=>.nil
 | [],_::_,l,_=>by cases l
 |_::_,[],l,_=>by cases l
 |x::xs,y::ys,l,h=>.cons (h 0 x y rfl rfl) (jy (by simpa using l) fun i a b ha hb=>h (i+1) a b (by simpa using ha) (by simpa using hb))
theorem kI(es:List Ev):(og es).length=es.length:=List.length_mapIdx
theorem qx{es:List Ev}{i:Nat}{x:Ev}(h:(og es)[i]?=Z8 x):∃e,es[i]?=Z8 e/\x=atP e i:=by
 unfold og at h;rw[qM]at h
 cases z:es[i]? with
 |none=>
  rw[z]at h
  cases h
 |some e=>
  rw[z]at h;injection h with h;subst h;exact⟨e,Z9,Z9⟩
theorem Cf(es:List Ev):(og es).Pairwise (fun a b=>a.key≠b.key):=by
 refine dA.mpr fun i j hi Z lt=>?_;obtain⟨e,_,h1⟩:=qx (aI hi);obtain⟨Y,_,h2⟩:=qx (aI Z);rw[h1,h2];refine vh (.inr ?_);show (i:Int)≠(j:Int)
 lia
theorem yl{Ms:List MD}{es:List Ev}(h:∀e∈es,Dt Ms.length e):ROk Ms.length (qF Ms es):=by
 refine{ai _,qv List.Pairwise.nil (fun x _ y hy=>by cases hy) (Cf es),fun e Z=>?_,fun e Z=>?_}
 ·rcases bY.mp ((gF _ _).mem_iff.mp Z) with z|z
  ·obtain⟨i,hi⟩:=cz z;obtain⟨Y,h',rfl⟩:=qx hi;obtain⟨a,b,c,d,f⟩:=h Y (bJ h');exact⟨a,b,c,d,f⟩
  ·cases z
 ·rcases bY.mp ((gF _ _).mem_iff.mp Z) with z|z
  ·obtain⟨i,hi⟩:=cz z;obtain⟨Y,h',rfl⟩:=qx hi;exact .inl rfl
  ·cases z
theorem New.sta{H H':Hp}{CS st dx W Y:ae}{Z:List ae}{M:MD}(N:New H H' CS st M.ps M.qs dx W Y Z)(R:(M.ps.map (·.1)).Nodup)(U:M.qs.Nodup):StA CS H' st (st0 M):=by
 have inj:∀xs:List Str,xs.Nodup->(xs.map (Sum.inr:Str->Key)).Nodup:=fun xs h=>List.Pairwise.map _ (fun a b z y=>z (zu y)) h;refine{dx,W,Y,M.qs.zip Z,N.hst,?_,?_,?_}
 ·have z:H' W=Z8 (.dK (qK (boK M.ps) [])):=N.hbd;have e:qK (boK M.ps) []=boK M.ps:=by
   rw[AJ]
   ·simp_all
   ·rw[JX];unfold boK;rw[eI];have:=inj _ R;rw[eI]at this;exact this
  rw[e]at z;exact z
 ·have z:H' Y=Z8 (.dK (qK (quK (M.qs.zip Z)) [])):=N.hqd;have e:qK (quK (M.qs.zip Z)) []=quK (M.qs.zip Z):=by
   rw[AJ]
   ·simp_all
   ·rw[JX];unfold quK;rw[eI];have O:(M.qs.zip Z).map ((fun x:Key×V=>x.1) ∘ fun p:Str×ae=>((Sum.inr p.1:Key),V.ref p.2))=((M.qs.zip Z).map (·.1)).map (Sum.inr:Str->Key):=by
     rw[eI];rfl
    rw[O,List.map_fst_zip (N.len ▸ aF _)];exact inj _ U
  rw[e]at z;exact z
 ·refine jy ?_ fun i x y hx hy=>?_
  ·show _=((M.qs.map fun q=>(q,([]:List Int)))).length;rw[vz,ai,N.len,Nat.min_self]
  ·have hx:=xK.mp hx;have hy:(M.qs.map fun q=>(q,([]:List Int)))[i]?=Z8 y:=hy;rw[bM,hx.1]at hy;injection hy with hy;subst hy;exact{Z9,(N.li _ (bJ hx.2)).2}
theorem jg{H:Hp}{a:ae}(n:H a=Z7):a∉({[],H}:Ex):=fun z=>z.elim (fun y=>by cases y) fun⟨o,e,_⟩=>by
 have e:H a=Z8 o:=e;rw[n]at e
 cases e
theorem New.hid{H0 H H':Hp}{CS st dx W Y:ae}{V:List ae}{ps:List (Str×Int)}{qs:List Str}(s:bN H0 H)(N:New H H' CS st ps qs dx W Y V):New (fun _=>Z7) (Hid {[],H0} H') CS st ps qs dx W Y V:=
 {by rw[fJ (jg (none_of s N.ost))];exact N.hst,by rw[fJ (jg (none_of s N.obd))];exact N.hbd,by rw[fJ (jg (none_of s N.oqd))];exact N.hqd,N.len,N.nd,fun l Z=>{Z9,by rw[fJ (jg (none_of s (N.li l Z).1))];exact (N.li l Z).2},Z9,Z9,Z9,N.ne,fun a o e=>by cases e}
theorem Ht{H G G':Hp}{l:List ae}(s:bN G G'):bN (Hid ⟨l,H⟩ G) (Hid {[],H} G'):=fun a o e=>by
 have Z:a∉({[],H}:Ex):=fun z=>j7 e (z.elim (fun y=>by cases y) .inr);rw[fJ Z];exact s _ _ (eA _ _ e)
theorem A5{H G G':Hp}{l:List ae}(s:bN G G')(n:∀a∈l,G a=Z7):bN (Hid {[],H} G) (Hid ⟨l,H⟩ G'):=fun a o e=>by
 have Z:=eA _ _ e;have Y:a∉(⟨l,H⟩:Ex):=fun z=>z.elim (fun y=>by rw[n a y]at Z;cases Z) fun y=>j7 e (.inr y);rw[fJ Y];exact s _ _ Z
theorem MoI.wk0{m:Int}{H:Hp}{v:V}{M:MD}(h:MoI m H v M):m5 M.bs M.qs (st0 M).w:=by
 refine{h.kb,?_,h.nb,h.nq,fun p hp=>?_,fun p hp=>?_,ji,(fun x hx=>by cases hx),ji,(fun x hx=>by cases hx),(fun x hx=>by cases hx),?_}
 ·show (M.qs.map fun q=>(q,([]:List Int))).map (·.1)=_;rw[eI];exact List.map_id _
 ·have:=h.wb p hp;unfold Wo;omega
 ·obtain⟨q,_,rfl⟩:=cD.mp hp;exact{bE _,fun n Z=>by cases Z}
 ·rw[aB];have:=h.lb;have:=h.lq;omega
section
variable{P:aQ}{w:bU}{K:af}{mg:Str->Option aj}{base:cG}{f fI fF fPf fA fR fBk CC CM CS CB:ae}{fd fdI fdF fdPf fdA fdR fdBk:cm}
seal PS PSs PE PA PT PW PI PG PGs PC
inductive Lq(CC:ae)(vs:List V)(H:Hp)(Q:VK)(_e:XK):Prop where
 |mk(b dx:ae)(m s p:V)(_:vs=[.ref b,m,s,p])(_:H b=Z8 (.ins CC dx []))(_:∀G,G b=Z8 (.ins CC dx (j8 m s p .non .non))->But b H G->Q .non G):Lq CC vs H Q _e
def spCI(CC:ae):Sp:=fun vs H Q Z=>Lq CC vs H Q Z
theorem scCI:bX ["self","model","states","pending"] ["self","model","states","pending"] (aT mZ):=eQ
theorem ok_ci(F:Fun K "__init__" "Course.__init__" mZ f fd)(T:CoT K mg CC):cg P w K mg base CX0 1 f fd ["self","model","states","pending"] (spCI CC):=by
 refine F.ok scCI (fun vs H Q E h=>?_) (fun Z A outer s H vs Q E V h=>?_)
 ·obtain⟨b,dx,m,s',p,rfl,_⟩:=h;rfl
 obtain⟨b,dx,m,s',p,rfl,hb,k⟩:=h;refine{_,ag (gm (pv 0) (pv 1) rfl) (ag (gm (pv 0) (pv 2) rfl) (ag (gm (pv 0) (pv 3) rfl) (ag (gm (pv 0) xo rfl) (aA (gm (pv 0) xo rfl))))),?_};have Y:=ik "model" m [];have U:=ik "states" s' (dS "model" m []);have W:=ik "pending" p (dS "states" s' (dS "model" m []));have R:=ik "reached" .non (dS "pending" p (dS "states" s' (dS "model" m [])));simp at Y;exact{_,Z9,_,Z9,b,CC,dx,[],Z9,hb,T.cl,T.nM,(by decide),_,Z9,_,Z9,b,CC,dx,_,Z9,ak,T.cl,T.nS,(by omega),_,Z9,_,Z9,b,CC,dx,_,Z9,ak,T.cl,T.nP,(by omega),{_,Z9,b,CC,dx,_,Z9,ak,T.cl,T.nR,(by omega),_,Z9,b,CC,dx,_,Z9,ak,T.cl,T.nE,(by omega),k _ ak (((((But.upd b H _).trans (But.upd b _ _)).trans (But.upd b _ _)).trans (But.upd b _ _)).trans (But.upd b _ _))}}
inductive Hu(CC CM CS:ae)(vs:List V)(H:Hp)(Q:VK)(_e:XK):Prop where
 |mk(Ms:List MD)(m sgl:ae)(svs:List V)(es:List Ev)(_:vs=[.ref m,.ref sgl])(_:vU CM Ms H m)(_:Ms.length<1000)(_:H sgl=Z8 (.lst svs))(_:aO (nY H) svs es)(_:es.length<64)(_:(∀e∈es,Dt Ms.length e))(_:∀(G:Hp) (co sl pl:ae),mw CC CS Ms H ⟨[co,sl,pl],H⟩ G co m sl pl (qF Ms es)->Q (.ref co) G):Hu CC CM CS vs H Q _e
def Lr(CC CM CS:ae):Sp:=fun vs H Q Z=>Hu CC CM CS vs H Q Z
abbrev nCa:List Str:=["model","signs","states"]
theorem scCa:bX nCa ["model","signs"] (aT gZ):=eQ
theorem ndCa:((["at"]:List Str)++nCa).Nodup:=by decide +kernel
theorem NM(D:Df K mg "course_at_first" gZ ["model","signs"] f fd)(DF:Df K mg "first_state" kj ["model","at"] fF fdF)(GF:cg P w K mg base CX0 3 fF fdF ["model","at"] (zq CM CS))(dV:Df K mg "pending_at_first" fv ["signs"] fPf fdPf)(eb:cg P w K mg base CX0 1 fPf fdPf ["signs"] F6)
  (MC:Mk K CC fI) (bI:Binds K fdI ["self","model","states","pending"] []) (GI:cg P w K mg base CX0 1 fI fdI ["self","model","states","pending"] (spCI CC)) (T:CoT K mg CC) (TM:MdT K mg CM CS) (B:Bl mg) (BS:mg "sorted"=Z7) :
  cg P w K mg base CX0 4 f fd ["model","signs"] (Lr CC CM CS):=by
 refine D.F.ok scCa (fun vs H Q E h=>?_) (fun dp A outer s H vs Q E hr h=>?_)
 ·obtain⟨Ms,m,em,et,es,rfl,_⟩:=h;rfl
 obtain⟨Ms,m,em,et,es,rfl,hM,du,dz,dL,dt,er,k⟩:=h;have r3:e8 3 _:=hr.mono (by decide);refine⟨_,ag (xO (i:=2) ["at"] (iU.open (N:=nCa) (sc:=aT gZ) rfl rfl (by decide +kernel) rfl (by decide +kernel) (by decide +kernel) rfl (by decide +kernel)) rfl scCa.nd rfl (Or.inl rfl) (jE (by rfl) B.range (aq (cq (c7 K (by rfl)) (by rfl) B.len bO (aq (yc K (by rfl) (pv 0) (by rfl)) ao)) ao)) (fun _ _ _ _=>iw (i:=0) ndCa rfl (Or.inl rfl)) (fun _ _ _ _=>mI)
   (fun _ _ _ _=>pcl GF r3 DF (aq (pv 1) (aq (pv 0) ao))))
  (aA (bD (p9 MC GI (hr.mono (by decide)) (by rfl) T.m bI .nil jM (aq (pv 0) (aq (pv 2) (aq (He (fY (gC (by decide:5<=50) _) (E8 hr)) (by rfl) BS (aq (pcl eb (hr.mono (by decide)) dV (aq (pv 1) ao)) ao) km) ao)))))),?_⟩
 refine Z0 fun Gz gz=>?_;obtain⟨ed,ml,fs,hm,eo,xs,ei,eu⟩:=id hM;refine gz ?_;have ea:=aM eu;have big:=dW;refine aX (cH (Di rfl hm TM.clM TM.nM eo ei (by omega) (fun i ys G=>∃g:List ae,ys=g.map V.ref/\bN H G/\aO (StA CS (Hid {[],H} G)) g ((Ms.take i).map st0)) {[],Z9,bN.refl _,by rw[dE];exact .nil} ?_ ?_ ?_))
 ·rintro i ys G hi ⟨g,rfl,Z,p1⟩;have:=aM p1;rw[ai,cL]at this;rw[ai];omega
 ·rintro i ys G hi ⟨g,rfl,Z,p1⟩;refine Z0 fun Gz gz=>?_;obtain⟨Mi,ep⟩:∃M,Ms[i]?=Z8 M:={_,aI (by omega)};obtain⟨x,hx,I⟩:=gi eu ep;obtain⟨t,bl,ql,n0,x3,x4,vb,rfl,g1,g2,g3,g4⟩:=I.fs;refine gz ({Z9,?_});unfold xM;refine eM ?_;have lb:Mi.ps.length<=100:=by
   have e:=congrArg jK I.kb;rw[ai]at e;have:=I.lb;omega
  have lq:Mi.qs.length<=100:=by
   have:=I.lq;omega
  refine{_,Z9,_,Z9,m,ed,ml,t,bl,ql,fs,n0,x3,x4,i,xs,vb,Mi.ps,Mi.qs,by rw[A6];rfl,Z _ _ hm,eo,Z _ _ ei,hx,Z _ _ g1,Z _ _ g2,g3.same Z,lb,Z _ _ g4,lq,fun st dx bd qd ls G' N=>{g++[st],by rw[aU];rfl,Z.trans N.same,?_}};rw[dh,ep,aU];exact cS (Paired.mono (fun _ _ z=>lZ.same' (ir N.same) z) p1) ((N.hid Z).sta (by rw[I.kb];exact I.nb) I.nq)
 rintro ys G ⟨g,rfl,Z,p1⟩;rw[ea,cF]at p1;intro sl ew;have Y:=aH ew (.lst (g.map V.ref));refine bF ?_;dsimp only;refine oW (FZ ({_,Z9,_,Z9,_,Z9,em,et,es,Z9,Y _ _ (Z _ _ dz),Paired.mono (fun _ _ z=>(z.same Z).same Y) dL,by omega,fun G1 l0 ys W dn dw ly hy=>?_}));have ee:aO (fH G1) ys (og es):=jy (by rw[kI];exact ly) fun i y e eh he=>by
  obtain⟨e',h',rfl⟩:=qx he;exact hy i y e' eh h'
 obtain⟨z1,z2,z3⟩:=vn ee;refine{l0,(ys.zip (og es)).map fun u=>(u.1,u.2.key),Z9,?_,fun z hz=>?_,?_,?_,fun pl dl ez pm fz=>?_}
 ·rw[eI];have:((fun x:V×List Int=>x.1) ∘ fun u:V×Ev=>(u.1,u.2.key))=(fun u:V×Ev=>u.1):=rfl;rw[this,z1];exact dw
 ·obtain⟨u,hu,rfl⟩:=cD.mp hz;exact A2 (z3 u hu)
 ·rw[eI];have:((fun x:V×List Int=>x.2) ∘ fun u:V×Ev=>(u.1,u.2.key))=Ev.key ∘ (fun u:V×Ev=>u.2):=rfl;rw[this,<- eI,z2];exact nU.mpr (Cf es)
 ·rw[ai,vz,kI];omega
 obtain⟨ps,dG,ec⟩:=xg z3 pm fz (by
  rw[z2];have:=gF (og es) [];rw[cB]at this;exact this.symm) (yl er).fall
 rw[dG];have J:=aH ez (.lst ps);have ey:=W _ _ (ak:upd G sl (.lst (g.map V.ref)) sl=_);intro co el U ef dq;have O:=J _ _ ey;have R:upd G1 pl (.lst ps) pl=Z8 (.lst ps):=ak;have sA:=(Z.trans (Y.trans W)).trans J;refine{co,el,_,_,_,Z9,ak,fun G' ej but=>{Z9,?_}};have sB:bN (upd G1 pl (.lst ps)) G':=fun a o e=>but _ _ (aN (aN e (ay e ef)) (ay e U)) (ay e U);have fG:∀a∈[co,sl,pl],G a=Z7:=fun a ha=>by
  simp only[aE,e7,or_false]at ha
  rcases ha with rfl|rfl|rfl
  ·exact none_of ((Y.trans W).trans J) U
  ·exact ew
  ·exact none_of (Y.trans W) ez
 have ek:∀a∈({[co,sl,pl],H}:Ex),∃o,G' a=Z8 o/\∀xs,o≠.tup xs:=fun a ha=>by
  rcases ha with ha|⟨o,e,n⟩
  case inr=>exact{o,(sA.trans sB) _ _ e,n}
  simp only[aE,e7,or_false]at ha
  rcases ha with rfl|rfl|rfl
  ·exact{_,ej,fun xs z=>by cases z}
  ·exact{_,sB _ _ O,fun xs z=>by cases z}
  ·exact{_,sB _ _ R,fun xs z=>by cases z}
 refine k G' co sl pl {yl er,fun b o e=>{ay e (none_of sA U),ay e (none_of Z ew),ay e (none_of (Z.trans (Y.trans W)) ez),(sA.trans sB) _ _ e},.inl (by simp),.inl (by simp),.inl (by simp),(ay O U).symm,(ay R U).symm,(ay ey ez),{el,_,_,ej,Z9,Z9},{g,sB _ _ O,Paired.mono (fun _ _ z=>lZ.same' (A5 (((Y.trans W).trans J).trans sB) fG) z) p1},{ps,sB _ _ R,Paired.mono (fun _ _ z=>fH.hid ek (z.same (J.trans sB))) ec},fun i M s hi hs=>?_,ek};have hs:(Ms.map st0)[i]?=Z8 s:=hs;rw[bM,hi]at hs;injection hs with hs;subst hs;obtain⟨x,_,I⟩:=gi eu hi;exact I.wk0
structure vp(CB CS:ae)(G:Hp)(b:ae)(q:RS×List Rec)(e:End):Prop where
 ex:∃(dx rl sl:ae) (en:V) (rvs:List V) (ss:List ae),G b=Z8 (.ins CB dx (Gk (.ref rl) en (.ref sl)))/\G rl=Z8 (.lst rvs)/\aO (RcIn G) rvs q.2/\q5 G en e/\G sl=Z8 (.lst (ss.map V.ref))/\aO (StA CS G) ss q.1.sts
inductive Hv(CM CS CB:ae)(vs:List V)(H:Hp)(Q:VK)(_e:XK):Prop where
 |mk(Ms:List MD)(m sgl:ae)(svs:List V)(es:List Ev)(most:Int)(_:vs=[.ref m,.ref sgl,.int most])(_:vU CM Ms H m)(_:Ms.length<1000)(_:H sgl=Z8 (.lst svs))(_:aO (nY H) svs es)(_:es.length<64)(_:(∀e∈es,Dt Ms.length e))(_:most<=1000)(_:∀(G:Hp) (b:ae) (i:Nat) (e:End),bN H G->xh Ms (qF Ms es) most i e->vp CB CS (Hid ⟨[],H⟩ G) b (itR Ms (qF Ms es) i) e->Q (.ref b) G):Hv CM CS CB vs H Q _e
def Ls(CM CS CB:ae):Sp:=fun vs H Q Z=>Hv CM CS CB vs H Q Z
theorem NO:bX ["model","signs","most","course","told"] ["model","signs","most"] (aT uh):=eQ
theorem NP(D:Df K mg "plain" uh ["model","signs","most"] f fd)(DA:Df K mg "course_at_first" gZ ["model","signs"] fA fdA)(GA:cg P w K mg base CX0 4 fA fdA ["model","signs"] (Lr CC CM CS))(DR:Df K mg "run_on" rN ["course","most"] fR fdR)(GR:cg P w K mg base CX0 39 fR fdR ["course","most"] (Lp CC CM CS))
  (MB:Mk K CB fBk) (bB:Binds K fdBk ["self","records","ending","states"] []) (GB:cg P w K mg base CX0 1 fBk fdBk ["self","records","ending","states"] (spBk CB)) (TB:BkT K mg CB) (T:CoT K mg CC) :
  cg P w K mg base CX0 40 f fd ["model","signs","most"] (Ls CM CS CB):=by
 refine D.F.ok NO (fun vs H Q E h=>?_) (fun cb A outer s H vs Q E hr h=>?_)
 ·obtain⟨Ms,m,I,O,es,Y,rfl,_⟩:=h;rfl
 obtain⟨Ms,m,I,O,es,Y,rfl,hM,U,cp,cd,ck,ci,V,k⟩:=h;refine⟨_,ag (pst 3 NO (pcl GA (hr.mono (by decide)) DA (aq (pv 0) (aq (pv 1) ao))))
  (ag (pst 4 NO (pcl GR hr DR (aq (pv 3) (aq (pv 2) ao))))
  (aA (bD (p9 MB GB (hr.mono (by decide)) (by rfl) TB.m bB .nil jM (aq (aP aY (pv 4) ah) (aq (aP aY (pv 4) ah) (aq (cK (pv 3) rfl) ao))))))),?_⟩
 refine aX (cH ({_,Z9,_,Z9,Ms,m,I,O,es,Z9,hM,U,cp,cd,ck,ci,fun G co sl pl c=>bF ?_}));dsimp only;refine aX (cH ({_,Z9,_,Z9,Ms,H,{[co,sl,pl],H},co,m,sl,pl,_,Y,Z9,hM,c,V,?_,fun B t i e R=>?_}))
 ·show (oO (og es) []).length<=1000000;rw[(gF _ _).length_eq,cB,kI];omega
 refine bF ?_;dsimp only;refine Z0 fun Gz gz=>?_;obtain⟨rl,en,g,h1,h2,_,h3,h4⟩:=R.rs;obtain⟨dx,rv,sv,h5,_⟩:=R.cc.hc;obtain⟨ss,h6,h7⟩:=R.cc.hs;refine gz ?_;have hl:bN (Hid {[co,sl,pl],H} B) B:=eA;have M:bN H B:=fun a o e=>(R.cc.sm a o e).2.2.2;have cn:H sl=Z7:=by
  cases z:H sl with
  |none=>rfl
  |some o=>exact absurd rfl (R.cc.sm _ _ z).2.1
 refine oW (FZ ({_,Z9,t,_,_,_,Z9,Z9,SqT.of (hl _ _ h1),Z9,_,Z9,t,_,_,_,Z9,Z9,SqT.of (hl _ _ h1),Z9,_,Z9,co,CC,dx,_,_,Z9,h5,T.cl,T.nS,NA _ _ _ _ _,fun b J hb cj nb=>{b,J,_,_,_,Z9,ak,fun G' ce but=>{Z9,?_}}}));have W:bN B G':=fun a o e=>but _ _ (aN (aN e (ay e cj)) (ay e hb)) (ay e hb);have Z:bN (Hid {[co,sl,pl],H} B) (Hid {[],H} G'):=Ht W;exact k G' b i e (M.trans W) R.st {J,rl,sl,en,g,ss,by rw[fJ (jg (none_of M hb))];exact ce,Z _ _ h2,Paired.mono (fun _ _ z=>z.same Z) h3,h4.same Z,by rw[fJ (jg cn)];exact W _ _ h6,Paired.mono (fun _ _ z=>lZ.same' Z z) h7}
end
end My
namespace L2
open PySem PySem.Spec PyProof.Rows
def Itk(d:ae)(od:Obj)(kvs:List (Key×V)):It:=
 {fun i H=>H d=Z8 (.frz od (.dK kvs))/\i<kvs.length,fun i H x H'=>H'=H/\∃Z,kvs[i]?=Z8 Z/\x=kV Z.1,fun i H=>H d=Z8 (.frz od (.dK kvs))/\kvs.length<=i}
section
variable{P:aQ}{w:bU}{K:af}
theorem Dz{tg:c8}(d it:ae)(od:Obj)(kvs:List (Key×V)):Ac P w K tg (Itk d od kvs) [it] it (fun i h=>h.IsKeyIter it d i kvs.length (Fc od)) where
 mem:=by simp
 obj:=fun i h st b hb=>by
  have e:b=it:=by simpa using hb
  subst e;obtain⟨o,e,c,d⟩:=st;exact{o,e,fun v z=>by rw[d]at z;cases z}
 keep:=fun i h h' st k=>st.at fun o e=>k it (by simp) o e
 item:=by
  intro X t hw D hc i pins s σ H E I U st O;refine Z0 fun Gz J=>?_;subst t hw D;obtain⟨M,hi⟩:=O;obtain⟨vs,r,R⟩:=sM I M;have W:=r.length;have Y:=aI hi;obtain⟨u,hu,ru⟩:=r.at_ Y;obtain⟨B,f1,f2,G,g,f⟩:=U it (by simp);refine J ?_;rw[W]at st;refine wpAny_pyNext_dict_item st R hu fun key h' hk Z sb=>?_;obtain⟨o,e,c,dd⟩:=id Z;exact{key,Z9,Bf e c dd (by decide) {kV kvs[i].1,H,(I.turned (t':=s.toks) (fun b o hb e=>(sb.2 b hb).trans e) B f1 G g f),Fb hk,{Z9,_,Y,Z9},by rw[W];exact Z,fun b hb=>(U b hb).1}}
 done:=by
  intro X t hw D hc i pins s σ H E I U st O;refine Z0 fun Gz J=>?_;subst t hw D;obtain⟨M,hi⟩:=O;obtain⟨vs,r,R⟩:=sM I M;have W:=r.length;obtain⟨B,f1,f2,G,g,f⟩:=U it (by simp);refine J ?_;rw[W]at st;exact wpAny_pyNext_dict_end (I.ok.hd hc) st R (iR (by lia)) fun h' eb=>{Z9,I.turned (t':=s.toks) (fun b o hb e=>eb b o hb e) B f1 G g f}
 self:=fun _ _ _ _ _ st h=>wpAny_pyIter_keyiter st h
end
section
variable{X:Cx}{o:c8}{to:TE}{tg:c8}
def iKeys(X:Cx)(to:TE):TI:=fun σ H R=>to σ H fun x H1=>∃d kvs,x=.ref d/\H1 d=Z8 (.dK kvs)/\(∀Z u,X.H₀ d≠Z8 (.frz Z u))/\∀od,R (Itk d od kvs) (upd H1 d (.frz od (.dK kvs)))
theorem JY(D:PE X o to):PI X tg o (iKeys X to):=by
 intro pins s σ H R I h;refine thn (D pins s σ H _ I h) fun v Y J=>Z0 fun g U=>?_;obtain⟨x,H1,W,G,d,kvs,ex,V,E,q⟩:=J;subst ex;subst G;obtain⟨hz,O,ws,k1,t⟩:=(W.hok d _ V);obtain⟨od,z,Z⟩:=W.freeze V E;obtain⟨vs,r,M⟩:=sM Z (ak:upd H1 d (.frz od (.dK kvs)) d=_);refine U (wpAny_pyIter_dict O M ({Y.heap.objs.size,[Y.heap.objs.size],_,_,_,Z9,Z.kept (t':=Y.toks) fun b B q=>aK _ q,Dz d _ od kvs,?_,fun b hb=>?_,q od}))
 ·rw[r.length];exact{_,cA _ rfl,Z9,Z9}
 ·have e:=aD.mp hb;subst e;exact Z.fpOk (aF _) (Z.hok.fresh (aF _))
end
theorem Hw{d:ae}{od:Obj}{kvs:List (Key×V)}{g:TG}{tb:TS}{D:kK}{σ:St}{H:Hp}(Z:Nat->St->Hp->Prop)(I:Z 0 σ H)(J:∀i σ H,i<=kvs.length->Z i σ H->H d=Z8 (.frz od (.dK kvs)))
  (hs:∀i R σ H,kvs[i]?=Z8 R->Z i σ H->g (kV R.1) σ H fun U H2=>tb {D with nx:=Z (i+1),ct:=Z (i+1),bk:=D.nx} U H2) (G:∀σ H,Z kvs.length σ H->D.nx σ H) :
  ∃W:Nat->Nat->St->Hp->Prop,(∃m,W 0 m σ H)/\∀i m σ H,W i m σ H ->
   ((Itk d od kvs).stop i H/\D.nx σ H)\/((Itk d od kvs).go i H/\∃N:St->Hp->Prop,(∀Y H',N Y H'->∃O,O<m/\W (i+1) O Y H')/\∀x H',(Itk d od kvs).yld i H x H'->g x σ H' fun U H2=>tb {D with nx:=N,ct:=N,bk:=D.nx} U H2):=by
 refine{fun i m σ H=>m=kvs.length-i/\i<=kvs.length/\Z i σ H,{kvs.length,by simp,bE _,I},?_};rintro i m σ H ⟨rfl,hi,p⟩;have q:=J i σ H hi p
 by_cases lt:i<kvs.length
 ·refine .inr {⟨q,lt⟩,Z (i+1),fun Y H' M=>{kvs.length-(i+1),by lia,Z9,lt,M},fun x H' y=>?_};obtain⟨rfl,R,hk,rfl⟩:=y;exact hs i R σ H' hk p
 ·have e:i=kvs.length:=by lia
  subst e;exact .inl {{q,aF _},G σ H p}
end L2
namespace My
open PySem L2
theorem rY{H:Hp}{n:Nat}{p q:ae}{xs:List V}(hp:H p=Z8 (.tup xs))(hq:H q=Z8 (.tup xs))(sc:∀x∈xs,sc0 x):TEq H (n+1) (.ref p) (.ref q):=
 .inr (.inr ⟨p,q,xs,xs,Z9,Z9,hp,hq,by
  clear hp hq
  induction xs with
  |nil=>exact .nil
  |cons x xs Z=>
   refine .cons ?_ (Z fun y hy=>sc y (aa _ hy))
   cases n with
   |zero=>exact{sc x ax,Z9}
   |succ n=>exact .inl {sc x ax,Z9}⟩)
theorem p5{H:Hp}{n:Nat}{Y:Type}{R S:V->Y->Prop}(f:∀x y a,R x a->S y a->TEq H n x y):∀{xs ys:List V} {Z:List Y},aO R xs Z->aO S ys Z->aO (TEq H n) xs ys:=by
 intro xs ys Z p
 induction p generalizing ys with
 |nil=>
  intro q
  cases q;exact .nil
 |cons a b W=>
  intro q
  cases q with
  |cons c d=>exact .cons (f _ _ _ a c) (W d)
theorem JZ{H:Hp}{n:Nat}{xs ys Z Y:List V}(a:aO (TEq H n) xs ys)(b:aO (TEq H n) Z Y):aO (TEq H n) (xs++Z) (ys++Y):=by
 induction a with
 |nil=>exact b
 |cons h _ W=>exact .cons h W
theorem j9{H:Hp}{n:Nat}{x:V}(h:sc0 x):TEq H n x x:=by
 cases n with
 |zero=>exact⟨h,Z9⟩
 |succ n=>exact .inl ⟨h,Z9⟩
theorem ux{H:Hp}{n:Nat}{a b:ae}{h:Ev}(ha:H a=Z8 (vk h))(hb:H b=Z8 (vk h)):TEq H (n+1) (.ref a) (.ref b):=
 rY ha hb fun x hx=>by
  simp at hx
  rcases hx with rfl|rfl|rfl|rfl<;>trivial
theorem Hx{H:Hp}{n:Nat}{v W:V}{e:Ev}(h:fH H v e)(h':fH H W e):TEq H (n+2) v W:=by
 obtain⟨t,k,rfl,h1,h2⟩:=h;obtain⟨t',U,rfl,Z,Y⟩:=h';exact .inr (.inr {t,t',_,_,Z9,Z9,h1,Z,.cons (ux h2 Y) (.cons (j9 trivial) (.cons (j9 trivial) (.cons (j9 trivial) (.cons (j9 trivial) .nil))))})
theorem zO{H:Hp}{n:Nat}{a b:ae}{ns:List Int}(ha:H a=Z8 (.lst (ns.map V.int)))(hb:H b=Z8 (.lst (ns.map V.int))):TEq H (n+1) (.ref a) (.ref b):=
 .inr (.inl ⟨a,b,_,_,Z9,Z9,ha,hb,by
  clear ha hb
  induction ns with
  |nil=>exact .nil
  |cons x xs Z=>exact .cons (j9 trivial) Z⟩)
theorem Hy{H:Hp}{n:Nat}:∀{qs:List (Str×List Int)} {U Z:List (Str×ae)} {ws Y:List V},eN H U qs->eN H Z qs->aO (vR H) ws U->aO (vR H) Y Z->aO (TEq H (n+2)) ws Y
 | [],U,Z,ws,Y,e,g,a,c=>by
  cases e
  cases g
  cases a
  cases c;exact .nil
 |q::qs,U,Z,ws,Y,e,g,a,c=>by
  cases e with
  |cons e f=>
  cases g with
  |cons g h=>
  cases a with
  |cons a b=>
  cases c with
  |cons c d=>
  obtain⟨t,rfl,h1⟩:=a;obtain⟨t',rfl,W⟩:=c;obtain⟨J,M⟩:=e;obtain⟨O,R⟩:=g;rw[J]at h1;rw[O]at W;exact .cons (.inr (.inr {t,t',_,_,Z9,Z9,h1,W,.cons (j9 trivial) (.cons (zO M R) .nil)})) (Hy f h b d)
theorem J0{H:Hp}{n:Nat}{v f:V}{q:Rec}(h:RcIn H v q)(h':RcIn H f q):TEq H (n+4) v f:=by
 refine Z0 fun Gz gz=>?_;obtain⟨rc,k,wl,od,M,bI,vs,qa,rfl,h1,h2,h3,h4,h5,h6,h7,h8⟩:=h;obtain⟨B,k',O,W,Z,g,bG,bS,rfl,E,I,Y,J,G,U,D,R⟩:=h';refine gz ?_;have w1:aO (TEq H (n+2)) M Z:=p5 (fun x y a hx hy=>by
  obtain⟨t,rfl,z⟩:=hx;obtain⟨t',rfl,z'⟩:=hy;exact rY z z' fun x hx=>by
   simp at hx
   rcases hx with rfl|rfl<;>trivial) h4 J
 refine .inr (.inr {rc,B,_,_,Z9,Z9,h1,E,.cons (ux h2 I) (.cons (j9 trivial) (.cons (j9 trivial) (.cons (j9 trivial) (.cons (j9 trivial) (.cons ?_ (.cons ?_ .nil))))))})
 ·exact .inr (.inl {wl,O,_,_,Z9,Z9,h3,Y,JZ w1 (Hy h6 U h5 G)})
 ·exact .inr (.inl {od,W,_,_,Z9,Z9,h7,D,p5 (S:=fH H) (fun x y a hx hy=>Hx hx hy) h8 R})
theorem Hz{H:Hp}{a b:ae}{xs ys:List V}{rs:List Rec}(ha:H a=Z8 (.lst xs))(hb:H b=Z8 (.lst ys))(Y:aO (RcIn H) xs rs)(Z:aO (RcIn H) ys rs):TEq H 5 (.ref a) (.ref b):=
 .inr (.inl {a,b,xs,ys,Z9,Z9,ha,hb,p5 (S:=RcIn H) (fun x y q hx hy=>J0 hx hy) Y Z})
section
variable{P:aQ}{w:bU}{K:af}{mg:Str->Option aj}{base:cG}{f fA fW CN CG CS CM:ae}{fd fdA fdW:cm}
inductive Lu(vs:List V)(H:Hp)(Q:VK)(_e:XK):Prop where
 |mk(k:Str)(a b:Int)(_:vs=[.str k,.int a,.int b])(_:k∈wV)(_:Wo a)(_:Wo b)(_:∀H':Hp,bN H H'->Q (Jb (rQ k a b)) H'):Lu vs H Q _e
def spLT:Sp:=fun vs H Q Z=>Lu vs H Q Z
theorem scLT:bX ["_law_word","_law_one","_law_other","_law_whole_here"] ["_law_word","_law_one","_law_other"] (aT j3):=eQ
theorem ok_LT(D:Df K mg "_law_two" j3 ["_law_word","_law_one","_law_other"] f fd)(B:Bl mg):cg P w K mg base CX0 1 f fd ["_law_word","_law_one","_law_other"] spLT:=by
 refine D.F.ok scLT (fun vs H Q E h=>?_) (fun M A outer s H vs Q E I h=>?_)
 ·obtain⟨k,a,b,rfl,_⟩:=h;rfl
 obtain⟨k,a,b,rfl,hk,ha,hb,h⟩:=h;refine⟨_,ag (cC (aZ cZ (pv 0) bP) (aA (bD (cI gj (pv 1) (pv 2)))) bL)
  (ag (cC (aZ cZ (pv 0) bP) (aA (bD (cI jm (pv 1) (pv 2)))) bL)
  (ag (cC (aZ cZ (pv 0) bP) (aA (bD (cI lH (pv 1) (pv 2)))) bL)
  (ag (cC (aZ cZ (pv 0) bP) (aA (bD (gB m8 (by rfl) B.int boot_int (aq (mC oQ (pv 1) (pv 2)) ao)))) bL)
  (ag (cC (aZ cZ (pv 0) bP) (aA (bD (gB m8 (by rfl) B.int boot_int (aq (mC cZ (pv 1) (pv 2)) ao)))) bL)
  (ag (cC (aZ cZ (pv 2) ah) (aA (bD bP)) bL)
  (ag (pst 3 scLT (cI zf (pv 1) (pv 2)))
  (ag (cC (aZ cZ (pv 0) bP) (aA (bD (pv 3))) bL)
  (aA (bD (cI jm (pv 1) (cI lH (pv 3) (pv 2)))))))))))),?_⟩
 have two:=h H (bN.refl H);unfold rQ at two h;refine{_,Z9,Z9,_,Z9,gr (fun c=>?_) (fun c=>?_)}
 ·rw[if_pos (iM (fK c))]at two;exact{_,Z9,_,Z9,_,_,Z9,Z9,two}
 have W:¬k="plus":=fun z=>gR c (by rw[z]);rw[if_neg W]at two;refine{_,Z9,Z9,_,Z9,gr (fun c=>?_) (fun c=>?_)}
 ·rw[if_pos (iM (fK c))]at two;exact{_,Z9,_,Z9,_,_,Z9,Z9,two}
 have O:¬k="less":=fun z=>gR c (by rw[z]);rw[if_neg O]at two;refine{_,Z9,Z9,_,Z9,gr (fun c=>?_) (fun c=>?_)}
 ·rw[if_pos (iM (fK c))]at two;refine{_,Z9,_,Z9,_,_,Z9,Z9,.inl {?_,?_},two}
  ·unfold Wo at ha;omega
  ·unfold Wo at ha;omega
 have U:¬k="times":=fun z=>gR c (by rw[z]);rw[if_neg U]at two;refine{_,Z9,Z9,_,Z9,gr (fun c=>?_) (fun c=>?_)}
 ·rw[if_pos (iM (fK c))]at two;refine{_,Z9,_,Z9,_,_,Z9,Z9,.inr {_,Z9,?_}}
  by_cases z:a<b
  ·rw[if_pos z]at two;rw[decide_eq_true z];exact two
  ·rw[if_neg z]at two;rw[decide_eq_false z];exact two
 have J:¬k="below":=fun z=>gR c (by rw[z]);rw[if_neg J]at two;refine{_,Z9,Z9,_,Z9,gr (fun c=>?_) (fun c=>?_)}
 ·rw[if_pos (iM (fK c))]at two;refine{_,Z9,_,Z9,Z9,.inr {_,Z9,?_}}
  by_cases z:a=b
  ·rw[if_pos z]at two;rw[decide_eq_true (show V.int a=V.int b by rw[z])];exact two
  ·rw[if_neg z]at two;rw[decide_eq_false (fun e=>z (lW e))];exact two
 rw[if_neg (fun z=>gR c (by rw[z]))]at two;refine{_,Z9,Z9,_,Z9,gr (fun c=>?_) (fun c=>?_)}
 ·rw[if_pos (lW (fK c))]at two;exact two
 have Y:¬b=0:=fun z=>gR c (by rw[z]);have Z:-(2^64)<b/\b<2^64:=by
  unfold Wo at hb;omega
 refine{_,Z9,_,Z9,_,_,Z9,Z9,{Y,by omega},?_};rw[if_neg Y]at two;refine{_,Z9,Z9,_,Z9,gr (fun c=>?_) (fun c=>?_)}
 ·rw[if_pos (iM (fK c))]at two;exact{_,Z9,two}
 ·have R:¬k="part":=fun z=>gR c (by rw[z]);rw[if_neg R]at two;have e:a.fmod b=a-a.fdiv b*b:=by rw[Int.mul_comm];exact Int.fmod_def a b
  rw[e]at two;exact{_,Z9,_,Z9,_,Z9,_,_,Z9,Z9,.inr Z,_,_,Z9,Z9,two}
abbrev pLR:List Str:=["_law_formula_here","_law_state","_law_now","_law_got"]
structure vt(bs qs:List Str)(H:Hp)(wd rd gl:ae)(e:tR):Prop where
 hwd:∃bk:List (Key×V),H wd=Z8 (.dK bk)/\∀x∈bs,kP bk (Sum.inr x)=Z8 (.int (e.bx x))
 hrd:∃qk:List (Key×V),H rd=Z8 (.dK qk)/\∀x∈qs,∃l xs,kP qk (Sum.inr x)=Z8 (.ref l)/\H l=Z8 (.lst xs)/\xs.length=e.lg x
 hgl:H gl=Z8 (.lst [.int e.g0,.int e.g1])
theorem vt.same{bs qs:List Str}{H H':Hp}{Z Y W:ae}{e:tR}(h:vt bs qs H Z Y W e)(s:bN H H'):vt bs qs H' Z Y W e:=by
 obtain⟨⟨bk,h1,h2⟩,⟨V,U,O⟩,R⟩:=h;refine{{bk,s _ _ h1,h2},{V,s _ _ U,fun x hx=>?_},s _ _ R};obtain⟨l,xs,a,b,c⟩:=O x hx;exact{l,xs,a,s _ _ b,c}
inductive Lv(n:Nat)(vs:List V)(H:Hp)(Q:VK)(_e:XK):Prop where
 |mk(v:V)(F:Fm)(bs qs:List Str)(sl wd rd gl:ae)(x y:V)(e:tR)(_:vs=[v,.ref sl,.int e.nw,.ref gl])(_:H sl=Z8 (.lst [.ref wd,.ref rd,x,y]))(_:iY bs qs H v F)(_:F.depth<=n)(_:vt bs qs H wd rd gl e)(_:e.Ok bs qs)(_:∀H':Hp,bN H H'->Q (Jb (ev e F)) H'):Lv n vs H Q _e
def HA(n:Nat):Sp:=fun vs H Q Z=>Lv n vs H Q Z
theorem J1:bX (pLR++(["_law_one","_law_other","_law_found"]:List Str)) pLR (aT ip):=eQ
theorem J2{n:Nat}(D:Df K mg "_law_comes_to" ip pLR f fd)(DT:Df K mg "_law_two" j3 ["_law_word","_law_one","_law_other"] fA fdA)(B:Bl mg)
  (G:cg P w K mg base CX0 (n+1) f fd pLR (HA n)):cg P w K mg base CX0 (n+2) f fd pLR (HA (n+1)):=by
 have GT:cg P w K mg base CX0 1 fA fdA ["_law_word","_law_one","_law_other"] spLT:=ok_LT DT B;refine D.F.ok J1 (fun vs H Q E h=>?_) (fun cj A outer s H vs Q E hr h=>?_)
 ·obtain⟨v,F,bs,qs,sl,I,rd,J,x0,y0,e,rfl,_⟩:=h;rfl
 obtain⟨v,F,bs,qs,sl,I,rd,J,x0,y0,e,rfl,W,hF,hd,O,g,h⟩:=h;have hu:=kS hr;have r1:e8 1 _:=hr.mono (by omega);refine⟨_,ag (cC (aZ cZ (aP aY (pv 0) ah) bP) (aA (bD (aP aY (pv 0) ah))) bL)
  (ag (cC (aZ cZ (aP aY (pv 0) ah) bP) (aA (bD (iO hu (aP cy (pv 1) ah) (aP aY (pv 0) ah)))) bL)
  (ag (cC (aZ cZ (aP aY (pv 0) ah) bP) (aA (bD (cq gX (by rfl) B.len bO (aq (iO hu (aP cy (pv 1) ah) (aP aY (pv 0) ah)) ao)))) bL)
  (ag (cC (aZ cZ (aP aY (pv 0) ah) bP) (aA (bD (aP cy (pv 3) (aP aY (pv 0) ah)))) bL)
  (ag (cC (aZ cZ (aP aY (pv 0) ah) bP) (aA (bD (pv 2))) bL)
  (ag (pst 4 J1 (pcl G hr D (aq (aP aY (pv 0) ah) (aq (pv 1) (aq (pv 2) (aq (pv 3) ao))))))
  (ag (cC (hJ (cq d9 (by rfl) B.isi fZ (aq (pv 4) (aq (iu (v:=.ty "str") (by rfl) B.str boot_str rfl) ao)))) (aA (bD (pv 4))) bL)
  (ag (pst 5 J1 (pcl G hr D (aq (aP aY (pv 0) ah) (aq (pv 1) (aq (pv 2) (aq (pv 3) ao))))))
  (ag (cC (hJ (cq d9 (by rfl) B.isi fZ (aq (pv 5) (aq (iu (v:=.ty "str") (by rfl) B.str boot_str rfl) ao)))) (aA (bD (pv 5))) bL)
  (ag (pst 6 J1 (pcl GT r1 DT (aq (aP aY (pv 0) ah) (aq (pv 4) (aq (pv 5) ao)))))
  (ag (cC (oj (kL (hJ (cq d9 (by rfl) B.isi fZ (aq (pv 6) (aq (iu (v:=.ty "str") (by rfl) B.str boot_str rfl) ao))))) (kZ (mB (aZ oQ (pv 6) (sX pk (cI j1 ah ah))) (lE (aZ lI (pv 6) (cI j1 ah ah)))).pt)).pt (aA (bD bP)) bL)
  (aA (bD (pv 6))))))))))))),?_⟩
 have M:Af 10 15:={by decide,by decide,by decide};refine Z0 fun Gz gz=>?_;obtain⟨k1,k2,k3,k4,k5,k6,k7,k8,k9,cn⟩:=zr;refine gz ?_;have R:=h H (bN.refl H)
 cases hF with
 |@num t n Z hn=>
  refine{_,Z9,t,_,_,_,Z9,Z9,SqT.of Z,Z9,Z9,_,Z9,gE (tS _) (eM ?_)};exact{_,Z9,t,_,_,_,Z9,Z9,SqT.of Z,Z9,R}
 |@box t x Z hx=>
  obtain⟨bk,g1,g2⟩:=O.hwd;refine{_,Z9,t,_,_,_,Z9,Z9,SqT.of Z,Z9,Z9,_,Z9,gE (lX k1) (dP ?_)};refine{_,Z9,t,_,_,_,Z9,Z9,SqT.of Z,Z9,Z9,_,Z9,gE (tS _) (eM ?_)};exact{_,Z9,sl,_,_,_,Z9,Z9,SqL.of W,Z9,_,Z9,t,_,_,_,Z9,Z9,SqT.of Z,Z9,I,_,Z9,(by have z:=nr.k (k:=Sum.inr x) g1;rw[g2 x hx]at z;exact z),R}
 |@long t x Z hx=>
  obtain⟨qk,g1,g2⟩:=O.hrd;obtain⟨l,xs,g3,g4,g5⟩:=g2 x hx;refine{_,Z9,t,_,_,_,Z9,Z9,SqT.of Z,Z9,Z9,_,Z9,gE (lX k2) (dP ?_)};refine{_,Z9,t,_,_,_,Z9,Z9,SqT.of Z,Z9,Z9,_,Z9,gE (lX k3) (dP ?_)};refine{_,Z9,t,_,_,_,Z9,Z9,SqT.of Z,Z9,Z9,_,Z9,gE (tS _) (eM ?_)};refine{_,Z9,sl,_,_,_,Z9,Z9,SqL.of W,Z9,_,Z9,t,_,_,_,Z9,Z9,SqT.of Z,Z9,rd,_,Z9,(by have z:=nr.k (k:=Sum.inr x) g1;rw[g3]at z;exact z),l,xs,Z9,.inl (SqL.of g4),?_};rw[g5];exact R
 |@got t j Z=>
  refine{_,Z9,t,_,_,_,Z9,Z9,SqT.of Z,Z9,Z9,_,Z9,gE (lX k4) (dP ?_)};refine{_,Z9,t,_,_,_,Z9,Z9,SqT.of Z,Z9,Z9,_,Z9,gE (lX k5) (dP ?_)};refine{_,Z9,t,_,_,_,Z9,Z9,SqT.of Z,Z9,Z9,_,Z9,gE (lX k6) (dP ?_)};refine{_,Z9,t,_,_,_,Z9,Z9,SqT.of Z,Z9,Z9,_,Z9,gE (tS _) (eM ?_)}
  cases j
  ·exact{_,Z9,_,Z9,t,_,_,_,Z9,Z9,SqT.of Z,Z9,J,_,_,_,Z9,Z9,SqL.of O.hgl,Z9,R}
  ·exact{_,Z9,_,Z9,t,_,_,_,Z9,Z9,SqT.of Z,Z9,J,_,_,_,Z9,Z9,SqL.of O.hgl,Z9,R}
 |@now t Z=>
  refine{_,Z9,t,_,_,_,Z9,Z9,SqT.of Z,Z9,Z9,_,Z9,gE (lX k7) (dP ?_)};refine{_,Z9,t,_,_,_,Z9,Z9,SqT.of Z,Z9,Z9,_,Z9,gE (lX k8) (dP ?_)};refine{_,Z9,t,_,_,_,Z9,Z9,SqT.of Z,Z9,Z9,_,Z9,gE (lX k9) (dP ?_)};refine{_,Z9,t,_,_,_,Z9,Z9,SqT.of Z,Z9,Z9,_,Z9,gE (lX cn) (dP ?_)};refine{_,Z9,t,_,_,_,Z9,Z9,SqT.of Z,Z9,Z9,_,Z9,gE (tS _) (eM ?_)};exact{_,Z9,R}
 |@two t k u v f1 f2 Z hk h1 h2=>
  obtain⟨k1,k2,k3,k4,k5⟩:=Fy k hk;clear R;have d1:f1.depth<=n:=by
   unfold Fm.depth at hd;omega
  have d2:f2.depth<=n:=by
   unfold Fm.depth at hd;omega
  refine{_,Z9,t,_,_,_,Z9,Z9,SqT.of Z,Z9,Z9,_,Z9,gr (fun c=>absurd (iM (fK c)) k1) (fun _=>?_)};refine{_,Z9,t,_,_,_,Z9,Z9,SqT.of Z,Z9,Z9,_,Z9,gr (fun c=>absurd (iM (fK c)) k2) (fun _=>?_)};refine{_,Z9,t,_,_,_,Z9,Z9,SqT.of Z,Z9,Z9,_,Z9,gr (fun c=>absurd (iM (fK c)) k3) (fun _=>?_)};refine{_,Z9,t,_,_,_,Z9,Z9,SqT.of Z,Z9,Z9,_,Z9,gr (fun c=>absurd (iM (fK c)) k4) (fun _=>?_)};refine{_,Z9,t,_,_,_,Z9,Z9,SqT.of Z,Z9,Z9,_,Z9,gr (fun c=>absurd (iM (fK c)) k5) (fun _=>?_)};refine{_,Z9,t,_,_,_,Z9,Z9,SqT.of Z,Z9,_,Z9,_,Z9,_,Z9,u,f1,bs,qs,sl,I,rd,J,x0,y0,e,Z9,W,h1,d1,O,g,fun H1 U=>?_};unfold ev at h
  cases e1:ev e f1 with
  |nought=>
   rw[e1]at h;exact{_,Z9,_,"str",_,true,Z9,.str _,jn,_,Z9,eM {_,Z9,h H1 U}}
  |great=>
   rw[e1]at h;exact{_,Z9,_,"str",_,true,Z9,.str _,jn,_,Z9,eM {_,Z9,h H1 U}}
  |ok a=>
   rw[e1]at h;refine{_,Z9,_,"str",_,false,Z9,.int a,kit_is,_,Z9,dP ?_};have cp:=U _ _ Z;refine{_,Z9,t,_,_,_,Z9,Z9,SqT.of cp,Z9,_,Z9,_,Z9,_,Z9,v,f2,bs,qs,sl,I,rd,J,x0,y0,e,Z9,U _ _ W,h2.same U,d2,O.same U,g,fun H2 s2=>?_};have V:=U.trans s2
   cases e2:ev e f2 with
   |nought=>
    rw[e2]at h;exact{_,Z9,_,"str",_,true,Z9,.str _,jn,_,Z9,eM {_,Z9,h H2 V}}
   |great=>
    rw[e2]at h;exact{_,Z9,_,"str",_,true,Z9,.str _,jn,_,Z9,eM {_,Z9,h H2 V}}
   |ok b=>
    rw[e2]at h;refine{_,Z9,_,"str",_,false,Z9,.int b,kit_is,_,Z9,dP ?_};have cl:=V _ _ Z;refine{_,Z9,t,_,_,_,Z9,Z9,SqT.of cl,Z9,_,Z9,_,Z9,k,a,b,Z9,hk,kU g h1 e1,kU g h2 e2,fun H3 s3=>?_};have hq:Q (Jb (cap (rQ k a b))) H3:=h H3 (V.trans s3)
    cases e3:rQ k a b with
    |nought=>
     rw[e3]at hq;refine{_,Z9,_,"str",_,true,Z9,.str _,jn,_,Z9,dP (dP ?_)};exact{_,Z9,hq}
    |great=>
     rw[e3]at hq;refine{_,Z9,_,"str",_,true,Z9,.str _,jn,_,Z9,dP (dP ?_)};exact{_,Z9,hq}
    |ok r=>
     rw[e3]at hq;have Y:Q (Jb (if 10^15<oU r then .great else .ok r)) H3:=hq;refine{_,Z9,_,"str",_,false,Z9,.int r,kit_is,_,Z9,eM ?_};have ck:(10:Int)^15=1000000000000000:=by decide
     have sz:(10^15<oU r)↔(r < -(10^15)\/10^15<r):=by
      unfold oU
      split<;>omega
     refine{_,Z9,_,_,Z9,Z9,M,_,Z9,_,_,Z9,Z9,_,Z9,gr (fun c=>?_) (fun c=>?_)}
     ·rw[if_pos (sz.mpr (.inl (fK c)))]at Y;exact eM Y
     ·refine{_,Z9,_,_,Z9,Z9,M,_,_,Z9,Z9,_,Z9,gr (fun c2=>?_) (fun c2=>?_)}
      ·rw[if_pos (sz.mpr (.inr (fK c2)))]at Y;exact Y
      ·rw[if_neg (fun z=>(sz.mp z).elim (gR c) (gR c2))]at Y;exact{_,Z9,Y}
theorem HB(D:Df K mg "_law_comes_to" ip pLR f fd)(DT:Df K mg "_law_two" j3 ["_law_word","_law_one","_law_other"] fA fdA)(B:Bl mg) :
  ∀n:Nat,cg P w K mg base CX0 (n+1) f fd pLR (HA n)
 |0=>by
  have Z:∀vs H Q E,¬HA 0 vs H Q E:=fun vs H Q E h=>by
   obtain⟨v,F,_,_,_,_,_,_,_,_,_,_,_,_,Y,_⟩:=h;have:=wX F;omega
  exact{fun vs H Q E h=>absurd h (Z vs H Q E),fun A outer s H args W vs Q E _ _ _ _ h=>absurd h (Z vs H Q E)}
 |n+1=>J2 D DT B (HB D DT B n)
end
def shD(h:Ev)(ds:List Int):Dd->Wk->Except Flt (Wk×Ds)
 |.pull q x o,w=>match ie w.qu q with
  | []=>.ok ({w with qn:=iq w.qn q},o)
  |n::ns=>.ok ({w with qu:=jQ w.qu q ns,bx:=jQ w.bx x n,wr:=iq (iq w.wr x) q,qn:=iq w.qn q},.nil)
 |.ife f t e,w=>match ev (iz h w) f with
  |.ok n=>.ok ({w with rk:=w.rk++[f]},if n=0 then e else t)
  |.nought=>.error .nought
  |.great=>.error .great
 |d,w=>match doD h ds d w with
  |.ok Z=>.ok (Z,.nil)
  |.error e=>.error e
def Ds.toL:Ds->List Dd
 |.nil=>[]
 |.cons d r=>d::r.toL
def doL(h:Ev)(ds:List Int):List Dd->Wk->Except Flt Wk
 | [],w=>.ok w
 |d::r,w=>match doD h ds d w with
  |.ok Z=>doL h ds r Z
  |.error e=>.error e
theorem HC{h:Ev}{ds:List Int}:∀(D:Ds) (w:Wk),doS h ds D w=doL h ds D.toL w
 |.nil,w=>by simp only[doS,Ds.toL,doL]
 |.cons d r,w=>by
  simp only[doS,Ds.toL,doL]
  cases doD h ds d w with
  |ok Z=>exact HC r Z
  |error e=>rfl
theorem Cg{h:Ev}{ds:List Int}:∀(a b:List Dd) (w:Wk),doL h ds (a++b) w=match doL h ds a w with
  |.ok Z=>doL h ds b Z
  |.error e=>.error e
 | [],b,w=>rfl
 |d::a,b,w=>by
  simp only[um,doL]
  cases doD h ds d w with
  |ok Z=>exact Cg a b Z
  |error e=>rfl
theorem NQ{h:Ev}{ds:List Int}(d:Dd)(w:Wk):doD h ds d w=match shD h ds d w with
  |.ok p=>doS h ds p.2 p.1
  |.error e=>.error e:=by
 have Z:∀r:Except Flt Wk,r=(match (match r with|.ok Y=>(.ok (Y,.nil):Except Flt (Wk×Ds))|.error e=>.error e) with|.ok p=>doS h ds p.2 p.1|.error e=>.error e):=fun r=>by
  cases r with
  |ok Y=>simp only[doS]
  |error e=>rfl
 cases d with
 |pull q x o=>
  simp only[doD,shD]
  cases ie w.qu q with
  |nil=>rfl
  |cons n ns=>simp only[doS]
 |ife f t e=>
  simp only[doD,shD,rck]
  cases ev (iz h w) f with
  |ok n=>
   show (if n=0 then _ else _)=doS h ds (if n=0 then e else t) _
   split<;>rfl
  |nought=>rfl
  |great=>rfl
 |put x f=>exact Z _
 |push q f=>exact Z _
 |draw x f=>exact Z _
 |send to W sp rk a b=>exact Z _
 |fin=>exact Z _
theorem HD{h:Ev}{ds:List Int}{d:Dd}{r:List Dd}{w:Wk}:doL h ds (d::r) w=match shD h ds d w with
  |.ok p=>doL h ds (p.2.toL++r) p.1
  |.error e=>.error e:=by
 simp only[doL];rw[NQ]
 cases shD h ds d w with
 |ok p=>
  show (match doS h ds p.2 p.1 with|.ok Z=>doL h ds r Z|.error e=>.error e)=doL h ds (p.2.toL++r) p.1;rw[Cg,HC]
 |error e=>rfl
def szL(S:List Dd):Nat:=(S.map Dd.size).sum
theorem ym:∀D:Ds,szL D.toL=D.size
 |.nil=>rfl
 |.cons d r=>by
  show (d.size::(r.toL.map Dd.size)).sum=d.size+r.size;rw[List.sum_cons];rw[<- ym r];rfl
theorem J3(a b:List Dd):szL (a++b)=szL a+szL b:=by
 unfold szL;rw[aU,List.sum_append]
theorem J4{h:Ev}{ds:List Int}{d:Dd}{w:Wk}{p:Wk×Ds}(e:shD h ds d w=.ok p):p.2.size<d.size:=by
 cases d with
 |pull q x o=>
  simp only[shD]at e
  split at e
  ·injection e with e;subst e;simp only[Dd.size]
   lia
  ·injection e with e;subst e;simp only[Dd.size,Ds.size]
   lia
 |ife f t Y=>
  simp only[shD]at e
  split at e
  ·injection e with e;subst e;simp only[Dd.size]
   split<;>lia
  ·cases e
  ·cases e
 |put x f=>simp only[shD]at e;split at e<;>cases e;simp only[Dd.size,Ds.size];lia
 |push q f=>simp only[shD]at e;split at e<;>cases e;simp only[Dd.size,Ds.size];lia
 |draw x f=>simp only[shD]at e;split at e<;>cases e;simp only[Dd.size,Ds.size];lia
 |send to Z sp rk a b=>simp only[shD]at e;split at e<;>cases e;simp only[Dd.size,Ds.size];lia
 |fin=>simp only[shD]at e;split at e<;>cases e;simp only[Dd.size,Ds.size];lia
structure RL where
 l:ae
 bd:ae
 qd:ae
 tl:ae
 nl:ae
 wl:ae
 qa:List (Str×ae)
def RL.all(L:RL):List ae:=L.l::L.bd::L.qd::L.tl::L.nl::L.wl::L.qa.map (·.2)
structure Rg(bs qs:List Str)(H0 G:Hp)(L:RL)(h:Ev)(w:Wk)(tc:List Str)(ws:List V):Prop where
 sm:bN H0 G
 hl:G L.l=Z8 (.lst [.ref L.bd,.ref L.qd,.int w.dr,.int w.se])
 hb:G L.bd=Z8 (.dK (boK w.bx))
 hq:G L.qd=Z8 (.dK (quK L.qa))
 hqs:eN G L.qa w.qu
 ht:G L.tl=Z8 (.lst (tc.map V.str))
 hn:∃vs,G L.nl=Z8 (.lst vs)/\aO (fH G) vs w.out
 hw:G L.wl=Z8 (.lst ws)
 nd:L.all.Nodup
 fr:∀a∈L.all,H0 a=Z7
 ok:m5 bs qs w
 wt:Wo h.t
 wa:Wo h.a
 wb:Wo h.b
 tw:∀x∈bs++qs,(x∈tc↔x∈w.wr)
 te:(("the end":Str)∈tc↔w.en=true)
 ne:("the end":Str)∉bs++qs
structure RL.Ne(L:RL):Prop where
 lb:L.l≠L.bd
 lq:L.l≠L.qd
 lt:L.l≠L.tl
 ln:L.l≠L.nl
 lw:L.l≠L.wl
 lz:∀a∈L.qa.map (·.2),L.l≠a
 bq:L.bd≠L.qd
 bt:L.bd≠L.tl
 bn:L.bd≠L.nl
 bw:L.bd≠L.wl
 bz:∀a∈L.qa.map (·.2),L.bd≠a
 qt:L.qd≠L.tl
 qn:L.qd≠L.nl
 qw:L.qd≠L.wl
 qz:∀a∈L.qa.map (·.2),L.qd≠a
 tn:L.tl≠L.nl
 tw:L.tl≠L.wl
 tz:∀a∈L.qa.map (·.2),L.tl≠a
 nw:L.nl≠L.wl
 nz:∀a∈L.qa.map (·.2),L.nl≠a
 wz:∀a∈L.qa.map (·.2),L.wl≠a
 zz:(L.qa.map (·.2)).Nodup
section
variable{bs qs:List Str}{H0 G G':Hp}{L:RL}{h:Ev}{w:Wk}{tc:List Str}{ws:List V}
theorem RL.ne(W:L.all.Nodup):L.Ne:=by
 have cut:∀{a:ae} {xs:List ae},(a::xs).Nodup->(∀b∈xs,a≠b)/\xs.Nodup:=fun {a xs} z=>by
  obtain⟨U,V⟩:=cu.mp z;exact{fun b hb e=>U (e ▸ hb),V}
 obtain⟨a1,W⟩:=cut W;obtain⟨a2,W⟩:=cut W;obtain⟨a3,W⟩:=cut W;obtain⟨a4,W⟩:=cut W;obtain⟨a5,W⟩:=cut W;obtain⟨a6,W⟩:=cut W;have Y:∀{b:ae} {xs:List ae},b∈b::xs:=ax;have Z:∀{a b:ae} {xs:List ae},b∈xs->b∈a::xs:=fun z=>aa _ z;exact{a1 _ Y,a1 _ (Z Y),a1 _ (Z (Z Y)),a1 _ (Z (Z (Z Y))),a1 _ (Z (Z (Z (Z Y)))),fun a ha=>a1 _ (Z (Z (Z (Z (Z ha))))),a2 _ Y,a2 _ (Z Y),a2 _ (Z (Z Y)),a2 _ (Z (Z (Z Y))),fun a ha=>a2 _ (Z (Z (Z (Z ha)))),a3 _ Y,a3 _ (Z Y),a3 _ (Z (Z Y)),fun a ha=>a3 _ (Z (Z (Z ha))),a4 _ Y,a4 _ (Z Y),fun a ha=>a4 _ (Z (Z ha)),a5 _ Y,fun a ha=>a5 _ (Z ha),fun a ha=>a6 _ ha,W}
theorem Rg.sm_upd(g:Rg bs qs H0 G L h w tc ws){a:ae}(ha:a∈L.all)(o:HO):bN H0 (upd G a o):=fun b u e=>by
 rw[aW (ay e (g.fr a ha))];exact g.sm _ _ e
theorem rin_l:L.l∈L.all:=ax
theorem rin_b:L.bd∈L.all:=aa _ (ax)
theorem Lw:L.tl∈L.all:=aa _ (aa _ (aa _ (ax)))
theorem rin_n:L.nl∈L.all:=aa _ (aa _ (aa _ (aa _ (ax))))
theorem rin_w:L.wl∈L.all:=aa _ (aa _ (aa _ (aa _ (aa _ (ax)))))
theorem rin_z{a:ae}(h:a∈L.qa.map (·.2)):a∈L.all:=aa _ (aa _ (aa _ (aa _ (aa _ (aa _ (h))))))
theorem Rg.same(g:Rg bs qs H0 G L h w tc ws)(s:bN G G'):Rg bs qs H0 G' L h w tc ws:=by
 obtain⟨vs,Y,Z⟩:=g.hn;exact{g.sm.trans s,s _ _ g.hl,s _ _ g.hb,s _ _ g.hq,g.hqs.same s,s _ _ g.ht,{vs,s _ _ Y,Paired.mono (fun _ _ z=>z.same s) Z},s _ _ g.hw,g.nd,g.fr,g.ok,g.wt,g.wa,g.wb,g.tw,g.te,g.ne}
theorem Rg.box(g:Rg bs qs H0 G L h w tc ws){x:Str}{n:Int}(V:Wo n):Rg bs qs H0 (upd G L.bd (.dK (boK (jQ w.bx x n)))) L h {w with bx:=jQ w.bx x n} tc ws:=by
 have N:=RL.ne g.nd;obtain⟨vs,J,D⟩:=g.hn;obtain⟨U,R,E,I,Y,W,t,B,O,f,M,fw⟩:=g.ok;have Z:∀p∈jQ w.bx x n,Wo p.2:=fun p hp=>by
  rcases rR hp with z|z
  ·exact Y p z
  ·rw[z];exact V
 exact{g.sm_upd rin_b _,aN g.hl N.lb,ak,aN g.hq N.bq.symm,eN.keep (L:={0,0,0,0,0,0,0,0,0,0,.non,.non,L.qa}) (fun a u e m=>aN e (N.bz a m).symm) (fun _ hp=>hp) g.hqs,aN g.ht N.bt.symm,{vs,aN J N.bn.symm,iA (iB g.hb (fun _ z=>by cases z)) D},aN g.hw N.bw.symm,g.nd,g.fr,{(qi _ _ _).trans U,R,E,I,Z,W,t,B,O,f,M,fw},g.wt,g.wa,g.wb,g.tw,g.te,g.ne}
theorem Rg.counts(g:Rg bs qs H0 G L h w tc ws)(dr:Nat)(se:Int):Rg bs qs H0 (upd G L.l (.lst [.ref L.bd,.ref L.qd,.int dr,.int se])) L h {w with dr:=dr,se:=se} tc ws:=by
 have N:=RL.ne g.nd;obtain⟨vs,M,I⟩:=g.hn;obtain⟨V,W,J,O,Z,Y,D,E,U,B,R,t⟩:=g.ok;exact{g.sm_upd rin_l _,ak,aN g.hb N.lb.symm,aN g.hq N.lq.symm,eN.keep (L:={0,0,0,0,0,0,0,0,0,0,.non,.non,L.qa}) (fun a u e m=>aN e (N.lz a m).symm) (fun _ hp=>hp) g.hqs,aN g.ht N.lt.symm,{vs,aN M N.ln.symm,iA (iB g.hl (fun _ z=>by cases z)) I},aN g.hw N.lw.symm,g.nd,g.fr,⟨V,W,J,O,Z,Y,D,E,U,B,R,t⟩,g.wt,g.wa,g.wb,g.tw,g.te,g.ne}
theorem Rg.work(g:Rg bs qs H0 G L h w tc ws)(Z:List V):Rg bs qs H0 (upd G L.wl (.lst Z)) L h w tc Z:=by
 have N:=RL.ne g.nd;obtain⟨vs,I,D⟩:=g.hn;obtain⟨R,U,E,J,Y,W,t,B,O,f,M,fw⟩:=g.ok;exact{g.sm_upd rin_w _,aN g.hl N.lw,aN g.hb N.bw,aN g.hq N.qw,eN.keep (L:={0,0,0,0,0,0,0,0,0,0,.non,.non,L.qa}) (fun a u e m=>aN e (N.wz a m).symm) (fun _ hp=>hp) g.hqs,aN g.ht N.tw,{vs,aN I N.nw,iA (iB g.hw (fun _ z=>by cases z)) D},ak,g.nd,g.fr,⟨R,U,E,J,Y,W,t,B,O,f,M,fw⟩,g.wt,g.wa,g.wb,g.tw,g.te,g.ne}
theorem Rg.sent(g:Rg bs qs H0 G L h w tc ws){Z:List V}{v:V}{e:Ev}(W:G L.nl=Z8 (.lst Z))(t:fH G v e)(I:Wo e.a/\Wo e.b):Rg bs qs H0 (upd G L.nl (.lst (Z++[v]))) L h {w with out:=w.out++[e]} tc ws:=by
 have N:=RL.ne g.nd;obtain⟨vs,Y,f⟩:=g.hn;obtain⟨M,O,B,D,U,R,nw,sw,J,su,E,fw⟩:=g.ok;rw[W]at Y
 cases Y;exact{g.sm_upd rin_n _,aN g.hl N.ln,aN g.hb N.bn,aN g.hq N.qn,eN.keep (L:={0,0,0,0,0,0,0,0,0,0,.non,.non,L.qa}) (fun a u e m=>aN e (N.nz a m).symm) (fun _ hp=>hp) g.hqs,aN g.ht N.tn,{_,ak,iA (iB W (fun _ z=>by cases z)) (cS f t)},aN g.hw N.nw.symm,g.nd,g.fr,{M,O,B,D,U,R,nw,sw,J,su,(fun x hx=>(bY.mp hx).elim (E x) fun z=>by rw[aD.mp z];exact I),fw},g.wt,g.wa,g.wb,g.tw,g.te,g.ne}
theorem p6{xs:List Str}{x y:Str}:y∈iq xs x↔(y∈xs\/y=x):=by
 unfold iq
 by_cases c:x∈xs
 ·simp_all
 ·simp_all
theorem Rg.touch(g:Rg bs qs H0 G L h w tc ws){x:Str}(hx:x∈bs++qs):Rg bs qs H0 (upd G L.tl (.lst ((tc++[x]).map V.str))) L h {w with wr:=iq w.wr x} (tc++[x]) ws:=by
 have N:=RL.ne g.nd;obtain⟨vs,D,t⟩:=g.hn;obtain⟨M,O,B,E,U,R,nw,f,J,su,I,fw⟩:=g.ok;have Z:∀y∈iq w.wr x,y∈bs++qs:=fun y hy=>by
  rcases kF hy with z|z
  ·exact f y z
  ·rw[z];exact hx
 have Y:∀y∈bs++qs,(y∈tc++[x]↔y∈iq w.wr x):=fun y hy=>by
  rw[bY,aD,g.tw y hy,p6]
 have W:(("the end":Str)∈tc++[x]↔w.en=true):=by
  rw[bY,aD,g.te];exact{fun z=>z.elim id fun y=>absurd (y ▸ hx) g.ne,.inl}
 exact{g.sm_upd Lw _,aN g.hl N.lt,aN g.hb N.bt,aN g.hq N.qt,eN.keep (L:={0,0,0,0,0,0,0,0,0,0,.non,.non,L.qa}) (fun a u e m=>aN e (N.tz a m).symm) (fun _ hp=>hp) g.hqs,ak,{vs,aN D N.tn.symm,iA (iB g.ht (fun _ z=>by cases z)) t},aN g.hw N.tw.symm,g.nd,g.fr,{M,O,B,E,U,R,mT nw,Z,J,su,I,fw},g.wt,g.wa,g.wb,Y,W,g.ne}
theorem Rg.ended(g:Rg bs qs H0 G L h w tc ws) :Rg bs qs H0 (upd G L.tl (.lst ((tc++[("the end":Str)]).map V.str))) L h {w with en:=true} (tc++[("the end":Str)]) ws:=by
 have N:=RL.ne g.nd;obtain⟨vs,I,D⟩:=g.hn;obtain⟨R,U,E,J,Y,W,t,B,O,f,M,fw⟩:=g.ok;have Z:∀y∈bs++qs,(y∈tc++[("the end":Str)]↔y∈w.wr):=fun y hy=>by
  rw[bY,aD,<- g.tw y hy];exact{fun z=>z.elim id fun e=>absurd (e ▸ hy) g.ne,.inl}
 exact{g.sm_upd Lw _,aN g.hl N.lt,aN g.hb N.bt,aN g.hq N.qt,eN.keep (L:={0,0,0,0,0,0,0,0,0,0,.non,.non,L.qa}) (fun a u e m=>aN e (N.tz a m).symm) (fun _ hp=>hp) g.hqs,ak,{vs,aN I N.tn.symm,iA (iB g.ht (fun _ z=>by cases z)) D},aN g.hw N.tw.symm,g.nd,g.fr,⟨R,U,E,J,Y,W,t,B,O,f,M,fw⟩,g.wt,g.wa,g.wb,Z,({fun _=>rfl,fun _=>aV _ (aD.mpr rfl)}),g.ne}
theorem Rg.queue(g:Rg bs qs H0 G L h w tc ws){x:Str}{l:ae}{ns:List Int}(W:L.qa.lookup x=Z8 l)(len:ns.length<=30)(f:∀n∈ns,Wo n):Rg bs qs H0 (upd G l (.lst (ns.map V.int))) L h {w with qu:=jQ w.qu x ns} tc ws:=by
 have N:=RL.ne g.nd;have Z:l∈L.qa.map (·.2):=cD.mpr {_,kH W,Z9};obtain⟨vs,O,M⟩:=g.hn;obtain⟨kb,U,nb,R,wb,t,I,J,D,B,wo,E⟩:=g.ok;obtain⟨xs,gl⟩:=g.hqs.there Z;have Y:∀p∈jQ w.qu x ns,p.2.length<=30/\∀n∈p.2,Wo n:=fun p hp=>by
  rcases rR hp with z|z
  ·exact t p z
  ·rw[z];exact⟨len,f⟩
 exact{g.sm_upd (rin_z Z) _,aN g.hl (N.lz l Z),aN g.hb (N.bz l Z),aN g.hq (N.qz l Z),g.hqs.set N.zz (U ▸ R) W,aN g.ht (N.tz l Z),{vs,aN O (N.nz l Z),iA (iB gl (fun _ z=>by cases z)) M},aN g.hw (N.wz l Z),g.nd,g.fr,{kb,(qi _ _ _).trans U,nb,R,wb,Y,I,J,D,B,wo,E},g.wt,g.wa,g.wb,g.tw,g.te,g.ne}
theorem Rg.pure(g:Rg bs qs H0 G L h w tc ws)(rk:List Fm){qn:List Str}(M:qn.Nodup)(Y:∀x∈qn,x∈bs++qs):Rg bs qs H0 G L h {w with rk:=rk,qn:=qn} tc ws:=by
 obtain⟨R,U,J,Z,W,V,E,I,B,z,O,D⟩:=g.ok;exact{g.sm,g.hl,g.hb,g.hq,g.hqs,g.ht,g.hn,g.hw,g.nd,g.fr,⟨R,U,J,Z,W,V,E,I,M,Y,O,D⟩,g.wt,g.wa,g.wb,g.tw,g.te,g.ne}
theorem Rg.asks(g:Rg bs qs H0 G L h w tc ws):(iz h w).Ok bs qs:=
 ⟨fun x m=>BQ g.ok m,fun x m=>by
  have:=(qm g.ok m).1;show (ie w.qu x).length<=1000
  lia,g.wa,g.wb,g.wt⟩
theorem Rg.holds(g:Rg bs qs H0 G L h w tc ws){Z:ae}(Y:G Z=Z8 (.lst [.int h.a,.int h.b])):vt bs qs G L.bd L.qd Z (iz h w):=
 ⟨{_,g.hb,fun x m=>xY (g.ok.kb ▸ m)},⟨_,g.hq,fun x m=>by
  obtain⟨l,h1,h2,_⟩:=g.hqs.at_ (g.ok.kq ▸ m);exact{l,_,uU h1,h2,ai _}⟩,Y⟩
end
def Lx(Y:Wk->Hp->Prop)(H0:Hp)(r:Except Flt Wk)(Q:VK):Prop:=match r with
 |.ok Z=>∀G',Y Z G'->Q (.str "") G'
 |.error e=>∀G',bN H0 G'->Q (.str (kX e)) G'
section
variable{P:aQ}{w:bU}{K:af}{mg:Str->Option aj}{base:cG}{f fC fT:ae}{fd fdC fdT:cm}{bs qs:List Str}
seal PS PSs PE PA PT PW PI PG PGs PC
abbrev DG:List Str:=["_law_deed_here","_law_state","_law_key","_law_at","_law_got","_law_news"]
inductive HE(bs qs:List Str)(vs:List V)(H:Hp)(Q:VK)(_e:XK):Prop where
 |mk(H0:Hp)(L:RL)(h:Ev)(ds:List Int)(w:Wk)(tc:List Str)(ws:List V)(t kh gl:ae)(u u1 u2:V)(to:Int)(sg:Str)(rk:Int)(F F1 F2:Fm)(_:vs=[.ref t,.ref L.l,.ref kh,.int h.to,.ref gl,.ref L.nl])(_:Rg bs qs H0 H L h w tc ws)(_:H0 t=Z8 (.tup [.str "send",.int to,.str sg,u,.int rk,u1,u2]))(_:H0 kh=Z8 (.tup [.int h.t,.int h.r,.int h.fr,.int h.c]))(_:H gl=Z8 (.lst [.int h.a,.int h.b]))(_:FmI bs qs H0 u F)(_:FmI bs qs H0 u1 F1)(_:FmI bs qs H0 u2 F2)(_:w.out.length<100000)(_:Lx (fun w' G'=>Rg bs qs H0 G' L h w' tc ws) H0 (doD h ds (.send to sg F rk F1 F2) w) Q):HE bs qs vs H Q _e
def Ly(bs qs:List Str):Sp:=fun vs H Q Z=>HE bs qs vs H Q Z
theorem Cj:bX (DG++(["_law_numbers","_law_formula_here","_law_number"]:List Str)) DG (aT oJ):=eQ
theorem NR(D:Df K mg "_law_sent" oJ DG f fd)(DC:Df K mg "_law_comes_to" ip pLR fC fdC)(DT:Df K mg "_law_two" j3 ["_law_word","_law_one","_law_other"] fT fdT)(B:Bl mg):cg P w K mg base CX0 17 f fd DG (Ly bs qs):=by
 refine D.F.ok Cj (fun vs H Q E h=>?_) (fun dp A outer s H vs Q E hr h=>?_)
 ·obtain⟨H0,L,h,ds,w,tc,ws,t,kh,gl,u,u1,u2,to,sg,rk,F,F1,F2,rfl,_⟩:=h;rfl
 obtain⟨H0,L,h,ds,w,tc,ws,t,kh,gl,u,u1,u2,to,sg,rk,F,F1,F2,rfl,g,ht,hk,hg,hF,dV,dG,lo,p⟩:=h;refine⟨_,ag (pst 6 Cj (dO ao))
  (ag (fq bV rfl (fc (dO (gJ (aP aY (pv 0) ah) (gJ (aP aY (pv 0) ah) (gJ (aP aY (pv 0) ah) ao))))) (pgn 7 Cj) (ag (pst 8 Cj (pcl (HB DC DT B 15) hr DC (bj (pv 7) (bj (pv 1) (gJ (aP aY (pv 2) ah) (bj (pv 4) ao))))))
  (ag (cC (hJ (cq d9 (by rfl) B.isi fZ (aq (pv 8) (aq (iu (v:=.ty "str") (by rfl) B.str boot_str rfl) ao)))) (aA (bD (pv 8))) bL)
  (ag (cC ((oj (aZ cZ (cq (c7 K (by rfl)) (by rfl) B.len bO (bj (pv 6) ao)) ah) (kZ (mB (aZ oQ (pv 8) ah) (lE (aZ lI (pv 8) (cI j1 ah ah)))).pt)).pt) (aA (bD bP)) bL)
  (aA (cV (ia aL bA bC dI (pv 6) (bj (pv 8) ao))))))))
  (ag (cC (aZ lI (cI gj (aP aY (pv 2) ah) (aP cy (pv 6) ah)) (cI j1 ah ah)) (aA (bD bP)) bL)
  (ag (cV (ia aL bA bC dI (pv 5) (j5 (cW (j5 (cW (oZ (cI gj (aP aY (pv 2) ah) (aP cy (pv 6) ah)) (gJ (aP aY (pv 0) ah) (bj (pv 3) (gJ (aP cy (pv 1) ah) ao))))) (gJ (aP aY (pv 0) ah) (gJ (aP aY (pv 0) ah) (gJ (aP cy (pv 6) ah) (gJ (aP cy (pv 6) ah) ao)))))) ao) (hs:=uZ)))
  (ag (pf (cI gj (aP cy (pv 1) ah) ah) (qO (pv 1) ah lN))
  (aA (bD bP)))))),?_⟩
 have big:=dW;have tt:∀{G:Hp},bN H0 G->SqT K G t [.str "send",.int to,.str sg,u,.int rk,u1,u2]:=fun {G} z=>SqT.of (z _ _ ht);simp only[doD]at p;refine aX (cH ({bE _,fun nm ec=>bF ?_}));dsimp only;have s1:=aH ec (.lst []);refine aX ?_;refine{_,Z9,t,_,_,_,Z9,Z9,tt (g.sm.trans s1),Z9,_,Z9,t,_,_,_,Z9,Z9,tt (g.sm.trans s1),Z9,_,Z9,t,_,_,_,Z9,Z9,tt (g.sm.trans s1),Z9,(by show 3<=aG;decide),fun lf dz=>?_};have s2:=aH dz (.lst [u,u1,u2]);have dL:nm≠lf:=ay (ak:upd H nm (.lst []) nm=_) dz;refine⟨lf,Z9,{_,SqL.of ak},fX (K:=K) (a:=lf) (xs:=[u,u1,u2]) (fun i σ G=>∃(Z:List Int) (u7 u8:Option V),σ=[Z8 (.ref t),Z8 (.ref L.l),Z8 (.ref kh),Z8 (.int h.to),Z8 (.ref gl),Z8 (.ref L.nl),Z8 (.ref nm),u7,u8] /\
   bN H G/\G lf=Z8 (.lst [u,u1,u2])/\G nm=Z8 (.lst (Z.map V.int))/\Z.length=i/\(∀n,Z[0]?=Z8 n->ev (iz h w) F=.ok n/\¬(n<1\/10^6<n))/\(∀n,Z[1]?=Z8 n->ev (iz h w) F1=.ok n)/\(∀n,Z[2]?=Z8 n->ev (iz h w) F2=.ok n))
  {[],_,_,Z9,s1.trans s2,ak,s2 _ _ ak,Z9,(fun n e=>by cases e),(fun n e=>by cases e),(fun n e=>by cases e)} ?_ ?_ ?_⟩
 ·rintro i σ G _ ⟨Z,u7,u8,rfl,sG,W,_⟩;exact SqL.of W
 ·rintro i x σ G hi ⟨Z,u7,u8,rfl,sG,W,Y,ln,q0,q1,q2⟩;have R:=g.same sG;have O:=R.sm _ _ hk;obtain⟨J,dw,ef,eo⟩:∃J,FmI bs qs H0 x J/\(∀e,(ev (iz h w) J=.nought/\e=Flt.nought)\/(ev (iz h w) J=.great/\e=Flt.great)\/(i=0/\e=Flt.span/\∃n,ev (iz h w) J=.ok n/\(n<1\/10^6<n))->∀G',bN H0 G'->Q (.str (kX e)) G') /\
    (∀n,ev (iz h w) J=.ok n->(i=0->¬(n<1\/10^6<n))->(∀m,(Z++[n])[0]?=Z8 m->ev (iz h w) F=.ok m/\¬(m<1\/10^6<m))/\(∀m,(Z++[n])[1]?=Z8 m->ev (iz h w) F1=.ok m)/\(∀m,(Z++[n])[2]?=Z8 m->ev (iz h w) F2=.ok m)):=by
   match i,Z,ln,hi with
   |0,[],_,hi=>
    injection hi with hi;subst hi;refine{F,hF,fun e he=>?_,fun n en ns=>{(fun m e=>by cases e;exact{en,ns rfl}),(fun m e=>by cases e),(fun m e=>by cases e)}}
    rcases he with⟨y,rfl⟩|⟨y,rfl⟩|⟨_,rfl,n,y,z⟩
    ·simp only[rck,y]at p;exact p
    ·simp only[rck,y]at p;exact p
    ·simp only[rck,y,if_pos z]at p;exact p
   |1,[n0],_,hi=>
    injection hi with hi;subst hi;obtain⟨e0,I⟩:=q0 n0 rfl;refine{F1,dV,fun e he=>?_,fun n en _=>{(fun m e=>by cases e;exact⟨e0,I⟩),(fun m e=>by cases e;exact en),(fun m e=>by cases e)}};simp only[rck,e0,if_neg I]at p
    rcases he with⟨y,rfl⟩|⟨y,rfl⟩|⟨z,_⟩
    ·have y':ev (iz h {w with rk:=w.rk++[F]}) F1=.nought:=y;simp only[y']at p;exact p
    ·have y':ev (iz h {w with rk:=w.rk++[F]}) F1=.great:=y;simp only[y']at p;exact p
    ·cases z
   |2,[n0,n1],_,hi=>
    injection hi with hi;subst hi;obtain⟨e0,I⟩:=q0 n0 rfl;have e1:=q1 n1 rfl;have ea:ev (iz h {w with rk:=w.rk++[F]}) F1=.ok n1:=e1;refine{F2,dG,fun e he=>?_,fun n en _=>{(fun m e=>by cases e;exact⟨e0,I⟩),(fun m e=>by cases e;exact e1),(fun m e=>by cases e;exact en)}};simp only[rck,e0,if_neg I,ea]at p
    rcases he with⟨y,rfl⟩|⟨y,rfl⟩|⟨z,_⟩
    ·have y':ev (iz h {w with rk:=w.rk++[F]++[F1]}) F2=.nought:=y;simp only[y']at p;exact p
    ·have y':ev (iz h {w with rk:=w.rk++[F]++[F1]}) F2=.great:=y;simp only[y']at p;exact p
    ·cases z
   |i+3,_,_,hi=>simp at hi
  refine bF ?_;dsimp only;refine aX (cH ?_);refine{_,Z9,_,Z9,_,Z9,kh,_,_,_,Z9,Z9,SqT.of O,Z9,_,Z9,x,J,bs,qs,L.l,L.bd,L.qd,gl,_,_,iz h w,Z9,R.hl,dw.1.same R.sm,dw.2,R.holds (sG _ _ hg),R.asks,fun G2 s2=>?_};refine bF ?_;dsimp only;have eb:=sG.trans s2;have M:=g.same eb
  cases ee:ev (iz h w) J with
  |nought=>exact aX {_,Z9,_,"str",_,true,Z9,.str _,jn,_,Z9,eM {_,Z9,ef _ (.inl ⟨ee,Z9⟩) _ M.sm}}
  |great=>exact aX {_,Z9,_,"str",_,true,Z9,.str _,jn,_,Z9,eM {_,Z9,ef _ (.inr (.inl ⟨ee,Z9⟩)) _ M.sm}}
  |ok n=>
   refine aX {_,Z9,_,"str",_,false,Z9,.int n,kit_is,_,Z9,dP ?_};refine cU ?_;dsimp only;have U:=s2 _ _ Y;have l3:Z.length<aG:=by
    have:=(aC.mp hi).1;have:i<3:=this
    lia
   have go:(i=0->¬(n<1\/10^6<n))->_:=eo n ee;refine aX ?_;refine{_,Z9,nm,_,Z9,.inl (SqL.of U),Z9,_,Z9,?_};rw[ai,ln]
   by_cases i0:i=0
   ·subst i0;refine gE (b:=true) (decide_eq_true rfl) (eM ?_);refine{_,Z9,_,_,Z9,Z9,_,Z9,gr (fun c=>?_) (fun c=>?_)}
    ·exact eM (ef _ (.inr (.inr {Z9,Z9,n,ee,.inl (fK c)})) _ M.sm)
    refine{_,Z9,_,_,Z9,Z9,({by decide,by decide,by decide}),_,_,Z9,Z9,_,Z9,gr (fun c2=>?_) (fun c2=>?_)}
    ·exact ef _ (.inr (.inr {Z9,Z9,n,ee,.inr (fK c2)})) _ M.sm
    have nn:¬(n<1\/10^6<n):=fun z=>z.elim (gR c) (gR c2);obtain⟨a0,a1,a2⟩:=go fun _=>nn;refine{_,Z9,.inl {Z9,_,SqL.of U},_,Z9,nm,_,_,Z9,Z9,U,by rw[ai];exact l3,?_};have eq:Z.map V.int++[V.int n]=(Z++[n]).map V.int:=by rw[aU];rfl
    exact{Z++[n],_,_,Z9,jR eb ec _,aN (s2 _ _ W) dL.symm,(by rw[<- eq];exact ak),by rw[aB,ln];rfl,a0,a1,a2}
   ·refine gE (b:=false) (decide_eq_false (fun z=>i0 (by have:=lW z;lia))) (dP (dP ?_));obtain⟨a0,a1,a2⟩:=go fun z=>absurd z i0;refine{_,Z9,.inl {Z9,_,SqL.of U},_,Z9,nm,_,_,Z9,Z9,U,by rw[ai];exact l3,?_};have eq:Z.map V.int++[V.int n]=(Z++[n]).map V.int:=by rw[aU];rfl
    exact{Z++[n],_,_,Z9,jR eb ec _,aN (s2 _ _ W) dL.symm,(by rw[<- eq];exact ak),by rw[aB,ln];rfl,a0,a1,a2}
 intro σ G qz;refine Z0 fun Gz gz=>?_;obtain⟨Z,u7,u8,rfl,sG,W,Y,ln,q0,q1,q2⟩:=qz;refine gz ?_;refine Z0 fun Gz gz=>?_;obtain⟨n,x,y,rfl⟩:∃n x y,Z=[n,x,y]:=by
  match Z,ln with
  | [n,x,y],_=>exact⟨n,x,y,Z9⟩
 obtain⟨e0,I⟩:=q0 n rfl;refine gz ?_;have e1:=q1 x rfl;have e2:=q2 y rfl;have ea:ev (iz h {w with rk:=w.rk++[F]}) F1=.ok x:=e1;have du:ev (iz h {w with rk:=w.rk++[F]++[F1]}) F2=.ok y:=e2;simp only[rck,e0,if_neg I,ea,du]at p;have R:=g.same sG;have O:=R.sm _ _ hk;refine aX ?_;refine{_,Z9,kh,_,_,_,Z9,Z9,SqT.of O,Z9,_,Z9,nm,_,_,_,Z9,Z9,SqL.of Y,Z9,_,_,Z9,Z9,_,_,Z9,Z9,({by decide,by decide,by decide}),_,_,Z9,Z9,_,Z9,gr (fun c=>?_) (fun c=>?_)}
 ·rw[if_pos (show 10^12<h.t+n from fK c)]at p;exact p _ R.sm
 rw[if_neg (show ¬10^12<h.t+n from gR c)]at p;refine cU ?_;dsimp only;obtain⟨vs,o1,o2⟩:=R.hn;have lv:vs.length<aG:=by
  have z:vs.length=w.out.length:=aM o2;have:100000<aG:=by decide
  lia
 refine aX ?_;refine{_,Z9,.inl {Z9,_,SqL.of o1},?_};refine{_,Z9,kh,_,_,_,Z9,Z9,SqT.of O,Z9,_,Z9,nm,_,_,_,Z9,Z9,SqL.of Y,Z9,_,_,Z9,Z9,_,Z9,t,_,_,_,Z9,Z9,tt R.sm,Z9,_,Z9,_,Z9,L.l,_,_,_,Z9,Z9,SqL.of R.hl,Z9,(by show 4<=aG;decide),fun kt dt=>?_};have sk:=aH dt (.tup [.int (h.t+n),.int rk,.int h.to,.int w.se]);have M:=R.same sk;refine{_,Z9,t,_,_,_,Z9,Z9,tt M.sm,Z9,_,Z9,t,_,_,_,Z9,Z9,tt M.sm,Z9,_,Z9,nm,_,_,_,Z9,Z9,SqL.of (sk _ _ Y),Z9,_,Z9,nm,_,_,_,Z9,Z9,SqL.of (sk _ _ Y),Z9,lt5,fun et dq=>?_};have se:=aH dq (.tup [.ref kt,.int to,.str sg,.int x,.int y]);have g3:=M.same se;refine{L.nl,vs,_,Z9,Z9,se _ _ (sk _ _ o1),lv,?_};have g4:=g3.sent (v:=.ref et) (e:={h.t+n,rk,h.to,w.se,to,sg,x,y}) (se _ _ (sk _ _ o1)) {et,kt,Z9,ak,se _ _ ak} {kU g.asks (dV.1.same g.sm) e1,kU g.asks (dG.1.same g.sm) e2};dsimp only;refine aX (cH ?_);refine{_,Z9,L.l,_,_,_,Z9,Z9,SqL.of g4.hl,Z9,_,_,Z9,Z9,_,Z9,L.l,_,_,3,Z9,Z9,g4.hl,Z9,?_};have g5:=g4.counts w.dr (w.se+1);exact p _ (g5.pure (w.rk++[F]++[F1]++[F2]) g.ok.nu g.ok.su)
end
section
variable{P:aQ}{w:bU}{K:af}{mg:Str->Option aj}{base:cG}{f fC fT fS fW:ae}{fd fdC fdT fdS fdW:cm}{bs qs:List Str}
seal PS PSs PE PA PT PW PI PG PGs PC
theorem Rg.putB{H0 G:Hp}{L:RL}{h:Ev}{w:Wk}{tc:List Str}{ws:List V}(g:Rg bs qs H0 G L h w tc ws){x:Str}{n:Int}(m:x∈bs):pJ G L.bd (.str x) (.int n) (upd G L.bd (.dK (boK (jQ w.bx x n)))):=by
 have z:=pJ.k (k:=Sum.inr x) (v:=.int n) g.hb (by
  have:=g.ok.fw;have:=dW;rw[xZ];have e:=congrArg jK g.ok.kb;rw[ai]at e;rw[aB]at *
  lia)
 rw[BR (g.ok.kb ▸ m)]at z;exact z
theorem Rg.getL{H0 G:Hp}{L:RL}{h:Ev}{w:Wk}{tc:List Str}{ws:List V}(g:Rg bs qs H0 G L h w tc ws){x:Str}(m:x∈qs):∃l,L.qa.lookup x=Z8 l/\G l=Z8 (.lst ((ie w.qu x).map V.int))/\nr G L.qd (.str x) (Z8 (.ref l)):=by
 obtain⟨l,h1,h2,_⟩:=g.hqs.at_ (g.ok.kq ▸ m);refine{l,h1,h2,?_};have z:=nr.k (k:=Sum.inr x) g.hq;rw[uU h1]at z;exact z
theorem Rg.wrote{H0 G:Hp}{L:RL}{h:Ev}{w:Wk}{tc:List Str}{ws:List V}(g:Rg bs qs H0 G L h w tc ws){wr:List Str}(E:wr.Nodup)(I:∀y∈wr,y∈bs++qs)(e:∀y,y∈wr↔y∈w.wr):Rg bs qs H0 G L h {w with wr:=wr} tc ws:=by
 obtain⟨R,U,J,Z,Y,W,_,_,O,D,M,B⟩:=g.ok;exact{g.sm,g.hl,g.hb,g.hq,g.hqs,g.ht,g.hn,g.hw,g.nd,g.fr,⟨R,U,J,Z,Y,W,E,I,O,D,M,B⟩,g.wt,g.wa,g.wb,fun x hx=>(g.tw x hx).trans (e x).symm,g.te,g.ne}
abbrev pDw:List Str:=["_law_deed_here","_law_state","_law_number","_law_draws"]
def HF(ds:List Int)(x:Str)(n:Int)(w:Wk):Except Flt Wk:=if n<1 then .error .nought else if ds=[] then .error .dry else .ok {w with dr:=w.dr+1,bx:=jQ w.bx x (ds.getD (w.dr%ds.length) 0%n)}
inductive Lz(bs qs:List Str)(vs:List V)(H:Hp)(Q:VK)(_e:XK):Prop where
 |mk(H0:Hp)(L:RL)(h:Ev)(ds:List Int)(w:Wk)(tc:List Str)(ws:List V)(t dl:ae)(u:V)(x:Str)(n:Int)(_:vs=[.ref t,.ref L.l,.int n,.ref dl])(_:Rg bs qs H0 H L h w tc ws)(_:H0 t=Z8 (.tup [.str "draw",.str x,u]))(_:H0 dl=Z8 (.lst (ds.map V.int)))(_:x∈bs)(_:Wo n)(_:ds.length<=1000)(_:Lx (fun w' G'=>Rg bs qs H0 G' L h w' tc ws) H0 (HF ds x n w) Q):Lz bs qs vs H Q _e
def spDw(bs qs:List Str):Sp:=fun vs H Q Z=>Lz bs qs vs H Q Z
theorem scDw:bX pDw pDw (aT mP):=eQ
theorem ok_dw(D:Df K mg "_law_drawn" mP pDw f fd)(B:Bl mg):cg P w K mg base CX0 1 f fd pDw (spDw bs qs):=by
 refine D.F.ok scDw (fun vs H Q E h=>?_) (fun O A outer s H vs Q E R h=>?_)
 ·obtain⟨H0,L,h,ds,w,tc,ws,t,Y,u,x,n,rfl,_⟩:=h;rfl
 obtain⟨H0,L,h,ds,w,tc,ws,t,Y,u,x,n,rfl,g,I,G,hx,U,ld,p⟩:=h;refine⟨_,ag (cC (aZ oQ (pv 2) ah) (aA (bD bP)) bL)
  (ag (cC (aZ cZ (cq (c7 K (by rfl)) (by rfl) B.len bO (bj (pv 3) ao)) ah) (aA (bD bP)) bL)
  (ag (i9 (kS R) (aP cy (pv 1) ah) (aP aY (pv 0) ah) (cI mV (aP cy (pv 3) (cI mV (aP cy (pv 1) ah) (cq (c7 K (by rfl)) (by rfl) B.len bO (bj (pv 3) ao)))) (pv 2)) rfl)
  (ag (pf (cI gj (aP cy (pv 1) ah) ah) (qO (pv 1) ah lN))
  (aA (bD bP))))),?_⟩
 unfold HF at p;have Z:=g.sm _ _ G;refine aX ({_,Z9,_,_,Z9,Z9,_,Z9,gr (fun c=>?_) (fun c=>cU ?_)})
 ·rw[if_pos (fK c)]at p;exact p _ g.sm
 have c:=gR c;rw[if_neg c]at p;refine aX ({_,Z9,Y,_,Z9,.inl (SqL.of Z),Z9,_,Z9,?_});rw[ai]
 cases hds:ds with
 |nil=>
  rw[hds]at p;exact gE (decide_eq_true rfl) (eM (p _ g.sm))
 |cons d0 dr=>
  rw[<- hds];have pos:0<ds.length:=by rw[hds];exact tT _
  rw[if_neg (by rw[hds];intro z;cases z)]at p;refine gE (decide_eq_false (fun z=>by have:=lW z;lia)) (dP (cU ?_));have M:atI (ds.map V.int) ((w.dr:Int)%(((ds.map V.int).length:Nat):Int))=Z8 (.int (ds.getD (w.dr%ds.length) 0)):=by
   rw[ai,<- Jk];exact gy (zv ds _ (Nat.mod_lt _ pos))
  have J:Wo (ds.getD (w.dr%ds.length) 0%n):=by
   have a1:=jI (ds.getD (w.dr%ds.length) 0) (show n≠0 by lia);have a2:=iL (ds.getD (w.dr%ds.length) 0) (show 0<n by lia);unfold Wo at U |-
   lia
  have W:=g.box (x:=x) J;refine aX ({_,Z9,_,Z9,L.l,_,_,_,Z9,Z9,SqL.of g.hl,Z9,_,Z9,Y,_,Z9,.inl (SqL.of Z),_,_,Z9,Z9,(by rw[ai];lia),Y,_,_,_,Z9,Z9,SqL.of Z,M,_,Z9,_,_,Z9,Z9,(by lia),_,Z9,L.l,_,_,_,Z9,Z9,SqL.of g.hl,Z9,_,Z9,t,_,_,_,Z9,Z9,(SqT.of (g.sm _ _ I)),Z9,L.bd,_,Z9,g.putB hx,?_});dsimp only;exact aX (cH ({_,Z9,L.l,_,_,_,Z9,Z9,SqL.of W.hl,Z9,_,_,Z9,Z9,_,Z9,L.l,_,_,2,Z9,Z9,W.hl,Z9,p _ (W.counts (w.dr+1) w.se)}))
abbrev pOd:List Str:=["_law_deed_here","_law_state","_law_key","_law_at","_law_got","_law_draws","_law_touched","_law_news","_law_work"]
abbrev nOd:List Str:=pOd++(["_law_one","_law_formula_here","_law_number"]:List Str)
def PostS(Z:Wk->List V->Hp->Prop)(R:Ds->List V->Prop)(H0:Hp)(ws:List V)(r:Except Flt (Wk×Ds))(Q:VK):Prop:=match r with
 |.ok p=>∀G' vs,R p.2 vs->Z p.1 (ws++vs.reverse) G'->Q (.str "") G'
 |.error e=>∀G',bN H0 G'->Q (.str (kX e)) G'
inductive LA(bs qs:List Str)(vs:List V)(H:Hp)(Q:VK)(_e:XK):Prop where
 |mk(H0:Hp)(L:RL)(h:Ev)(ds:List Int)(w:Wk)(tc:List Str)(ws:List V)(v:V)(kh gl dl:ae)(d:Dd)(_:vs=[v,.ref L.l,.ref kh,.int h.to,.ref gl,.ref dl,.ref L.tl,.ref L.nl,.ref L.wl])(_:Rg bs qs H0 H L h w tc ws)(_:dR bs qs H0 d v)(_:H0 kh=Z8 (.tup [.int h.t,.int h.r,.int h.fr,.int h.c]))(_:H gl=Z8 (.lst [.int h.a,.int h.b]))(_:H0 dl=Z8 (.lst (ds.map V.int)))(_:ds.length<=1000)(_:w.out.length<100000)(_:tc.length<100000)(_:ws.length<100000)(_:PostS (fun w' ws' G'=>∃tc':List Str,tc'.length<=tc.length+2/\Rg bs qs H0 G' L h w' tc' ws') (eF bs qs H0) H0 ws (shD h ds d w) Q):LA bs qs vs H Q _e
def spOd(bs qs:List Str):Sp:=fun vs H Q Z=>LA bs qs vs H Q Z
theorem DH:bX nOd pOd (aT jP):=eQ
theorem ok_od(D:Df K mg "_law_one_deed" jP pOd f fd)(DS:Df K mg "_law_sent" oJ DG fS fdS)(DW:Df K mg "_law_drawn" mP pDw fW fdW)(DC:Df K mg "_law_comes_to" ip pLR fC fdC)(DT:Df K mg "_law_two" j3 ["_law_word","_law_one","_law_other"] fT fdT)(B:Bl mg):cg P w K mg base CX0 18 f fd pOd (spOd bs qs):=by
 have GC:cg P w K mg base CX0 16 fC fdC pLR (HA 15):=HB DC DT B 15;have GS:cg P w K mg base CX0 17 fS fdS DG (Ly bs qs):=NR DS DC DT B;have GW:cg P w K mg base CX0 1 fW fdW pDw (spDw bs qs):=ok_dw DW B;refine D.F.ok DH (fun vs H Q E h=>?_) (fun dV A outer s H vs Q E hr h=>?_)
 ·obtain⟨H0,L,h,ds,w,tc,ws,v,kh,gl,dl,d,rfl,_⟩:=h;rfl
 obtain⟨H0,L,h,ds,w,tc,ws,v,kh,gl,dl,d,rfl,g,hd,hk,hg,hdl,ld,lo,lt,lw,p⟩:=h;have hu:=kS hr;have r1:e8 1 _:=hr.mono (by decide);have ei:e8 16 _:=hr.mono (by decide);have big:200000<aG:=by decide
 refine⟨_,ag (cC (aZ cZ (aP aY (pv 0) ah) bP) (ag (cV (ia aL bA bC dI (pv 6) (dj bP ao)))
  (aA (bD bP))) bL)
  (ag (cC (aZ cZ (aP aY (pv 0) ah) bP) (aA (bD (pcl GS hr DS (bj (pv 0) (bj (pv 1) (bj (pv 2) (bj (pv 3) (bj (pv 4) (bj (pv 7) ao))))))))) bL)
  (ag (cC (aZ cZ (aP aY (pv 0) ah) bP) (ag (cC (aZ cZ (cq (c7 K (by rfl)) (by rfl) B.len bO (aq (iO hu (aP cy (pv 1) ah) (aP aY (pv 0) ah)) ao)) ah) (aA (fq bV rfl (fc (AF (aP aY (pv 0) ah) (lA (sX pk ah)))) (pgn 9 DH) (aA (cV (ia aL bA bC dI (pv 8) (bj (pv 9) ao)))))) (ag (i9 hu (aP cy (pv 1) ah) (aP aY (pv 0) ah) (ia aL jX jY yW (iO hu (aP cy (pv 1) ah) (aP aY (pv 0) ah)) (aq ah ao)) rfl)
  (ag (cV (ia aL bA bC dI (pv 6) (gJ (aP aY (pv 0) ah) ao)))
  (aA (cV (ia aL bA bC dI (pv 6) (gJ (aP aY (pv 0) ah) ao)))))))
  (aA (bD bP))) bL)
  (ag (pst 10 DH (aP aY (pv 0) ah))
  (ag (cC (aZ cZ (aP aY (pv 0) ah) bP) (aA (pst 10 DH (aP aY (pv 0) ah))) bL)
  (ag (pst 11 DH (pcl GC ei DC (bj (pv 10) (bj (pv 1) (gJ (aP aY (pv 2) ah) (bj (pv 4) ao))))))
  (ag (cC (hJ (cq d9 (by rfl) B.isi fZ (aq (pv 11) (aq (iu (v:=.ty "str") (by rfl) B.str boot_str rfl) ao)))) (aA (bD (pv 11))) bL)
  (ag (cC (aZ cZ (aP aY (pv 0) ah) bP) (ag (fq bV rfl (fc (AF (aP aY (pv 0) (cI gj ah (gB m8 (by rfl) B.int boot_int (aq (mC cZ (pv 11) ah) ao)))) (lA (sX pk ah)))) (pgn 9 DH) (aA (cV (ia aL bA bC dI (pv 8) (bj (pv 9) ao)))))
  (aA (bD bP))) bL)
  (ag (cV (ia aL bA bC dI (pv 6) (gJ (aP aY (pv 0) ah) ao)))
  (ag (cC (aZ cZ (aP aY (pv 0) ah) bP) (aA (bD (pcl GW r1 DW (bj (pv 0) (bj (pv 1) (bj (pv 11) (bj (pv 5) ao))))))) bL)
  (ag (cC (aZ cZ (aP aY (pv 0) ah) bP) (ag (i9 hu (aP cy (pv 1) ah) (aP aY (pv 0) ah) (pv 11) rfl)
  (aA (bD bP))) bL)
  (ag (cC (aZ cZ (cq (c7 K (by rfl)) (by rfl) B.len bO (aq (iO hu (aP cy (pv 1) ah) (aP aY (pv 0) ah)) ao)) ah) (aA (bD bP)) bL)
  (ag (cV (ia aL bA bC dI (iO hu (aP cy (pv 1) ah) (aP aY (pv 0) ah)) (bj (pv 11) ao)))
  (aA (bD bP)))))))))))))),?_⟩
 have nx:∀{a b:Str} {p1 p2:Prop},(a==b)=false->p2->(if decide (V.str a=V.str b)=true then p1 else p2):=fun z q=>gE (lX (sne z)) (dP q);have yx:∀{a:Str} {p1 p2:Prop},p1->(if decide (V.str a=V.str a)=true then p1 else p2):=fun q=>gE (tS _) (eM q);have eo:=g.sm _ _ hk;have R:=g.sm _ _ hdl;have Z7:eF bs qs H0 .nil []:=by simp only[eF]
 cases d with
 |fin=>
  obtain⟨t,rfl,U⟩:=(by simpa only[dR] using hd);have Z:=SqT.of (K:=K) (g.sm _ _ U);simp only[shD,doD]at p;refine aX {_,Z9,t,_,_,_,Z9,Z9,Z,Z9,Z9,_,Z9,yx ?_};refine aX ?_;refine{_,Z9,.inl {Z9,_,SqL.of g.ht},L.tl,_,_,Z9,Z9,g.ht,by rw[ai];lia,?_};have Y:=g.ended;have eq:tc.map V.str++[V.str "the end"]=(tc++[("the end":Str)]).map V.str:=by rw[aU];rfl
  rw[<- eq]at Y;exact p _ [] Z7 {tc++[("the end":Str)],by rw[aB];exact gC (show 1<=2 by decide) _,by rw[ju,cB];exact Y}
 |send to sg F rk F1 F2=>
  obtain⟨t,u,u1,u2,rfl,U,O,ek,ed⟩:=(by simpa only[dR] using hd);have Z:=SqT.of (K:=K) (g.sm _ _ U);simp only[shD]at p;refine aX {_,Z9,t,_,_,_,Z9,Z9,Z,Z9,Z9,_,Z9,nx (by decide +kernel) (cU ?_)};dsimp only;refine aX {_,Z9,t,_,_,_,Z9,Z9,Z,Z9,Z9,_,Z9,yx ?_};refine oW ?_;refine{_,Z9,_,Z9,_,Z9,_,Z9,_,Z9,_,Z9,H0,L,h,ds,w,tc,ws,t,kh,gl,u,u1,u2,to,sg,rk,F,F1,F2,Z9,g,U,hk,hg,O,ek,ed,lo,?_}
  cases e:doD h ds (.send to sg F rk F1 F2) w with
  |ok w'=>
   rw[e]at p;exact fun G' g'=>p G' [] Z7 {tc,by lia,by rw[ju,cB];exact g'}
  |error er=>
   rw[e]at p;exact p
 |pull q x o=>
  obtain⟨t,u,rfl,U,hq,hx,l,vs,rfl,hl,lv,hD⟩:=(by simpa only[dR] using hd);have Z:=SqT.of (K:=K) (g.sm _ _ U);simp only[shD]at p;refine aX {_,Z9,t,_,_,_,Z9,Z9,Z,Z9,Z9,_,Z9,nx (by decide +kernel) (cU ?_)};dsimp only;refine aX {_,Z9,t,_,_,_,Z9,Z9,Z,Z9,Z9,_,Z9,nx (by decide +kernel) (cU ?_)};dsimp only;refine aX {_,Z9,t,_,_,_,Z9,Z9,Z,Z9,Z9,_,Z9,yx ?_};obtain⟨lq,a1,a2,a3⟩:=g.getL hq;have gq:=qm g.ok hq;refine aX ?_;refine{_,Z9,L.l,_,_,_,Z9,Z9,SqL.of g.hl,Z9,_,Z9,t,_,_,_,Z9,Z9,Z,Z9,L.qd,_,Z9,a3,lq,_,Z9,.inl (SqL.of a2),Z9,_,Z9,?_};rw[ai]
  cases e1:ie w.qu q with
  |nil=>
   rw[e1]at p;refine gE (b:=true) (decide_eq_true rfl) (eM ?_);refine{_,Z9,t,_,_,_,Z9,Z9,Z,Z9,_,Z9,_,Z9,Z9,l,vs,Z9,SqL.of (g.sm _ _ hl),fun pr ep=>?_};have sp:=aH ep (.lst vs.reverse);refine⟨pr,Z9,{_,SqL.of ak},fX (K:=K) (a:=pr) (xs:=vs.reverse) (fun i σ G=>∃u9 J M:Option V,σ=[Z8 (.ref t),Z8 (.ref L.l),Z8 (.ref kh),Z8 (.int h.to),Z8 (.ref gl),Z8 (.ref dl),Z8 (.ref L.tl),Z8 (.ref L.nl),Z8 (.ref L.wl),u9,J,M]/\Rg bs qs H0 G L h w tc (ws++vs.reverse.take i)/\G pr=Z8 (.lst vs.reverse))
    {_,_,_,Z9,by rw[dE,cB];exact g.same sp,ak} ?_ ?_ ?_⟩
   ·rintro i σ G _ ⟨_,_,_,rfl,_,h2⟩;exact SqL.of h2
   ·rintro i x σ G hi ⟨u9,J,M,rfl,Y,h2⟩;have li:=(aC.mp hi).1;rw[eO]at li;have ll:(ws++vs.reverse.take i).length<aG:=by
     rw[aB,cL]
     lia
    refine{_,Z9,.inl {Z9,_,SqL.of Y.hw},_,Z9,L.wl,_,_,Z9,Z9,Y.hw,ll,?_};have em:pr≠L.wl:=fun z=>by
     have y:=g.hw;rw[<- z,ep]at y
     cases y
    refine{_,_,_,Z9,?_,aN h2 em};rw[dh,hi,<- iX];exact Y.work _
   ·rintro σ G ⟨u9,J,M,rfl,Y,_⟩;rw[cF]at Y;refine p G vs hD {tc,by lia,?_};have z:=Y.pure w.rk (mT (x:=q) Y.ok.nu) (fun y hy=>by
     rcases kF hy with e|e
     ·exact Y.ok.su y e
     ·rw[e];exact aV _ hq)
    exact z
  |cons m ms=>
   rw[e1]at p a2 gq;refine gE (b:=false) (decide_eq_false (fun z=>by have:=lW z;rw[cw]at this;lia)) (dP ?_);have Y:=g.queue (x:=q) (l:=lq) (ns:=ms) a1 (by have:=gq.1;rw[cw]at this;lia) (fun z hz=>gq.2 z (aa _ hz));have g2:=Y.box (x:=x) (gq.2 m ax);refine aX ?_;refine{_,Z9,L.l,_,_,_,Z9,Z9,SqL.of g.hl,Z9,_,Z9,t,_,_,_,Z9,Z9,Z,Z9,L.qd,_,Z9,a3,.inl {Z9,_,SqL.of a2},lq,_,_,0,.int m,Z9,Z9,a2,(by decide),(by decide),(tZ (n:=((m::ms).map V.int).length) (i:=0) (j:=0) (by unfold ixN;rw[if_pos (by decide),if_pos (by rw[ai,cw];lia)];rfl)).1,Z9,?_};refine{_,Z9,L.l,_,_,_,Z9,Z9,SqL.of Y.hl,Z9,_,Z9,t,_,_,_,Z9,Z9,SqT.of (Y.sm _ _ U),Z9,L.bd,_,Z9,Y.putB hx,?_};dsimp only;refine aX ?_;refine{_,Z9,.inl {Z9,_,SqL.of g2.ht},_,Z9,t,_,_,_,Z9,Z9,SqT.of (g2.sm _ _ U),Z9,L.tl,_,_,Z9,Z9,g2.ht,by rw[ai];lia,?_};have g3:=g2.touch (x:=q) (aV _ hq);have eq:tc.map V.str++[V.str q]=(tc++[q]).map V.str:=by rw[aU];rfl
   rw[<- eq]at g3;have el:upd (upd (upd H lq (.lst (ms.map V.int))) L.bd (.dK (boK (jQ w.bx x m)))) L.tl (.lst (tc.map V.str++[V.str q])) L.tl=Z8 (.lst ((tc++[q]).map V.str)):=by rw[<- eq];exact ak
   dsimp only;refine{_,Z9,.inl {Z9,_,SqL.of el},_,Z9,t,_,_,_,Z9,Z9,SqT.of (g3.sm _ _ U),Z9,L.tl,_,_,Z9,Z9,el,by rw[ai,aB];exact fY (Nat.add_le_add_right (jZ lt) _) (by show 100000+1<aG;decide),?_};have g4:=g3.touch (x:=x) (dD _ hx);have ec:(tc++[q]).map V.str++[V.str x]=(tc++[q]++[x]).map V.str:=by rw[aU (l₁:=tc++[q])];rfl
   rw[<- ec]at g4;have sw:∀y∈iq (iq w.wr x) q,y∈bs++qs:=fun y hy=>by
    rcases kF hy with e|e
    ·rcases kF e with e|e
     ·exact g.ok.sw y e
     ·rw[e];exact dD _ hx
    ·rw[e];exact aV _ hq
   have nq:(iq w.qn q).Nodup:=mT g.ok.nu;have sq:∀y∈iq w.qn q,y∈bs++qs:=fun y hy=>by
    rcases kF hy with e|e
    ·exact g.ok.su y e
    ·rw[e];exact aV _ hq
   have g5:=(g4.pure w.rk nq sq).wrote (wr:=iq (iq w.wr x) q) (mT (mT g.ok.nw)) sw (fun y=>by
    show y∈iq (iq w.wr x) q↔y∈iq (iq w.wr q) x;rw[p6,p6,p6,p6];exact{fun z=>z.elim (fun z=>z.elim (fun z=>.inl (.inl z)) .inr) (fun z=>.inl (.inr z)),fun z=>z.elim (fun z=>z.elim (fun z=>.inl (.inl z)) .inr) (fun z=>.inl (.inr z))})
   exact p _ [] Z7 {tc++[q]++[x],by rw[aB,aB];exact aF _,by rw[ju,cB];exact g5}
 |put x F=>
  obtain⟨t,u,rfl,U,hx,O⟩:=(by simpa only[dR] using hd);have Z:=SqT.of (K:=K) (g.sm _ _ U);have I:x∈bs++qs:=dD _ hx;simp only[shD,doD,rck]at p;refine aX {_,Z9,t,_,_,_,Z9,Z9,Z,Z9,Z9,_,Z9,nx (by decide +kernel) (cU ?_)};dsimp only;refine aX {_,Z9,t,_,_,_,Z9,Z9,Z,Z9,Z9,_,Z9,nx (by decide +kernel) (cU ?_)};dsimp only;refine aX {_,Z9,t,_,_,_,Z9,Z9,Z,Z9,Z9,_,Z9,nx (by decide +kernel) (cU ?_)};dsimp only;refine aX (cH ?_);refine{_,Z9,t,_,_,_,Z9,Z9,Z,Z9,?_};refine bF ?_;dsimp only;refine aX {_,Z9,t,_,_,_,Z9,Z9,Z,Z9,Z9,_,Z9,nx (by decide +kernel) (cU ?_)};dsimp only;refine aX (cH ?_);refine{_,Z9,_,Z9,_,Z9,kh,_,_,_,Z9,Z9,SqT.of eo,Z9,_,Z9,u,F,bs,qs,L.l,L.bd,L.qd,gl,_,_,iz h w,Z9,g.hl,O.1.same g.sm,O.2,g.holds hg,g.asks,fun G1 s1=>?_};refine bF ?_;dsimp only;have W:=g.same s1;have Z:=SqT.of (K:=K) (W.sm _ _ U);have R:=W.sm _ _ hdl
  cases ee:ev (iz h w) F with
  |nought=>
   rw[ee]at p;exact aX {_,Z9,_,"str",_,true,Z9,.str _,jn,_,Z9,eM {_,Z9,p _ W.sm}}
  |great=>
   rw[ee]at p;exact aX {_,Z9,_,"str",_,true,Z9,.str _,jn,_,Z9,eM {_,Z9,p _ W.sm}}
  |ok n=>
  rw[ee]at p;dsimp only at p;have wn:Wo n:=kU g.asks (O.1.same g.sm) ee;refine aX {_,Z9,_,"str",_,false,Z9,.int n,kit_is,_,Z9,dP (cU ?_)};dsimp only;refine aX {_,Z9,t,_,_,_,Z9,Z9,Z,Z9,Z9,_,Z9,nx (by decide +kernel) (cU ?_)};dsimp only;refine aX ?_;refine{_,Z9,.inl {Z9,_,SqL.of W.ht},_,Z9,t,_,_,_,Z9,Z9,Z,Z9,L.tl,_,_,Z9,Z9,W.ht,by rw[ai];lia,?_};have Y:=W.touch (x:=x) I;have eq:tc.map V.str++[V.str x]=(tc++[x]).map V.str:=by rw[aU];rfl
  rw[<- eq]at Y;have Z:=SqT.of (K:=K) (Y.sm _ _ U);have R:=Y.sm _ _ hdl;dsimp only;have l2:(tc++[x]).length<=tc.length+2:=by rw[aB];exact gC (show 1<=2 by decide) _
  refine aX {_,Z9,t,_,_,_,Z9,Z9,Z,Z9,Z9,_,Z9,nx (by decide +kernel) (cU ?_)};dsimp only;refine aX {_,Z9,t,_,_,_,Z9,Z9,Z,Z9,Z9,_,Z9,yx ?_};refine aX ?_;refine{_,Z9,_,Z9,L.l,_,_,_,Z9,Z9,SqL.of Y.hl,Z9,_,Z9,t,_,_,_,Z9,Z9,Z,Z9,L.bd,_,Z9,Y.putB hx,?_};have g2:=Y.box (x:=x) wn;exact p _ [] Z7 {_,l2,by rw[ju,cB];exact g2.pure (w.rk++[F]) g.ok.nu g.ok.su}
 |push x F=>
  obtain⟨t,u,rfl,U,hx,O⟩:=(by simpa only[dR] using hd);have Z:=SqT.of (K:=K) (g.sm _ _ U);have I:x∈bs++qs:=aV _ hx;simp only[shD,doD,rck]at p;refine aX {_,Z9,t,_,_,_,Z9,Z9,Z,Z9,Z9,_,Z9,nx (by decide +kernel) (cU ?_)};dsimp only;refine aX {_,Z9,t,_,_,_,Z9,Z9,Z,Z9,Z9,_,Z9,nx (by decide +kernel) (cU ?_)};dsimp only;refine aX {_,Z9,t,_,_,_,Z9,Z9,Z,Z9,Z9,_,Z9,nx (by decide +kernel) (cU ?_)};dsimp only;refine aX (cH ?_);refine{_,Z9,t,_,_,_,Z9,Z9,Z,Z9,?_};refine bF ?_;dsimp only;refine aX {_,Z9,t,_,_,_,Z9,Z9,Z,Z9,Z9,_,Z9,nx (by decide +kernel) (cU ?_)};dsimp only;refine aX (cH ?_);refine{_,Z9,_,Z9,_,Z9,kh,_,_,_,Z9,Z9,SqT.of eo,Z9,_,Z9,u,F,bs,qs,L.l,L.bd,L.qd,gl,_,_,iz h w,Z9,g.hl,O.1.same g.sm,O.2,g.holds hg,g.asks,fun G1 s1=>?_};refine bF ?_;dsimp only;have W:=g.same s1;have Z:=SqT.of (K:=K) (W.sm _ _ U);have R:=W.sm _ _ hdl
  cases ee:ev (iz h w) F with
  |nought=>
   rw[ee]at p;exact aX {_,Z9,_,"str",_,true,Z9,.str _,jn,_,Z9,eM {_,Z9,p _ W.sm}}
  |great=>
   rw[ee]at p;exact aX {_,Z9,_,"str",_,true,Z9,.str _,jn,_,Z9,eM {_,Z9,p _ W.sm}}
  |ok n=>
  rw[ee]at p;dsimp only at p;have wn:Wo n:=kU g.asks (O.1.same g.sm) ee;refine aX {_,Z9,_,"str",_,false,Z9,.int n,kit_is,_,Z9,dP (cU ?_)};dsimp only;refine aX {_,Z9,t,_,_,_,Z9,Z9,Z,Z9,Z9,_,Z9,nx (by decide +kernel) (cU ?_)};dsimp only;refine aX ?_;refine{_,Z9,.inl {Z9,_,SqL.of W.ht},_,Z9,t,_,_,_,Z9,Z9,Z,Z9,L.tl,_,_,Z9,Z9,W.ht,by rw[ai];lia,?_};have Y:=W.touch (x:=x) I;have eq:tc.map V.str++[V.str x]=(tc++[x]).map V.str:=by rw[aU];rfl
  rw[<- eq]at Y;have Z:=SqT.of (K:=K) (Y.sm _ _ U);have R:=Y.sm _ _ hdl;dsimp only;have l2:(tc++[x]).length<=tc.length+2:=by rw[aB];exact gC (show 1<=2 by decide) _
  refine aX {_,Z9,t,_,_,_,Z9,Z9,Z,Z9,Z9,_,Z9,nx (by decide +kernel) (cU ?_)};dsimp only;refine aX {_,Z9,t,_,_,_,Z9,Z9,Z,Z9,Z9,_,Z9,nx (by decide +kernel) (cU ?_)};dsimp only;obtain⟨lq,a1,a2,a3⟩:=Y.getL hx;have gq:=qm g.ok hx;refine aX ?_;refine{_,Z9,L.l,_,_,_,Z9,Z9,SqL.of Y.hl,Z9,_,Z9,t,_,_,_,Z9,Z9,Z,Z9,L.qd,_,Z9,a3,lq,_,Z9,.inl (SqL.of a2),Z9,_,Z9,?_};rw[ai]
  by_cases c:(ie w.qu x).length=30
  ·rw[if_pos (by lia)]at p;refine gE (b:=true) (decide_eq_true (by show V.int (((ie w.qu x).length:Nat):Int)=V.int 30;rw[c];rfl)) (eM ?_);exact p _ Y.sm
  ·have cc:¬30<=(ie w.qu x).length:=by
    have:=gq.1
    lia
   rw[if_neg cc]at p;refine gE (b:=false) (decide_eq_false (fun z=>c (by have z2:=lW z;have z3:(((ie w.qu x).length:Nat):Int)=30:=z2;lia))) (dP (cU ?_));dsimp only;refine aX ?_;refine{_,Z9,L.l,_,_,_,Z9,Z9,SqL.of Y.hl,Z9,_,Z9,t,_,_,_,Z9,Z9,Z,Z9,L.qd,_,Z9,a3,.inl {Z9,_,SqL.of a2},_,Z9,lq,_,_,Z9,Z9,a2,by rw[ai];exact fY gq.1 (by decide),?_};have g2:=Y.queue (x:=x) (l:=lq) (ns:=ie w.qu x++[n]) a1 (by rw[aB];simp only[cw,cY];lia) (fun m hm=>by
    rcases bY.mp hm with z|z
    ·exact gq.2 m z
    ·rw[aD.mp z];exact wn)
   have eh:(ie w.qu x).map V.int++[V.int n]=(ie w.qu x++[n]).map V.int:=by rw[aU];rfl
   rw[<- eh]at g2;exact p _ [] Z7 ⟨_,l2,by rw[ju,cB];exact g2.pure (w.rk++[F]) (qn:=iq w.qn x) (mT g.ok.nu) (fun y hy=>by
    rcases kF hy with e|e
    ·exact g.ok.su y e
    ·rw[e];exact I)⟩
 |draw x F=>
  obtain⟨t,u,rfl,U,hx,O⟩:=(by simpa only[dR] using hd);have Z:=SqT.of (K:=K) (g.sm _ _ U);have I:x∈bs++qs:=dD _ hx;simp only[shD,doD,rck]at p;refine aX {_,Z9,t,_,_,_,Z9,Z9,Z,Z9,Z9,_,Z9,nx (by decide +kernel) (cU ?_)};dsimp only;refine aX {_,Z9,t,_,_,_,Z9,Z9,Z,Z9,Z9,_,Z9,nx (by decide +kernel) (cU ?_)};dsimp only;refine aX {_,Z9,t,_,_,_,Z9,Z9,Z,Z9,Z9,_,Z9,nx (by decide +kernel) (cU ?_)};dsimp only;refine aX (cH ?_);refine{_,Z9,t,_,_,_,Z9,Z9,Z,Z9,?_};refine bF ?_;dsimp only;refine aX {_,Z9,t,_,_,_,Z9,Z9,Z,Z9,Z9,_,Z9,nx (by decide +kernel) (cU ?_)};dsimp only;refine aX (cH ?_);refine{_,Z9,_,Z9,_,Z9,kh,_,_,_,Z9,Z9,SqT.of eo,Z9,_,Z9,u,F,bs,qs,L.l,L.bd,L.qd,gl,_,_,iz h w,Z9,g.hl,O.1.same g.sm,O.2,g.holds hg,g.asks,fun G1 s1=>?_};refine bF ?_;dsimp only;have W:=g.same s1;have Z:=SqT.of (K:=K) (W.sm _ _ U);have R:=W.sm _ _ hdl
  cases ee:ev (iz h w) F with
  |nought=>
   rw[ee]at p;exact aX {_,Z9,_,"str",_,true,Z9,.str _,jn,_,Z9,eM {_,Z9,p _ W.sm}}
  |great=>
   rw[ee]at p;exact aX {_,Z9,_,"str",_,true,Z9,.str _,jn,_,Z9,eM {_,Z9,p _ W.sm}}
  |ok n=>
  rw[ee]at p;dsimp only at p;have wn:Wo n:=kU g.asks (O.1.same g.sm) ee;refine aX {_,Z9,_,"str",_,false,Z9,.int n,kit_is,_,Z9,dP (cU ?_)};dsimp only;refine aX {_,Z9,t,_,_,_,Z9,Z9,Z,Z9,Z9,_,Z9,nx (by decide +kernel) (cU ?_)};dsimp only;refine aX ?_;refine{_,Z9,.inl {Z9,_,SqL.of W.ht},_,Z9,t,_,_,_,Z9,Z9,Z,Z9,L.tl,_,_,Z9,Z9,W.ht,by rw[ai];lia,?_};have Y:=W.touch (x:=x) I;have eq:tc.map V.str++[V.str x]=(tc++[x]).map V.str:=by rw[aU];rfl
  rw[<- eq]at Y;have Z:=SqT.of (K:=K) (Y.sm _ _ U);have R:=Y.sm _ _ hdl;dsimp only;have l2:(tc++[x]).length<=tc.length+2:=by rw[aB];exact gC (show 1<=2 by decide) _
  refine aX {_,Z9,t,_,_,_,Z9,Z9,Z,Z9,Z9,_,Z9,yx ?_};refine oW ?_;refine{_,Z9,_,Z9,_,Z9,_,Z9,H0,L,h,ds,_,_,_,t,dl,u,x,n,Z9,Y,U,hdl,hx,wn,ld,?_};unfold HF
  by_cases c1:n<1
  ·rw[if_pos c1]at p |-;exact p
  ·rw[if_neg c1]at p |-
   by_cases c2:ds=[]
   ·rw[if_pos c2]at p |-;exact p
   ·rw[if_neg c2]at p |-;exact fun G' g'=>p G' [] Z7 {_,l2,by rw[ju,cB];exact g'.pure (w.rk++[F]) g.ok.nu g.ok.su}
 |ife F a b=>
  obtain⟨t,u,u1,u2,rfl,U,O,hX,hY⟩:=(by simpa only[dR] using hd);have Z:=SqT.of (K:=K) (g.sm _ _ U);simp only[shD]at p;refine aX {_,Z9,t,_,_,_,Z9,Z9,Z,Z9,Z9,_,Z9,nx (by decide +kernel) (cU ?_)};dsimp only;refine aX {_,Z9,t,_,_,_,Z9,Z9,Z,Z9,Z9,_,Z9,nx (by decide +kernel) (cU ?_)};dsimp only;refine aX {_,Z9,t,_,_,_,Z9,Z9,Z,Z9,Z9,_,Z9,nx (by decide +kernel) (cU ?_)};dsimp only;refine aX (cH ?_);refine{_,Z9,t,_,_,_,Z9,Z9,Z,Z9,?_};refine bF ?_;dsimp only;refine aX {_,Z9,t,_,_,_,Z9,Z9,Z,Z9,Z9,_,Z9,yx ?_};refine cH ?_;refine{_,Z9,t,_,_,_,Z9,Z9,Z,Z9,?_};refine bF ?_;dsimp only;refine aX (cH ?_);refine{_,Z9,_,Z9,_,Z9,kh,_,_,_,Z9,Z9,SqT.of eo,Z9,_,Z9,u,F,bs,qs,L.l,L.bd,L.qd,gl,_,_,iz h w,Z9,g.hl,O.1.same g.sm,O.2,g.holds hg,g.asks,fun G1 s1=>?_};refine bF ?_;dsimp only;have W:=g.same s1;have Z:=SqT.of (K:=K) (W.sm _ _ U);have R:=W.sm _ _ hdl
  cases ee:ev (iz h w) F with
  |nought=>
   rw[ee]at p;exact aX {_,Z9,_,"str",_,true,Z9,.str _,jn,_,Z9,eM {_,Z9,p _ W.sm}}
  |great=>
   rw[ee]at p;exact aX {_,Z9,_,"str",_,true,Z9,.str _,jn,_,Z9,eM {_,Z9,p _ W.sm}}
  |ok n=>
  rw[ee]at p;dsimp only at p;have wn:Wo n:=kU g.asks (O.1.same g.sm) ee;refine aX {_,Z9,_,"str",_,false,Z9,.int n,kit_is,_,Z9,dP (cU ?_)};dsimp only;refine aX {_,Z9,t,_,_,_,Z9,Z9,Z,Z9,Z9,_,Z9,yx ?_};obtain⟨lb,vb,eb,ea,ej,ef⟩:∃(lb:ae) (vb:List V),H0 lb=Z8 (.lst vb)/\vb.length<1000/\eF bs qs H0 (if n=0 then b else a) vb/\atI [V.str "if",u,u1,u2] (2+(if decide (V.int n=V.int 0)=true then 1 else 0))=Z8 (.ref lb):=by
   by_cases c:n=0
   ·obtain⟨l,vs,e,h1,h2,h3⟩:=hY;rw[if_pos c,decide_eq_true (by rw[c]),if_pos rfl];exact{l,vs,h1,h2,h3,by rw[<- e];rfl}
   ·obtain⟨l,vs,e,h1,h2,h3⟩:=hX;rw[if_neg c,decide_eq_false (fun z=>c (lW z)),if_neg (by decide)];exact{l,vs,h1,h2,h3,by rw[<- e];rfl}
  refine aX ?_;refine{_,Z9,_,Z9,Z9,.inr {_,Z9,_,_,Z9,Z9,t,_,_,_,Z9,Z9,Z,ef,_,Z9,_,Z9,Z9,lb,vb,Z9,SqL.of (W.sm _ _ eb),fun pr ep=>?_}};have sp:=aH ep (.lst vb.reverse);refine⟨pr,Z9,{_,SqL.of ak},fX (K:=K) (a:=pr) (xs:=vb.reverse) (fun i σ G=>∃u9 J M:Option V,σ=[Z8 (.ref t),Z8 (.ref L.l),Z8 (.ref kh),Z8 (.int h.to),Z8 (.ref gl),Z8 (.ref dl),Z8 (.ref L.tl),Z8 (.ref L.nl),Z8 (.ref L.wl),u9,J,M]/\Rg bs qs H0 G L h w tc (ws++vb.reverse.take i)/\G pr=Z8 (.lst vb.reverse))
   {_,_,_,Z9,by rw[dE,cB];exact W.same sp,ak} ?_ ?_ ?_⟩
  ·rintro i σ G _ ⟨_,_,_,rfl,_,h2⟩;exact SqL.of h2
  ·rintro i x σ G hi ⟨u9,J,M,rfl,Y,h2⟩;have li:=(aC.mp hi).1;rw[eO]at li;have ll:(ws++vb.reverse.take i).length<aG:=by
    rw[aB,cL]
    lia
   refine{_,Z9,.inl {Z9,_,SqL.of Y.hw},_,Z9,L.wl,_,_,Z9,Z9,Y.hw,ll,?_};have em:pr≠L.wl:=fun z=>by
    have y:=W.hw;rw[<- z,ep]at y
    cases y
   refine{_,_,_,Z9,?_,aN h2 em};rw[dh,hi,<- iX];exact Y.work _
  ·rintro σ G ⟨u9,J,M,rfl,Y,_⟩;rw[cF]at Y;exact p G vb ej {tc,by lia,Y.pure (w.rk++[F]) g.ok.nu g.ok.su}
end
theorem yn{Z:Type}:∀{ps:List (Str×Z)} {i:Nat} {p:Str×Z},(ps.map (·.1)).Nodup->ps[i]?=Z8 p->ps.lookup p.1=Z8 p.2
 | [],i,p,_,h=>by simp at h
 |(a,b)::ps,0,p,_,h=>by
  simp at h;subst h;exact dJ
 |(a,b)::ps,i+1,p,W,h=>by
  have h:ps[i]?=Z8 p:=by simpa using h
  obtain⟨V,Y⟩:=cu.mp W;rw[cM,(beq_eq_false_iff_ne.mpr fun e=>V (by rw[<- e];exact cD.mpr {p,bJ h,Z9}))];exact yn Y h
structure CpNew(H G:Hp)(l:ae)(bx:List (Str×Int))(qu:List (Str×List Int))(dr:Nat)(se:Int)(bd qd:ae)(qa:List (Str×ae)):Prop where
 sm:bN H G
 hl:G l=Z8 (.lst [.ref bd,.ref qd,.int dr,.int se])
 hb:G bd=Z8 (.dK (boK bx))
 hq:G qd=Z8 (.dK (quK qa))
 hqs:eN G qa qu
 nd:(l::bd::qd::qa.map (·.2)).Nodup
 fr:∀a∈l::bd::qd::qa.map (·.2),H a=Z7
def m6(H:Hp)(sl:ae)(bx:List (Str×Int))(qu:List (Str×List Int))(dr:Nat)(se:Int):Prop:=
 ∃Y Z W,H sl=Z8 (.lst [.ref Y,.ref Z,.int dr,.int se])/\H Y=Z8 (.dK (boK bx))/\H Z=Z8 (.dK (quK W))/\eN H W qu
theorem m6.same{H H':Hp}(s:bN H H'){sl:ae}{bx:List (Str×Int)}{qu:List (Str×List Int)}{dr:Nat}{se:Int}(h:m6 H sl bx qu dr se):m6 H' sl bx qu dr se:=by
 obtain⟨U,Y,W,h1,h2,Z,V⟩:=h;exact{U,Y,W,s _ _ h1,s _ _ h2,s _ _ Z,V.same s}
inductive LB(vs:List V)(H:Hp)(Q:VK)(_e:XK):Prop where
 |mk(sl:ae)(bx:List (Str×Int))(qu:List (Str×List Int))(dr:Nat)(se:Int)(_:vs=[.ref sl])(_:m6 H sl bx qu dr se)(_:(qu.map (·.1)).Nodup)(_:qu.length<100)(_:∀(G:Hp) (l bd qd:ae) (qa:List (Str×ae)),CpNew H G l bx qu dr se bd qd qa->Q (.ref l) G):LB vs H Q _e
def spCp:Sp:=fun vs H Q Z=>LB vs H Q Z
section
variable{P:aQ}{w:bU}{K:af}{mg:Str->Option aj}{base:cG}{f:ae}{fd:cm}
seal PS PSs PE PA PT PW PI PG PGs PC
theorem NS:bX ["_law_state","_law_queues","_law_name"] ["_law_state"] (aT oK):=eQ
theorem ok_cp(D:Df K mg "_law_copy" oK ["_law_state"] f fd)(B:Bl mg):cg P w K mg base CX0 1 f fd ["_law_state"] spCp:=by
 refine D.F.ok NS (fun vs H Q E h=>?_) (fun cc A outer s H vs Q E hr h=>?_)
 ·obtain⟨sl,bx,qu,dr,se,rfl,_⟩:=h;rfl
 obtain⟨sl,bx,qu,dr,se,rfl,⟨bd,U,O,R,hb,hq,hl⟩,db,lq,k⟩:=h;have hu:=kS hr;refine⟨_,ag (pst 1 NS lO)
  (ag (BC (fq bV rfl (JY (aP cy (pv 0) ah)) (pgn 2 NS) (aA (i9 hu (pv 1) (pv 2) (gB lB (by rfl) B.list boot_list (gJ (iO hu (aP cy (pv 0) ah) (pv 2)) ao)) rfl))))
  (aA (bD (dO (jH (sF nC xR PySem.F.type_dict_copy E7 (aP cy (pv 0) ah)) (bj (pv 1) (gJ (aP cy (pv 0) ah) (gJ (aP cy (pv 0) ah) ao)))))))),?_⟩
 refine aX (cH ?_);intro d hd;refine bF ?_;have s1:bN H (upd H d (.dK [])):=aH hd _;have nf:∀(ob:Obj) (u:HO),H U≠Z8 (.frz ob u):=fun ob u z=>by
  rw[hq]at z
  cases z
 have I:=(ay hq hd).symm;have ce:(O.map (·.1)).Nodup:=by
  rw[hl.nm];exact db
 refine aX ({_,Z9,sl,_,_,_,Z9,Z9,SqL.of (s1 _ _ R),Z9,U,_,Z9,s1 _ _ hq,nf,fun od=>?_});refine Hw (d:=U) (od:=od) (kvs:=quK O) (fun i σ G=>∃(v2:Option V) (Z:List (Str×ae)),σ=[Z8 (.ref sl),Z8 (.ref d),v2]/\G U=Z8 (.frz od (.dK (quK O)))/\(∀b o,H b=Z8 o->b≠U->G b=Z8 o)/\G d=Z8 (.dK (quK Z)) /\
  eN G Z (qu.take i)/\(Z.map (·.2)).Nodup/\∀a∈Z.map (·.2),H a=Z7/\a≠d) {Z7,[],Z9,ak,fun b o e n=>?_,?_,?_,ji,fun a h=>by cases h} ?_ ?_ ?_
 ·rw[aW n];exact s1 _ _ e
 ·rw[aW I];exact ak
 ·rw[dE];exact .nil
 ·rintro i σ G _ ⟨_,_,_,h1,_⟩;exact h1
 ·rintro i kv σ G hi ⟨v2,Z,rfl,g1,g2,g3,g4,g5,g6⟩;obtain⟨p,hp,rfl⟩:∃p,O[i]?=Z8 p/\kv=((Sum.inr p.1:Key),V.ref p.2):=by
   unfold quK at hi;rw[bM]at hi
   cases z:O[i]? with
   |none=>
    rw[z]at hi
    cases hi
   |some p=>
    rw[z]at hi;injection hi with hi;subst hi;exact⟨p,Z9,Z9⟩
  obtain⟨q,ci,da,de⟩:=hl.nth hp;have dg:nr G U (.str p.1) (Z8 (.ref p.2)):=.inl {quK O,Sum.inr p.1,.inr ⟨od,g1⟩,Z9,(uU (yn ce hp)).symm};refine bF ?_;dsimp only;refine{_,Z9,sl,_,_,_,Z9,Z9,SqL.of (g2 _ _ R (jD R hq (by intro z;cases z))),Z9,_,Z9,U,_,Z9,dg,p.2,_,Z9,.inl (SqL.of (g2 _ _ de (jD de hq (by intro z;cases z)))),fun l Y=>?_};have J:=aH Y (.lst (q.2.map V.int));have tk:(qu.take (i+1))=qu.take i++[q]:=by
   rw[dh,ci];rfl
  have cd:p.1∉Z.map (·.1):=by
   rw[g4.nm,da];intro z;have cs:((qu.take (i+1)).map (·.1)).Nodup:=by
    rw[oh];exact db.sublist (hZ _ _)
   rw[tk,aU]at cs;exact (eR.mp cs).2.2 _ z q.1 (by simp) rfl
  have cp:(quK Z).length<aG:=by
   have z:=g4.len;rw[cL]at z;rw[rS];have:=dW
   lia
  have dp:=pJ.k (k:=Sum.inr p.1) (v:=.ref l) (J _ _ g3) cp;rw[yb cd]at dp;refine{_,Z9,_,Z9,d,_,Z9,dp,?_};have W:=Y;have dk:H l=Z7:=by
   cases z:H l with
   |none=>rfl
   |some o=>
    by_cases c:l=U
    ·rw[c,g1]at W
     cases W
    ·rw[g2 _ _ z c]at W
     cases W
  have cr:l≠d:=fun z=>by rw[z,g3]at W;cases W
  refine{_,Z++[(p.1,l)],Z9,?_,fun b o e n=>?_,ak,?_,?_,fun a ha=>?_}
  ·rw[aW I.symm];exact J _ _ g1
  ·rw[aW (ay e hd)];exact J _ _ (g2 _ _ e n)
  ·rw[tk];exact cS (eN.keep (L:={0,0,0,0,0,0,0,0,0,0,.non,.non,Z}) (fun a u e m=>aN (J _ _ e) (g6 a m).2) (fun _ h=>h) g4) {da,aN ak cr}
  ·rw[aU];refine eR.mpr {g5,by simp,fun a ha b hb=>?_};rw[aD.mp hb];intro z;obtain⟨pp,g,e⟩:=cD.mp ha;obtain⟨j,hj⟩:=cz g;obtain⟨_,_,_,y⟩:=g4.nth hj;rw[e,z,W]at y
   cases y
  ·rw[aU]at ha
   rcases bY.mp ha with z|z
   ·exact g6 a z
   ·rw[aD.mp z];exact⟨dk,cr⟩
 ·rintro σ G ⟨v2,Z,rfl,g1,g2,g3,g4,g5,g6⟩;rw[rS,hl.len,cF]at g4;refine{U,od,_,g1,nf,?_};have M:bN H (upd G U (.dK (quK O))):=fun b o e=>by
   by_cases c:b=U
   ·rw[c,ak];rw[c,hq]at e;exact e
   ·rw[aW c];exact g2 _ _ e c
  have di:upd G U (.dK (quK O)) d=Z8 (.dK (quK Z)):=aN g3 I;have dl:eN (upd G U (.dK (quK O))) Z qu:=
   eN.keep (L:={0,0,0,0,0,0,0,0,0,0,.non,.non,Z}) (fun a u e m=>aN e (ay hq (g6 a m).1).symm) (fun _ h=>h) g4
  generalize upd G U (.dK (quK O))=G2 at M di dl;refine{_,Z9,sl,_,_,_,Z9,Z9,SqL.of (M _ _ R),Z9,.inr (.inr (.inl {Z9,.inl {_,M _ _ hb}})),bd,_,Z9,Z9,M _ _ hb,fun e he=>?_};have t:=aH he (.dK (boK bx));refine{_,Z9,_,Z9,sl,_,_,_,Z9,Z9,SqL.of (t _ _ (M _ _ R)),Z9,_,Z9,sl,_,_,_,Z9,Z9,SqL.of (t _ _ (M _ _ R)),Z9,(by show 4<=aG;decide),fun l Y=>?_};have s4:=aH Y (.lst [.ref e,.ref d,.int dr,.int se]);have cj:=none_of M he;have dk:=none_of (M.trans t) Y;have dc:=t _ _ di;have cn:upd G2 e (.dK (boK bx)) e=_:=ak;refine k _ l e d Z {(M.trans t).trans s4,ak,s4 _ _ cn,s4 _ _ dc,(dl.same t).same s4,?_,?_}
  ·have ck:l≠e:=(ay cn Y).symm;have cl:l≠d:=(ay dc Y).symm;have cx:e≠d:=(ay di he).symm;have ql:∀a∈Z.map (·.2),∃o,G2 a=Z8 o:=fun a ha=>by
    obtain⟨pp,g,e⟩:=cD.mp ha;obtain⟨j,hj⟩:=cz g;obtain⟨_,_,_,y⟩:=dl.nth hj;rw[<- e];exact{_,y}
   refine cu.mpr {fun z=>?_,cu.mpr {fun z=>?_,cu.mpr {fun z=>(g6 d z).2 rfl,g5}}}
   ·rcases aE.mp z with z|z
    ·exact ck z
    ·rcases aE.mp z with z|z
     ·exact cl z
     ·obtain⟨o,y⟩:=ql l z;exact (ay (t _ _ y) Y) rfl
   ·rcases aE.mp z with z|z
    ·exact cx z
    ·obtain⟨o,y⟩:=ql e z;exact (ay y he) rfl
  ·intro a ha
   rcases aE.mp ha with z|z
   ·rw[z];exact dk
   ·rcases aE.mp z with z|z
    ·rw[z];exact cj
    ·rcases aE.mp z with z|z
     ·rw[z];exact hd
     ·exact (g6 a z).1
end
theorem HG{X:Cx}(K:af)(Z:X.K=K):OpR X (eE .In) (rIn K false):=by
 rw[<- Z];exact wD
theorem sU(xs:List Str):(xs.map V.str).all rD=true:=by
 induction xs with
 |nil=>rfl
 |cons x xs Z=>
  rw[cP,yJ,Z];rfl
theorem J5(x:Str)(xs:List Str):inV (.str x) (xs.map V.str)=decide (x∈xs):=by
 unfold inV
 induction xs with
 |nil=>rfl
 |cons y xs Z=>
  rw[cP,kO,Z];have e:eqV (.str y) (.str x)=decide (x=y):=by
   by_cases c:x=y
   ·subst c;simp[eqV]
   ·rw[decide_eq_false c];simp[eqV];exact fun z=>c z.symm
  rw[e]
  by_cases c:x=y
  ·subst c;simp
  ·simp[c]
theorem tH{W Y:Type}{R:W->Y->Prop}:∀{xs:List W} {ys:List Y} {y:Y},aO R xs (ys++[y])->∃Z x,xs=Z++[x]/\aO R Z ys/\R x y
 |_,[],_,.cons a b=>by
  cases b;exact{[],_,Z9,.nil,a}
 |_,_::ys,_,.cons a b=>by
  obtain⟨Z,x,e,h1,h2⟩:=tH b;exact{_::Z,x,by rw[e];rfl,.cons a h1,h2}
theorem q8{V W:Type}{R:V->W->Prop}{xs Z:List V}{ys Y:List W}(a:aO R xs ys)(b:aO R Z Y):aO R (xs++Z) (ys++Y):=by
 induction a with
 |nil=>exact b
 |cons h _ U=>exact .cons h U
theorem vv{Z Y:Type}{R:Z->Y->Prop}{xs:List Z}{ys:List Y}(a:aO R xs ys):aO R xs.reverse ys.reverse:=by
 induction a with
 |nil=>exact .nil
 |cons h _ W=>
  rw[jW,jW];exact q8 W (.cons h .nil)
theorem eF.pair{bs qs:List Str}{H:Hp}:∀(D:Ds) (vs:List V),eF bs qs H D vs->aO (fun v d=>dR bs qs H d v) vs D.toL
 |.nil,vs,h=>by
  simp only[eF]at h;subst h;exact .nil
 |.cons d r,vs,h=>by
  simp only[eF]at h;obtain⟨v,Z,rfl,h1,h2⟩:=h;exact .cons h1 (eF.pair r Z h2)
theorem Dd.size_pos(d:Dd):1<=d.size:=by
 cases d<;>simp only[Dd.size]<;>lia
theorem Ck:∀S:List Dd,S.length<=szL S
 | []=>aF _
 |d::S=>by
  have a:=Ck S;have b:=d.size_pos;show S.length+1<=(d.size::(S.map Dd.size)).sum;show S.length+1<=d.size+szL S
  lia
theorem HH(d:Dd)(S:List Dd):szL (d::S)=d.size+szL S:=by
 rfl
theorem NT{h:Ev}{ds:List Int}{d:Dd}{w:Wk}{p:Wk×Ds}(e:shD h ds d w=.ok p):p.1.out.length<=w.out.length+1:=by
 cases d with
 |pull q x o=>
  simp only[shD]at e
  split at e<;>cases e<;>exact e9 _
 |ife f t Y=>
  simp only[shD]at e
  split at e<;>cases e
  exact e9 _
 |put x f=>simp only[shD,doD,rck,zt]at e;(repeat' split at e)<;>cases e<;>simp_all<;>(repeat' split at *)<;>simp_all<;>subst_vars<;>simp
 |push q f=>simp only[shD,doD,rck]at e;(repeat' split at e)<;>cases e<;>simp_all<;>(repeat' split at *)<;>simp_all<;>subst_vars<;>simp
 |draw x f=>simp only[shD,doD,rck,zt]at e;(repeat' split at e)<;>cases e<;>simp_all<;>(repeat' split at *)<;>simp_all<;>subst_vars<;>simp
 |send to Z sp rk a b=>simp only[shD,doD,rck,KY]at e;(repeat' split at e)<;>cases e<;>simp_all<;>(repeat' split at *)<;>simp_all<;>subst_vars<;>simp
 |fin=>simp only[shD,doD]at e;(repeat' split at e)<;>cases e<;>simp_all<;>subst_vars<;>simp
section
variable{P:aQ}{w:bU}{K:af}{mg:Str->Option aj}{base:cG}{f fO fC:ae}{fd fdO fdC:cm}{bs qs:List Str}
seal PS PSs PE PA PT PW PI PG PGs PC
abbrev pLd:List Str:=["_law_machines","_law_state","_law_happening"]
abbrev nLd:List Str:=pLd++(["_law_key","_law_at","_law_sign","_law_one","_law_other","_law_machine_here","_law_work","_law_heard","_law_deeds_here","_law_touched","_law_news","_law_deed_here","_law_fault","_law_writes"]:List Str)
theorem o5:bX nLd pLd (aT j4):=eQ
theorem ndLd:((["_law_name","_law_worth"]:List Str)++nLd).Nodup:=by decide +kernel
theorem ndLe:((["_law_name"]:List Str)++nLd).Nodup:=by decide +kernel
structure LdOk(bs qs:List Str)(H G:Hp)(h:Ev)(w:Wk)(t l rc:ae):Prop where
 sm:bN H G
 ht:G t=Z8 (.tup [.ref l,.ref rc,.bl w.en])
 hl:m6 (Hid {[],H} G) l w.bx w.qu w.dr w.se
 hrc:RcIn (Hid {[],H} G) (.ref rc) {h,wrB bs w,wrQ qs w,w.out}
 ok:m5 bs qs w
inductive LC(bs qs:List Str)(vs:List V)(H:Hp)(Q:VK)(_e:XK):Prop where
 |mk(ml sl:ae)(ms:List V)(hv mv:V)(h:Ev)(ds:List Int)(hs:List (Str×Ds))(bx:List (Str×Int))(qu:List (Str×List Int))(dr:Nat)(se:Int)(_:vs=[.ref ml,.ref sl,hv])(_:H ml=Z8 (.lst ms))(_:fH H hv h)(_:atI ms h.to=Z8 mv)(_:tU bs qs ds hs H mv)(_:m6 H sl bx qu dr se)(_:m5 bs qs (w0 bx qu dr se))(_:Wo h.t)(_:Wo h.a)(_:Wo h.b)(_:ds.length<=1000)(_:(hs.map (·.1)).Nodup)(_:(iG hs h.sg).size<10000)(_:("the end":Str)∉bs++qs) (_:match doS h ds (iG hs h.sg) (w0 bx qu dr se) with
 |.ok w'=>∀(G:Hp) (t l rc:ae),LdOk bs qs H G h w' t l rc->Q (.ref t) G
 |.error e=>∀G,bN H G->Q (.str (kX e)) G):LC bs qs vs H Q _e
def NU(bs qs:List Str):Sp:=fun vs H Q Z=>LC bs qs vs H Q Z
theorem rg_sl{bs qs:List Str}{H G:Hp}{L:RL}{h:Ev}{w:Wk}{tc:List Str}{ws:List V}(g:Rg bs qs H G L h w tc ws):m6 (Hid {[],H} G) L.l w.bx w.qu w.dr w.se:=
 ⟨L.bd,L.qd,L.qa,by rw[fJ (jg (g.fr _ (by simp[RL.all])))];exact g.hl,by rw[fJ (jg (g.fr _ (by simp[RL.all])))];exact g.hb,by rw[fJ (jg (g.fr _ (by simp[RL.all])))];exact g.hq,g.hqs.hid fun a ha=>jg (g.fr a (by
  exact aa _ (aa _ (aa _ (aa _ (aa _ (aa _ ha)))))))⟩
theorem NV{H G:Hp}(s:bN H G):∀a∈({[],H}:Ex),∃o,G a=Z8 o/\∀xs,o≠.tup xs:=fun a ha=>ha.elim (fun z=>by cases z) fun⟨o,e,n⟩=>{o,s _ _ e,n}
theorem HI{H:Hp}{Z:List (Str×ae)}{y:Str}{b:ae}(n:∀a∈Z.map (·.2),H a=Z7)(h:H b=Z7):∀a∈(Z++[(y,b)]).map (·.2),H a=Z7:=fun a ha=>by
 rw[aU]at ha
 rcases bY.mp ha with z|z
 ·exact n a z
 ·rw[aD.mp z];exact h
theorem ok_ld(D:Df K mg "_law_done" j4 pLd f fd)(DO:Df K mg "_law_one_deed" jP pOd fO fdO)(GO:cg P w K mg base CX0 18 fO fdO pOd (spOd bs qs))(DC:Df K mg "_law_copy" oK ["_law_state"] fC fdC)(B:Bl mg):cg P w K mg base CX0 19 f fd pLd (NU bs qs):=by
 have GC:cg P w K mg base CX0 1 fC fdC ["_law_state"] spCp:=ok_cp DC B;refine D.F.ok o5 (fun vs H Q E h=>?_) (fun iv A outer s H vs Q E hr h=>?_)
 ·obtain⟨ml,sl,ms,hv,mv,h,ds,hs,bx,qu,dr,se,rfl,_⟩:=h;rfl
 obtain⟨ml,sl,ms,hv,mv,h,ds,hs,bx,qu,dr,se,rfl,jl,hE,ki,hM,hS,ok,wt,wa,wb,ld,kz,nH,ko,p⟩:=h;have hu:=kS hr;have r1:e8 1 _:=hr.mono (by lia);refine⟨_,ag (pf (pv 2) (sj rfl (eP (pgn 3 o5) (eP (pgn 4 o5) (eP (pgn 5 o5) (eP (pgn 6 o5) (eP (pgn 7 o5) lu)))))))
  (ag (pst 8 o5 (aP cy (pv 0) (pv 4)))
  (ag (qP (i:=1) o5.nd rfl (by first|exact Or.inl rfl|exact Or.inr rfl) (pcl GC r1 DC (bj (pv 1) ao)))
  (ag (pst 9 o5 (dO ao))
  (ag (fq bV rfl (fc (aP aY (pv 8) ah)) (sj rfl (eP (pgn 10 o5) (eP (pgn 11 o5) lu))) (aA (cC (aZ cZ (pv 10) (pv 5)) (aA (pst 9 o5 (AF (pv 11) (lA (sX pk ah))))) bL)))
  (ag (qP (i:=12) o5.nd rfl (by first|exact Or.inl rfl|exact Or.inr rfl) (dO ao))
  (ag (qP (i:=13) o5.nd rfl (by first|exact Or.inl rfl|exact Or.inr rfl) (dO ao))
  (ag (rp bV (aZ lI (cq (c7 K (by rfl)) (by rfl) B.len bO (bj (pv 9) ao)) ah) (ag (pst 14 o5 (sF aL jX jY EW (pv 9)))
  (ag (pst 15 o5 (pcl GO hr DO (bj (pv 14) (bj (pv 1) (bj (pv 3) (bj (pv 4) (AU (dO (bj (pv 6) (bj (pv 7) ao))) (gJ (aP aY (pv 8) ah) (bj (pv 12) (bj (pv 13) (bj (pv 9) ao)))))))))))
  (aA (cC (aZ Bj (pv 15) bP) (aA (bD (pv 15))) bL)))))
  (ag (xO (i:=16) ["_law_name","_law_worth"] (iU.open (NN:=nLd) (N:=nLd) (sc:=aT j4) rfl rfl (by decide +kernel) rfl (by decide +kernel) (by decide +kernel) rfl (by decide +kernel)) rfl o5.nd rfl (Or.inl rfl) (fc (aP aY (pv 8) ah)) (fun _ _ _ _=>uo (n:=2) K (by rfl) rfl (eP (iw (i:=0) ndLd rfl (Or.inl rfl)) (eP (iw (i:=1) ndLd rfl (Or.inl rfl)) lu))) (fun _ _ _ _=>Bx (aZ (HG K (by rfl)) (pv 0) (pv 14) (by rfl))) (fun _ _ _ _=>cW (bj (pv 0) (gJ (iO (by exact hu) (aP (uX K (by rfl)) (pv 3) ah) (pv 0)) ao))))
  (ag (qP (i:=16) o5.nd rfl (by first|exact Or.inl rfl|exact Or.inr rfl) (cI xA (pv 16) (oA ["_law_name"] (iU.open (NN:=nLd) (N:=nLd) (sc:=aT j4) rfl rfl (by decide +kernel) rfl (by decide +kernel) (by decide +kernel) rfl (by decide +kernel)) rfl (fc (aP aY (pv 8) ah)) (fun _ _ _ _=>iw (i:=0) ndLe rfl (Or.inl rfl)) (fun _ _ _ _=>Bx (aZ (HG K (by rfl)) (pv 0) (pv 13) (by rfl))) (fun _ _ _ _=>cW (bj (pv 0) (jH (gB (zA K (by rfl)) (by rfl) B.list boot_list (gJ (iO (by exact hu) (aP (uX K (by rfl)) (pv 2) ah) (pv 0)) ao)) ao))))))
  (aA (bD (cW (bj (pv 1) (j5 (cW (bj (pv 3) (bj (pv 4) (bj (pv 5) (bj (pv 6) (bj (pv 7) (bj (pv 16) (bj (pv 13) ao)))))))) (aq (mC wD bP (pv 12) (by rfl)) ao))))))))))))))),?_⟩
 have big:=dW;obtain⟨th,kh,rfl,li,ma⟩:=id hE;obtain⟨tm,bl,ql,dl,hl,nm,vb,lg,rfl,nM,mF,pb,ln,hdl,ll,ph⟩:=hM.ex;refine aX (cH ?_);refine{_,Z9,th,_,Z9,SqT.of li,Z9,_,_,Z9,_,_,Z9,_,_,Z9,_,_,Z9,_,_,Z9,Z9,?_};dsimp only;refine aX (cH ?_);refine{_,Z9,_,Z9,ml,_,_,_,Z9,Z9,SqL.of jl,ki,?_};refine bF ?_;dsimp only;refine aX (cH ?_);refine{_,Z9,sl,bx,qu,dr,se,Z9,hS,(by have z:=ok.nq;rw[<- ok.kq]at z;exact z),(by have z:=ok.fw;have e:=congrArg jK ok.kq;rw[ai]at e;rw[aB]at z;have e2:qu.length=qs.length:=e;lia),fun Gc l bd qd qa C=>?_};refine bF ?_;dsimp only;refine aX (cH ?_);refine{bE _,fun w1 mN=>?_};refine bF ?_;dsimp only;have s1:=aH mN (.lst []);refine aX ?_;refine{_,Z9,tm,_,_,_,Z9,Z9,SqT.of (s1 _ _ (C.sm _ _ nM)),Z9,hl,Z9,{_,SqL.of (s1 _ _ (C.sm _ _ ll))},?_};refine fX (K:=K) (a:=hl) (xs:=lg) (fun i σ G=>∃(oi nQ:Option V) (J:ae) (vs:List V) (DD:Ds),σ=[Z8 (.ref ml),Z8 (.ref l),Z8 (.ref th),Z8 (.ref kh),Z8 (.int h.to),Z8 (.str h.sg),Z8 (.int h.a),Z8 (.int h.b),Z8 (.ref tm),Z8 (.ref J),oi,nQ,Z7,Z7,Z7,Z7,Z7] /\
   bN Gc G/\Gc J=Z7/\G J=Z8 (.lst vs.reverse)/\vs.length<1000/\eF bs qs H DD vs/\((DD=.nil/\∀j q,j<i->hs[j]?=Z8 q->q.1≠h.sg)\/∃j q,j<i/\hs[j]?=Z8 q/\q.1=h.sg/\DD=q.2))
  {_,_,w1,[],.nil,Z9,s1,mN,ak,(by show 0<1000;decide),(by simp only[eF]),.inl {Z9,fun j q hj=>absurd hj (iP _)}} ?_ ?_ ?_
 ·rintro i σ G _ ⟨_,_,J,vs,DD,rfl,sG,_⟩;exact SqL.of (sG _ _ (C.sm _ _ ll))
 ·intro i x σ G hi qz;refine Z0 fun Gz gz=>?_;obtain⟨oi,nQ,J,vs,DD,rfl,sG,ob,os,nn,nO,nz⟩:=qz;refine gz ?_;obtain⟨q,hq,tq,uq,rfl,jp,lq,vq,rfl,ku,ke,lb⟩:=iJ ph hi;have ly:=C.sm.trans sG;refine{tq,_,Z9,SqT.of (ly _ _ jp),Z9,_,_,Z9,_,_,Z9,Z9,?_};dsimp only;refine{_,Z9,_,Z9,Z9,_,Z9,gr (fun c=>?_) (fun c=>cU ?_)}
  ·have c:q.1=h.sg:=iM (fK c);refine cH ?_;refine{_,Z9,_,Z9,_,Z9,Z9,lq,vq,Z9,SqL.of (ly _ _ ku),fun pr mx=>?_};refine bF ?_;exact{_,_,pr,vq,q.2,Z9,sG.trans (aH mx _),none_of sG mx,ak,ke,lb,.inr {i,q,jv _,hq,c,Z9}}
  ·have c:q.1≠h.sg:=fun z=>gR c (by rw[z]);refine{_,_,J,vs,DD,Z9,sG,ob,os,nn,nO,nz.elim (fun z=>.inl {z.1,fun j q' hj oe=>?_}) fun⟨j,q',z1,z2,z3,z4⟩=>.inr {j,q',gv z1,z2,z3,z4}}
   rcases Nat.lt_or_eq_of_le (Nat.le_of_lt_succ hj) with y|y
   ·exact z.2 j q' y oe
   ·subst y;rw[hq]at oe;injection oe with oe;subst oe;exact c
 intro σ G1 qz;refine Z0 fun Gz gz=>?_;obtain⟨oi,nQ,J,vs,DD,rfl,sG,ob,os,nn,nO,nz⟩:=qz;refine gz ?_;dsimp only;have eD:iG hs h.sg=DD:=by
  unfold iG
  rcases nz with⟨z1,z2⟩|⟨j,q,_,z2,z3,z4⟩
  ·cases y:hs.lookup h.sg with
   |none=>rw[z1];rfl
   |some a=>
    obtain⟨j,hj⟩:=cz (kH y);have lj:=(aC.mp hj).1;exact absurd rfl (z2 j _ (by rw[aM ph];exact lj) hj)
  ·rw[<- z3,yn kz z2,z4];rfl
 rw[eD]at p nH;refine aX (cH ?_);refine{bE _,fun tl nP=>?_};refine bF ?_;dsimp only;have s2:=aH nP (.lst []);refine aX (cH ?_);refine{bE _,fun nl nW=>?_};refine bF ?_;dsimp only;have s3:=aH nW (.lst []);have ot:=sG.trans (s2.trans s3);have g0:Rg bs qs H (upd (upd G1 tl (.lst [])) nl (.lst [])) ⟨l,bd,qd,tl,nl,J,qa⟩ h (w0 bx qu dr se) [] vs.reverse:=by
  have mL:=none_of sG nP;have lx:=none_of (sG.trans s2) nW;have mM:tl≠nl:=ay (ak:upd G1 tl (.lst []) tl=_) nW;have mt:tl≠J:=(ay os nP).symm;have mn:nl≠J:=(ay (s2 _ _ os) nW).symm;have kt:∀a∈l::bd::qd::qa.map (·.2),∃o,Gc a=Z8 o:=fun a ha=>by
   rcases aE.mp ha with z|ha
   ·rw[z];exact{_,C.hl}
   rcases aE.mp ha with z|ha
   ·rw[z];exact{_,C.hb}
   rcases aE.mp ha with z|ha
   ·rw[z];exact{_,C.hq}
   obtain⟨pp,lh,e⟩:=cD.mp ha;obtain⟨j,hj⟩:=cz lh;obtain⟨_,_,_,y⟩:=C.hqs.nth hj;rw[<- e];exact{_,y}
  have out:∀{b:ae},Gc b=Z7->b∉l::bd::qd::qa.map (·.2):=fun {b} n m=>by
   obtain⟨o,z⟩:=kt b m;rw[n]at z
   cases z
  have o1:=out mL;have o2:=out lx;have o3:=out ob;refine{C.sm.trans ot,ot _ _ C.hl,ot _ _ C.hb,ot _ _ C.hq,C.hqs.same ot,s3 _ _ ak,{[],ak,.nil},s3 _ _ (s2 _ _ os),?_,?_,ok,wt,wa,wb,fun x _=>Iff.rfl,{fun z=>(by cases z),fun z=>(by cases z)},ko}
  ·have nd:=C.nd;show (l::bd::qd::tl::nl::J::qa.map (·.2)).Nodup;simp only[cu,aE,not_or]at nd o1 o2 o3 |-;obtain⟨⟨d1,d2,d3⟩,⟨d4,d5⟩,d6,d7⟩:=nd;obtain⟨a1,a2,a3,a4⟩:=o1;obtain⟨b1,b2,b3,b4⟩:=o2;obtain⟨c1,c2,c3,c4⟩:=o3;exact{{d1,d2,dB a1,dB b1,dB c1,d3},{d4,dB a2,dB b2,dB c2,d5},{dB a3,dB b3,dB c3,d6},⟨mM,mt,a4⟩,⟨mn,b4⟩,c4,d7}
  ·intro a ha;change a∈l::bd::qd::tl::nl::J::qa.map (·.2) at ha;simp only[aE]at ha;have fr:=C.fr
   rcases ha with z|z|z|z|z|z|z
   ·exact fr a (by rw[z];exact ax)
   ·exact fr a (by rw[z];exact aa _ ax)
   ·exact fr a (by rw[z];exact aa _ (aa _ ax))
   ·rw[z];exact none_of C.sm mL
   ·rw[z];exact none_of C.sm lx
   ·rw[z];exact none_of C.sm ob
   ·exact fr a (aa _ (aa _ (aa _ z)))
 generalize upd (upd G1 tl (.lst [])) nl (.lst [])=G2 at g0;generalize hL:(⟨l,bd,qd,tl,nl,J,qa⟩:RL)=L at g0;have e1:l=L.l:=by rw[<- hL]
 have e2:J=L.wl:=by rw[<- hL]
 have e3:tl=L.tl:=by rw[<- hL]
 have e4:nl=L.nl:=by rw[<- hL]
 rw[e1,e2,e3,e4];clear e1 e2 e3 e4 hL;have pS:=vv (eF.pair DD vs nO);rw[HC]at p;have mW:szL DD.toL<10000:=by rw[ym];exact nH
 generalize DD.toL=S0 at p mW pS;generalize vs.reverse=wv at g0 pS;clear nz eD nO os ob sG ot s1 s2 s3 nP nW mN nn;refine aX ?_;refine⟨fun m σ G=>∃(S:List Dd) (Z:Wk) (tc:List Str) (ws:List V) (nB nD:Option V),σ=[Z8 (.ref ml),Z8 (.ref L.l),Z8 (.ref th),Z8 (.ref kh),Z8 (.int h.to),Z8 (.str h.sg),Z8 (.int h.a),Z8 (.int h.b),Z8 (.ref tm),Z8 (.ref L.wl),oi,nQ,Z8 (.ref L.tl),Z8 (.ref L.nl),nB,nD,Z7] /\
   Rg bs qs H G L h Z tc ws/\aO (fun v d=>dR bs qs H d v) ws S.reverse/\doL h ds S Z=doL h ds S0 (w0 bx qu dr se)/\m=szL S/\szL S<10000/\Z.out.length+szL S<20000/\tc.length+2*szL S<40000,{_,S0,w0 bx qu dr se,[],wv,_,_,Z9,g0,pS,Z9,Z9,mW,(by show 0+_<_;lia),(by show 0+_<_;lia)},?_⟩
 intro m σ G qz;refine Z0 fun Gz gz=>?_;obtain⟨S,Z,tc,ws,nB,nD,rfl,g,pw,eL,rfl,bS,bo,bt⟩:=qz;refine gz ?_;refine qp (K:=K) rfl g.hw _ ?_;have lw:ws.length=S.length:=by
  have z:=aM pw;rw[eO]at z;exact z
 cases S with
 |cons d r=>
  rw[decide_eq_true (show (0:Int)<ws.length by rw[lw];show (0:Int)<((r.length+1:Nat):Int);lia)];refine eM ?_;refine⟨fun ky G'=>∃m',m'<szL (d::r)/\∃(S:List Dd) (Z:Wk) (tc:List Str) (ws:List V) (nB nD:Option V),ky=[Z8 (.ref ml),Z8 (.ref L.l),Z8 (.ref th),Z8 (.ref kh),Z8 (.int h.to),Z8 (.str h.sg),Z8 (.int h.a),Z8 (.int h.b),Z8 (.ref tm),Z8 (.ref L.wl),oi,nQ,Z8 (.ref L.tl),Z8 (.ref L.nl),nB,nD,Z7] /\
   Rg bs qs H G' L h Z tc ws/\aO (fun v d=>dR bs qs H d v) ws S.reverse/\doL h ds S Z=doL h ds S0 (w0 bx qu dr se)/\m'=szL S/\szL S<10000/\Z.out.length+szL S<20000/\tc.length+2*szL S<40000,fun _ _ z=>z,?_⟩
  rw[jW]at pw;obtain⟨R,v,rfl,lm,hd⟩:=tH pw;have lst:(R++[v])[(R++[v]).length-1]?=Z8 v:=by
   rw[aB];show (R++[v])[R.length+1-1]?=_;rw[Ho,dM (aF _),AR];rfl
  refine aX (cH ?_);refine{_,Z9,.inl {Z9,_,SqL.of g.hw},L.wl,_,v,Z9,Z9,g.hw,lst,?_};rw[qL];have I:=g.work R;generalize upd G L.wl (.lst R)=Ga at I;refine bF ?_;dsimp only;refine aX (cH ?_);refine{_,Z9,_,Z9,_,Z9,_,Z9,_,Z9,_,Z9,lt2,fun gl kc=>?_};have s4:=aH kc (.lst [.int h.a,.int h.b]);have g2:=I.same s4;have no:upd Ga gl (.lst [.int h.a,.int h.b]) gl=Z8 (.lst [.int h.a,.int h.b]):=ak;generalize upd Ga gl (.lst [.int h.a,.int h.b])=Gb at g2 no;have nH:=HH d r;have ix:=d.size_pos;have lr:=Ck r;have ij:R.length=r.length:=by
   have z:=aM lm;rw[eO]at z;exact z
  refine{_,Z9,tm,_,_,_,Z9,Z9,SqT.of (g2.sm _ _ nM),Z9,_,Z9,_,Z9,_,Z9,H,L,h,ds,Z,tc,R,v,kh,gl,dl,d,Z9,g2,hd,ma,no,hdl,ld,(by lia),(by lia),(by lia),?_};rw[HD]at eL
  cases es:shD h ds d Z with
  |error e=>
   rw[es]at eL;change Except.error e=_ at eL;rw[<- eL]at p;intro G' U;refine bF ?_;dsimp only;refine{_,Z9,Z9,_,Z9,?_};refine gE (b:=true) (by cases e<;>rfl) (eM ?_);exact{_,Z9,p G' U}
  |ok q=>
   rw[es]at eL;change doL h ds (q.2.toL++r) q.1=_ at eL;rintro G' kv mz ⟨kw,ja,g3⟩;have zs:=J4 es;have zo:=NT es;have zz:szL (q.2.toL++r)=q.2.size+szL r:=by rw[J3,ym]
   refine bF ?_;dsimp only;refine{_,Z9,Z9,_,Z9,?_};refine gE (b:=false) rfl (dP (cU ?_));refine{_,(by rw[zz];lia),q.2.toL++r,q.1,kw,R++kv.reverse,_,_,Z9,g3,?_,eL,Z9,(by lia),(by lia),(by lia)};rw[List.reverse_append];exact q8 lm (vv (eF.pair _ _ mz))
 |nil=>
  have e:ws=[]:=kY lw;subst e;refine dP ?_;change Except.ok Z=_ at eL;rw[<- eL]at p;dsimp only at p |-;clear eL pw bS bo bt lw g0 pS mW nH;have fw:=g.ok.fw;rw[aB]at fw;have mc:=g.sm _ _ nM;have nf:∀x:Str,inV (.str x) (tc.map V.str)=decide (x∈tc):=fun x=>J5 x tc;have mq:∀x∈bs++qs,decide (x∈tc)=decide (x∈Z.wr):=fun x hx=>by
   by_cases c:x∈tc
   ·rw[decide_eq_true c,decide_eq_true ((g.tw x hx).mp c)]
   ·rw[decide_eq_false c,decide_eq_false (fun z=>c ((g.tw x hx).mpr z))]
  refine aX (cH ?_);refine vc (K:=K) (a:=bl) (xs:=vb) rfl (SqT.of mc) rfl (SqL.of (g.sm _ _ mF)) (fun i ys G'=>bN G G'/\aO (vQ G') ys (((bs.take i).filter fun x=>decide (x∈Z.wr)).map fun x=>(x,qU Z.bx x))) {bN.refl _,by rw[dE];exact .nil} ?_ ?_ ?_
  ·rintro i ys G' hi ⟨U,O⟩;have lf:(((bs.take i).filter fun x=>decide (x∈Z.wr)).map fun x=>(x,qU Z.bx x)).length<=bs.length:=by
    rw[ai];refine cR (dX _ _) ?_;rw[cL]
    lia
   have lw:=aM O;exact{SqL.of (U _ _ (g.sm _ _ mF)),by lia}
  ·rintro i x ys G' hi ⟨U,O⟩;have I:=g.same U;obtain⟨y,hy,a,n,rfl,ha⟩:=iJ pb hi;have ha:=I.sm _ _ ha;have my:y∈bs:=bJ hy;have ft:=mU (p:=fun x=>decide (x∈Z.wr)) hy;refine{a,_,Z9,SqT.of ha,Z9,_,_,Z9,_,_,Z9,Z9,Z9,?_};refine{_,Z9,_,Z9,L.tl,_,Z9,.inl (SqL.of I.ht),Z9,sU tc,_,Z9,?_};show (if (if false=true then !inV (.str y) (tc.map V.str) else inV (.str y) (tc.map V.str))=true then _ else _);rw[if_neg (by decide:¬(false=true)),nf,mq y (dD _ my)]
   by_cases c:y∈Z.wr
   ·rw[if_pos (decide_eq_true c)]at ft;rw[decide_eq_true c];refine eM ?_;refine{_,Z9,_,Z9,L.l,_,_,_,Z9,Z9,SqL.of I.hl,Z9,_,Z9,L.bd,_,Z9,(by have z:=nr.k (k:=Sum.inr y) I.hb;rw[xY (by rw[I.ok.kb];exact my)]at z;exact z),lt2,fun tt na=>?_};have M:=aH na (.tup [.str y,.int (qU Z.bx y)]);refine{U.trans M,?_};rw[ft,aU];exact cS (Paired.mono (fun _ _ z=>z.keep fun b xs e=>M _ _ e) O) ⟨tt,Z9,ak⟩
   ·rw[if_neg (by rw[decide_eq_false c];decide),cB]at ft;rw[decide_eq_false c];refine dP {U,?_};rw[ft];exact O
  rintro Y G3 ⟨mG,nh⟩ nR nt;have js:vb.length=bs.length:=aM pb;rw[js,cF]at nh;have s5:=aH nt (.lst Y);have nu:upd G3 nR (.lst Y) nR=Z8 (.lst Y):=ak;have nT:=Paired.mono (S:=vQ (upd G3 nR (.lst Y))) (fun _ _ z=>z.keep fun b xs e=>s5 _ _ e) nh;have lP:=mG.trans s5;generalize upd G3 nR (.lst Y)=G4 at nu nT lP;clear nh s5 nt mG;have g4:=g.same lP;refine bF ?_;dsimp only;refine aX (cH ?_);refine{_,Z9,?_};refine vc (K:=K) (a:=ql) (xs:=qs.map V.str) rfl (SqT.of (g4.sm _ _ nM)) rfl (SqL.of (g4.sm _ _ ln)) (fun i ys G'=>∃qa:List (Str×ae),(∀a∈qa.map (·.2),H a=Z7)/\bN G4 G'/\aO (vR G') ys qa/\eN G' qa (((qs.take i).filter fun x=>decide (x∈Z.wr)).map fun x=>(x,ie Z.qu x))) {[],(fun a ha=>by cases ha),bN.refl _,.nil,by rw[dE];exact .nil} ?_ ?_ ?_
  ·rintro i ys G' hi ⟨nS,ol,U,O,nw⟩;have lf:(((qs.take i).filter fun x=>decide (x∈Z.wr)).map fun x=>(x,ie Z.qu x)).length<=qs.length:=by
    rw[ai];refine cR (dX _ _) ?_;rw[cL]
    lia
   have lw:=aM O;have io:=aM nw;exact{SqL.of (U _ _ (g4.sm _ _ ln)),by lia}
  ·rintro i x ys G' hi ⟨nS,ol,U,O,nw⟩;have I:=g4.same U;obtain⟨y,hy,rfl⟩:∃y,qs[i]?=Z8 y/\x=.str y:=by
    rw[bM]at hi
    cases z:qs[i]? with
    |none=>
     rw[z]at hi
     cases hi
    |some y=>
     rw[z]at hi
     cases hi;exact⟨y,Z9,Z9⟩
   have my:y∈qs:=bJ hy;have ft:=mU (p:=fun x=>decide (x∈Z.wr)) hy;refine bF {Z9,?_};refine{_,Z9,_,Z9,L.tl,_,Z9,.inl (SqL.of I.ht),Z9,sU tc,_,Z9,?_};show (if (if false=true then !inV (.str y) (tc.map V.str) else inV (.str y) (tc.map V.str))=true then _ else _);rw[if_neg (by decide:¬(false=true)),nf,mq y (aV _ my)]
   by_cases c:y∈Z.wr
   ·rw[if_pos (decide_eq_true c)]at ft;rw[decide_eq_true c];obtain⟨lz,h1,h2,h3⟩:=I.getL my;refine eM ?_;refine{_,Z9,_,Z9,L.l,_,_,_,Z9,Z9,SqL.of I.hl,Z9,_,Z9,L.qd,_,Z9,h3,lz,_,Z9,.inl (SqL.of h2),fun nq lv=>{lt2,fun tt na=>?_}};have sn:=aH lv (.lst ((ie Z.qu y).map V.int));have M:=aH na (.tup [.str y,.ref nq]);refine{nS++[(y,nq)],HI ol (none_of I.sm lv),(U.trans sn).trans M,cS (Paired.mono (fun _ _ z=>z.keep fun b xs e=>M _ _ (sn _ _ e)) O) ⟨tt,Z9,ak⟩,?_};rw[ft,aU];exact cS ((nw.same sn).same M) {Z9,M _ _ ak}
   ·rw[if_neg (by rw[decide_eq_false c];decide),cB]at ft;rw[decide_eq_false c];refine dP {nS,ol,U,O,?_};rw[ft];exact nw
  rintro W G5 ⟨nS,ol,mS,lp,nb⟩ w2 lc;rw[ai,cF]at nb;have s6:=aH lc (.lst W);have l1:=aM nT;have l2:=aM lp;have l3:=aM nb;have ii:((bs.filter fun x=>decide (x∈Z.wr)).map fun x=>(x,qU Z.bx x)).length<=bs.length:=by
   rw[ai];exact dX _ _
  have im:((qs.filter fun x=>decide (x∈Z.wr)).map fun x=>(x,ie Z.qu x)).length<=qs.length:=by
   rw[ai];exact dX _ _
  refine{nR,w2,Y,W,Z9,Z9,s6 _ _ (mS _ _ nu),ak,by lia,fun w3 mu=>?_};have lk:H w3=Z7:=none_of ((g4.sm.trans mS).trans s6) mu;have s7:=aH mu (.lst (Y++W));have mD:=(mS.trans s6).trans s7;have g7:=g4.same mD;have mb:=Paired.mono (S:=vQ (upd (upd G5 w2 (.lst W)) w3 (.lst (Y++W)))) (fun _ _ z=>z.keep fun b xs e=>mD _ _ e) nT;have ls:=Paired.mono (S:=vR (upd (upd G5 w2 (.lst W)) w3 (.lst (Y++W)))) (fun _ _ z=>z.keep fun b xs e=>s7 _ _ (s6 _ _ e)) lp;have mo:=(nb.same s6).same s7;have lM:upd (upd G5 w2 (.lst W)) w3 (.lst (Y++W)) w3=Z8 (.lst (Y++W)):=ak;generalize upd (upd G5 w2 (.lst W)) w3 (.lst (Y++W))=G7 at g7 mb ls mo lM;refine bF ?_;dsimp only;refine{_,Z9,_,Z9,_,Z9,_,Z9,_,Z9,_,Z9,_,Z9,_,Z9,(by show 7<=aG;decide),fun rc kG=>?_};have s8:=aH kG (.tup [.ref kh,.int h.to,.str h.sg,.int h.a,.int h.b,.ref w3,.ref L.nl]);have g8:=g7.same s8;refine{_,Z9,L.tl,_,Z9,.inl (SqL.of g8.ht),Z9,sU tc,(by show 3<=aG;decide),fun t ht=>?_};have ka:(if false=true then !inV (.str "the end") (tc.map V.str) else inV (.str "the end") (tc.map V.str))=Z.en:=by
   rw[if_neg (by decide:¬(false=true)),nf]
   by_cases c:("the end":Str)∈tc
   ·rw[decide_eq_true c,g.te.mp c]
   ·rw[decide_eq_false c]
    cases z:Z.en with
    |false=>rfl
    |true=>exact absurd (g.te.mpr z) c
  rw[ka];have s9:=aH ht (.tup [.ref L.l,.ref rc,.bl Z.en]);have g9:=g8.same s9;have nE:=s8.trans s9;obtain⟨ov,jb,la⟩:=g9.hn;have oc:=NV g9.sm;exact p _ t L.l rc {g9.sm,ak,rg_sl g9,{rc,kh,w3,L.nl,Y,W,ov,nS,Z9,gP oc (s9 _ _ ak),gP oc (g9.sm _ _ ma),by rw[fJ (jg lk)];exact nE _ _ lM,Paired.mono (fun _ _ z=>z.keep fun b xs e=>gP oc (nE _ _ e)) mb,Paired.mono (fun _ _ z=>z.keep fun b xs e=>gP oc (nE _ _ e)) ls,(mo.same nE).hid fun a ha=>jg (ol a ha),by rw[fJ (jg (g9.fr _ (by simp[RL.all])))];exact jb,Paired.mono (fun _ _ z=>fH.hid oc z) la},g9.ok}
end
end My
namespace L2
open PySem PySem.Spec PyProof.Rows
section
variable{X:Cx}
end
end L2
namespace PySem
open SeqAt MeetsSeq MeetsSeq2 MeetsSeq3 SeqRoads2
section
variable{prog:aQ}{w:bU}{A:b8}{s:aw}
variable{K:Type}[DecidableEq K]{knd:KeyKind prog w K}
theorem DI(d b:ae)(M:(d==dZ)=false)(hb:(b==dZ)=false) :
  Oh prog w (iT.«dict.__ne__» {[.ref d,.ref b],[]}) (fun A R s=>∃kvs kws,s.heap.DictOf knd d kvs/\s.heap.DictOf knd b kws/\kvs.length=kws.length /\
   (∀Z∈kvs,∃W,nj kws Z.1=Z8 W/\lR prog w A.in1 s Z.2 W)/\R (.ok (.ret (.bool false))) s):=
 .of_wp fun A R s h=>by
  obtain⟨kvs,kws,U,Y,O,V,q⟩:=h;unfold iT.«dict.__ne__»;show bQ _ _ (kT "__ne__" {[.ref d,.ref b],[]} >>= _) _ _ s;refine au ?_;unfold kT;unfold tQ;rw[if_neg (by decide)];refine au (bK ?_);show bQ _ _ (pure (Value.ref d,Value.ref b)) _ _ s;refine bK ?_;dsimp only;refine au (wpAny_isInstance Y.typeIs KI ?_);rw[if_neg (by decide)];refine au (bK (au (bK (au (zi M hb U Y O V ?_)))));exact bK {_,Z9,q}
theorem A7{d b:ae}{kvs kws:List (K×aj)}(O:(d==dZ)=false)(hb:(b==dZ)=false)(Z:s.heap.DictOf knd d kvs)(W:s.heap.DictOf knd b kws)(R:kvs.length=kws.length)(hu:A.units<dY)
  (U:∀Y∈kvs,∃V,nj kws Y.1=Z8 V/\lR prog w A.in1 s Y.2 V) (E:aj->aw->Prop) (Q:aj->aw->Prop) (q:Q (.bool false) s):bQ (bR prog w) A (kg .NotEq (.ref d) (.ref b)) Q E s:=
 ny (op:=.NotEq) Z.typeIs W.typeIs F.slot_dict_ne (nv F.slot_dict_ne Z.typeIs F.entry_dict_ne (F.args_dict_ne_2 _ _) (DI (knd:=knd) d b O hb) {kvs,kws,Z,W,R,U,{fun z=>(nomatch z),q}}) hu
end
end PySem
namespace L2
open PySem PySem.Spec PyProof.Rows PySem.SeqAt
section
variable{X:Cx}
theorem HJ(hu:X.A.units+50<dY):OpR X (eE .NotEq) (fun x y H Q=>∃n p q kvs kws,n<=20/\x=.ref p/\y=.ref q/\H p=Z8 (.dK kvs)/\H q=Z8 (.dK kws)/\aO (fun (a b:Key×V)=>a.1=b.1/\DEq H n a.2 b.2) kvs kws/\Q (.bl false) H):=by
 intro pins s σ H x y v u Q I D G h;obtain⟨n,p,q,kvs,kws,hn,rfl,rfl,h1,h2,r,k⟩:=h
 cases D
 cases G;have fin:EP X pins σ Q (.bool false) s:={.bl false,H,I,Z9,k};have Y:X.A.units<dY:=by omega
 have Z:X.A.in1.units+n+20<dY:=by
  show X.A.units+1+n+20<dY;omega
 obtain⟨_,n1,us,k1,m1⟩:=(show hV X.prog X.w H s.heap p (.dK kvs) from I.hok p _ h1);obtain⟨_,t,vs,k2,R⟩:=(show hV X.prog X.w H s.heap q (.dK kws) from I.hok q _ h2);obtain⟨e,z⟩:=BB r k1 k2;refine A7 n1 t m1 R e Y (fun O W=>?_) _ _ fin;obtain⟨i,hi⟩:=cz W;obtain⟨U,a,b,J,⟨M,E⟩,g4,g,B,g7⟩:=z i O hi;obtain⟨_,_,_,_,_,_,_,_,f⟩:=id R;have g8:vs[i]?=Z8 (O.1,U.2):=by
  rw[J,<- g4,M,g]
 exact{U.2,valueAt_of_get f g8,uR I.hok Z E B g7}
theorem DJ:MtR X "dict.clear" (fun x vs H Q=>∃d kvs,x=.ref d/\vs=[]/\H d=Z8 (.dK kvs)/\Q .non (upd H d (.dK []))):=by
 intro pins s σ H x vs v U Q I Y W h;obtain⟨d,kvs,rfl,rfl,V,q⟩:=h
 cases Y
 cases W;exact IG I V fun s' Z=>{.non,_,Z,Z9,q}
theorem xi:MtR X "list.clear" (fun x vs H Q=>∃l xs,x=.ref l/\vs=[]/\H l=Z8 (.lst xs)/\Q .non (upd H l (.lst []))):=by
 intro pins s σ H x vs v U Q I W V h;obtain⟨l,xs,rfl,rfl,Y,q⟩:=h
 cases W
 cases V;obtain⟨z,Z,n,r,R,e⟩:=I.lstM Y;refine oz F.slot_list_clear {_,e,Z9} F.entry_list_clear (F.args_list_clear_1 _) (AutoSeq1.list_clear_list_0 l Z.toArray n (by rw[aJ];omega)) {e,?_};exact{.non,_,I.lset (its':=[]) Y e (by simp) .nil (bE _),Z9,q}
end
end L2
namespace My
open PySem L2
theorem J6{Z:Type}(g:Z->V){ps:List (Str×Z)}{x:Str}{n:Z}(h:x∉ps.map (·.1)):jU (ps.map fun p=>((Sum.inr p.1:Key),g p.2)) (Sum.inr x) (g n)=(ps++[(x,n)]).map fun p=>((Sum.inr p.1:Key),g p.2):=by
 have e:ps.lookup x=Z7:=by
  cases z:ps.lookup x with
  |none=>rfl
  |some a=>exact absurd (cD.mpr {_,kH z,Z9}) h
 unfold jU;have v:kP (ps.map fun p=>((Sum.inr p.1:Key),g p.2)) (Sum.inr x)=Z7:=by
  have z:=qh g x ps;rw[e]at z;exact z
 rw[kx,v];rw[if_neg (by decide),aU];rfl
theorem Ka{bx:List (Str×Int)}{x:Str}{n:Int}(h:x∉bx.map (·.1)):jU (boK bx) (Sum.inr x) (.int n)=boK (bx++[(x,n)]):=J6 V.int h
theorem HK{Y:Type}{ps:List (Str×Y)}{i:Nat}{q:Str×Y}(W:(ps.map (·.1)).Nodup)(h:ps[i]?=Z8 q):q.1∉(ps.take i).map (·.1):=fun z=>by
 have Z:((ps.take (i+1)).map (·.1)).Nodup:=by
  rw[oh];exact W.sublist (hZ _ _)
 rw[dh,h,aU]at Z;exact (eR.mp Z).2.2 _ z q.1 (by simp) rfl
theorem pairs_at{H:Hp}:∀{ps:List (Str×Int)} {Y:List V} {i:Nat} {x:V},eX H ps Y->Y[i]?=Z8 x->∃t q,x=.ref t/\ps[i]?=Z8 q/\H t=Z8 (.tup [.str q.1,.int q.2])
 | [],_,i,x,h,e=>by
  cases h;simp at e
 |q::ps,_,0,x,h,e=>by
  cases h with
  |cons a b=>
   obtain⟨t,Z,h1⟩:=a;simp at e;subst e;exact⟨t,q,Z,Z9,h1⟩
 |q::ps,_,i+1,x,h,e=>by
  cases h with
  |cons a b=>
   obtain⟨t,W,Z,h1,h2⟩:=pairs_at b (by simpa using e);exact{t,W,Z,by simpa using h1,h2}
theorem xj{H:Hp}:∀{ps:List (Str×Int)} {Z:List V},eX H ps Z->Z.length=ps.length
 | [],_,h=>by
  cases h;rfl
 |q::ps,_,h=>by
  cases h with
  |cons a b=>rw[cw,cw,xj (ps:=ps) b]
section
variable{P:aQ}{w:bU}{K:af}{mg:Str->Option aj}{base:cG}{f fD fWh:ae}{fd fdD fdWh:cm}{CM CS:ae}
seal PS PSs PE PA PT PW PI PG PGs PC
structure Kb(K:af)(CS:ae):Prop where
 ha:bH K (.ref CS) "__class__"=Z8 (Z8 (.builtin "object.__class__"))
 hn:mH K (.builtin "object.__class__") "__get__"=Z8 (Z8 (.builtin "getset_descriptor.__get__"))
 hk:oR K (.builtin "object.__class__")=Z8 true
 hm:kf K CS (.type "object")=Z8 true
 kt:cE K (.ref CS) (.ref CS)=Z8 true
abbrev pSs:List Str:=["_law_found","_law_due"]
theorem scSs:bX pSs pSs (aT jc):=eQ
inductive LF(CS:ae)(vs:List V)(H:Hp)(Q:VK)(_e:XK):Prop where
 |mk(st sl:ae)(bx:List (Str×Int))(qu:List (Str×List Int))(dr:Nat)(se:Int)(_:vs=[.ref st,.ref sl])(_:lZ CS H st bx qu dr se)(_:m6 H sl bx qu dr se)(_:Q (.bl true) H):LF CS vs H Q _e
def spSs(CS:ae):Sp:=fun vs H Q Z=>LF CS vs H Q Z
theorem zP{H:Hp}:∀bx:List (Str×Int),aO (fun (a b:Key×V)=>a.1=b.1/\DEq H 0 a.2 b.2) (boK bx) (boK bx)
 | []=>.nil
 |p::bx=>.cons {Z9,0,by decide,trivial,Z9} (zP bx)
theorem zQ{H:Hp}:∀{qu:List (Str×List Int)} {W Z:List (Str×ae)},eN H W qu->eN H Z qu->aO (fun (a b:Key×V)=>a.1=b.1/\DEq H 0 a.2 b.2) (quK W) (quK Z)
 | [],_,_,a,b=>by
  cases a
  cases b;exact .nil
 |q::qu,_,_,a,b=>by
  cases a with
  |cons a1 a2=>
  cases b with
  |cons Y U=>exact .cons {by show (Sum.inr _:Key)=Sum.inr _;rw[a1.1,Y.1],1,by decide,zO (n:=0) a1.2 Y.2} (zQ a2 U)
theorem ok_ss(D:Df K mg "_law_state_same" jc pSs f fd)(Y:Df K mg "_law_whole" mK ["_law_found"] fWh fdWh)(U:Kb K CS)(B:Bl mg)(Z:MdT K mg CM CS):cg P w K mg base CX0 2 f fd pSs (spSs CS):=by
 have O:cg P w K mg base CX0 1 fWh fdWh ["_law_found"] BK:=Fu Y B;refine D.F.ok scSs (fun vs H Q E h=>?_) (fun bq A outer s H vs Q E I h=>?_)
 ·obtain⟨st,sl,bx,qu,dr,se,rfl,_⟩:=h;rfl
 refine Z0 fun Gz gz=>?_;obtain⟨st,sl,bx,qu,dr,se,rfl,⟨dx,bd,qd,qa,h1,h2,h3,g⟩,⟨J,G,t,M,z,g3,g4⟩,q⟩:=h;refine gz ?_;have W:=E8 I;refine⟨_,ag (cC ((mB (kL (hJ (cq rJ (by rfl) B.isi fZ (bj (pv 0) (bj (Bd (v:=.ref CS) (by rfl) Z.mS rfl) ao))))) (mB (kL (hJ (pcl O I Y (aq (cK (pv 0) (by rfl)) ao)))) (lE (kL (hJ (pcl O I Y (aq (cK (pv 0) (by rfl)) ao))))))).pt) (aA (bD km)) bL)
  (ag (cC ((mB (aZ (HJ W) (cK (pv 0) (by rfl)) (aP cy (pv 1) ah)) (lE (aZ (HJ W) (cK (pv 0) (by rfl)) (aP cy (pv 1) ah)))).pt) (aA (bD km)) bL)
  (aA (bD (Et (mC cZ (cK (pv 0) (by rfl)) (aP cy (pv 1) ah)) (Es (mC cZ (cK (pv 0) (by rfl)) (aP cy (pv 1) ah))))))),?_⟩
 refine aX (jq (c:=false) (fun R r=>?_) (fun c=>by cases c) (fun _=>cU ?_))
 ·refine{_,Z9,.ref st,CS,.ref CS,true,Z9,.ins h1 Z.clS U.ha U.hn U.hk U.hm,U.kt,_,Z9,?_};exact dP ({_,Z9,st,CS,dx,_,_,Z9,h1,Z.clS,Z.nD,FH _ _ _ _,dr,Z9,_,Z9,dP ({_,Z9,st,CS,dx,_,_,Z9,h1,Z.clS,Z.nS,FJ _ _ _ _,se,Z9,_,Z9,r})})
 dsimp only;refine aX (jq (c:=false) (fun R r=>?_) (fun c=>by cases c) (fun _=>cU ?_))
 ·refine{_,Z9,st,CS,dx,_,_,Z9,h1,Z.clS,Z.nB,C8 _ _ _ _,_,Z9,sl,_,_,_,Z9,Z9,SqL.of M,Z9,0,bd,J,_,_,by decide,Z9,Z9,h2,z,zP bx,_,Z9,?_};exact dP ({_,Z9,st,CS,dx,_,_,Z9,h1,Z.clS,Z.nQ,FG _ _ _ _,_,Z9,sl,_,_,_,Z9,Z9,SqL.of M,Z9,0,qd,G,_,_,by decide,Z9,Z9,h3,g3,zQ g g4,_,Z9,r})
 dsimp only;refine oW ({_,Z9,st,CS,dx,_,_,Z9,h1,Z.clS,Z.nD,FH _ _ _ _,_,Z9,sl,_,_,_,Z9,Z9,SqL.of M,Z9,Z9,_,Z9,gE (decide_eq_true rfl) (eM ({_,Z9,st,CS,dx,_,_,Z9,h1,Z.clS,Z.nS,FJ _ _ _ _,_,Z9,sl,_,_,_,Z9,Z9,SqL.of M,Z9,Z9,?_}))});rw[show decide (V.int se=V.int se)=true from decide_eq_true rfl];exact q
abbrev nFi:List Str:=["_law_machines","_law_found","_law_machine_here","_law_boxes","_law_name","_law_worth","_law_queues"]
theorem zR:bX nFi ["_law_machines"] (aT mQ):=eQ
def noQ(qs:List Str):List (Str×List Int):=qs.map fun q=>(q,[])
theorem HL:∀qs:List Str,(noQ qs).map (·.1)=qs
 | []=>rfl
 |q::qs=>by
  show q::(noQ qs).map (·.1)=_;rw[HL qs]
def SlN(H G:Hp)(sl:ae)(M:MD):Prop:=m6 (Nw H G) sl M.ps (noQ M.qs) 0 0
inductive LH(vs:List V)(H:Hp)(Q:VK)(_e:XK):Prop where
 |mk(ml:ae)(ms:List V)(Ms:List MD)(_:vs=[.ref ml])(_:H ml=Z8 (.lst ms))(_:aO (zH H) ms Ms)(_:(∀M∈Ms,(M.ps.map (·.1)).Nodup/\M.ps.length<=9/\M.qs.Nodup/\M.qs.length<=9))(_:Ms.length<=9)(_:∀(G:Hp) (l:ae) (sls:List ae),bN H G->H l=Z7->G l=Z8 (.lst (sls.map V.ref))->aO (SlN H G) sls Ms->Q (.ref l) G):LH vs H Q _e
def spFi:Sp:=fun vs H Q Z=>LH vs H Q Z
theorem take_snoc{Z:Type}{xs:List Z}{i:Nat}{x:Z}(h:xs[i]?=Z8 x):xs.take (i+1)=xs.take i++[x]:=by
 rw[dh,h];rfl
theorem yo{H G:Hp}{a:ae}{o:HO}(h:H a≠Z7):bN (Nw H G) (Nw H (upd G a o)):=fun b u e=>by
 by_cases c:H b=Z7
 ·rw[qJ c]at e |-;exact aN e fun z=>h (z ▸ c)
 ·unfold Nw at e;rw[if_neg c]at e
  cases e
theorem sV{G:Hp}{a:ae}{o:HO}:Dm G (upd G a o):=fun b n=>(gb n).2
theorem ok_fi(D:Df K mg "_law_first" mQ ["_law_machines"] f fd):cg P w K mg base CX0 1 f fd ["_law_machines"] spFi:=by
 refine D.F.ok zR (fun vs H Q E h=>?_) (fun de A outer s H vs Q E hr h=>?_)
 ·obtain⟨ml,ms,Ms,rfl,_⟩:=h;rfl
 obtain⟨ml,ms,Ms,rfl,dL,hp,du,lM,k⟩:=h;have hu:=kS hr;refine⟨_,ag (pst 1 zR (dO ao))
  (ag (fq bV rfl (fc (pv 0)) (pgn 2 zR) (ag (pst 3 zR lO)
  (ag (fq bV rfl (fc (aP aY (pv 2) ah)) (sj rfl (eP (pgn 4 zR) (eP (pgn 5 zR) lu))) (aA (i9 hu (pv 3) (pv 4) (pv 5) rfl)))
  (ag (pst 6 zR lO)
  (ag (fq bV rfl (fc (aP aY (pv 2) ah)) (pgn 4 zR) (aA (i9 hu (pv 6) (pv 4) (dO ao) rfl)))
  (aA (cV (ia aL bA bC dI (pv 1) (AU (dO (bj (pv 3) (bj (pv 6) (dj ah (dj ah ao))))) ao)))))))))
  (aA (bD (pv 1)))),?_⟩
 have big:=dW;refine aX (cH ({bE _,fun I ef=>bF ?_}));dsimp only;have s0:=aH ef (.lst []);have Z:upd H I (.lst []) I≠Z7:=by rw[ak];intro z;cases z
 have ea:Dm H (upd H I (.lst [])):=sV;generalize hH1:upd H I (.lst [])=H1 at s0 Z ea;refine aX (⟨_,Z9,ml,Z9,{_,SqL.of (s0 _ _ dL)},fX (K:=K) (a:=ml) (xs:=ms) (fun i σ G=>∃(Y:List ae) (u2 u3 J u5 u6:Option V),σ=[Z8 (.ref ml),Z8 (.ref I),u2,u3,J,u5,u6]/\bN H G/\Dm H1 G/\G I=Z8 (.lst (Y.map V.ref))/\aO (SlN H1 G) Y (Ms.take i))
  {[],_,_,_,_,_,Z9,s0,(fun _ z=>z),(by rw[<- hH1];exact ak),(by rw[dE];exact .nil)} ?_ ?_ ?_⟩)
 ·rintro i σ G _ ⟨_,_,_,_,_,_,rfl,U,_⟩;exact SqL.of (U _ _ dL)
 ·intro i x σ G hi qz;refine Z0 fun Gz gz=>?_;obtain⟨Y,u2,u3,J,u5,u6,rfl,U,dG,W,hS⟩:=qz;refine gz (Z0 fun Gz gz=>?_);obtain⟨M,hM,t,bl,ql,n0,x3,x4,vb,rfl,ht,dw,hB,dz⟩:=iJ hp hi;obtain⟨dk,lp,dl,lq⟩:=du M (bJ hM);refine gz (bF (aX (cH ?_)));intro bd eh;refine bF ?_;dsimp only;have s1:=aH eh (.dK []);refine aX (⟨_,Z9,t,_,_,_,Z9,Z9,SqT.of (s1 _ _ (U _ _ ht)),Z9,bl,Z9,{_,SqL.of (s1 _ _ (U _ _ dw))},fX (K:=K) (a:=bl) (xs:=vb) (fun j σ R=>∃(J u5:Option V),σ=[Z8 (.ref ml),Z8 (.ref I),Z8 (.ref t),Z8 (.ref bd),J,u5,u6]/\bN G R/\R bd=Z8 (.dK (boK (M.ps.take j))))
   {_,_,Z9,s1,(by rw[dE];exact ak)} ?_ ?_ ?_⟩)
  ·rintro j σ R _ ⟨_,_,rfl,s2,_⟩;exact SqL.of (s2 _ _ (U _ _ dw))
  ·rintro j y σ R hj ⟨J,u5,rfl,s2,g⟩;refine Z0 fun Gz gz=>?_;obtain⟨tq,q,rfl,hq,di⟩:=pairs_at hB hj;refine gz ({tq,_,Z9,SqT.of (s2 _ _ (U _ _ di)),Z9,_,_,Z9,_,_,Z9,Z9,?_});dsimp only;have dp:=pJ.k (k:=Sum.inr q.1) (v:=.int q.2) g (by rw[xZ,cL];omega);rw[Ka (HK dk hq),<- take_snoc hq]at dp;exact{_,Z9,_,Z9,_,Z9,bd,_,Z9,dp,_,_,Z9,jR s2 eh _,ak}
  rintro σ R ⟨J,u5,rfl,s2,g⟩;rw[(xj hB),cF]at g;dsimp only;refine aX (cH ?_);intro B ej;refine bF ?_;dsimp only;have s3:=aH ej (.dK []);have ee:upd R B (.dK []) B=Z8 (.dK []):=ak;have ec:Dm R (upd R B (.dK [])):=sV;generalize upd R B (.dK [])=Gq at s3 ee ec;have eb:=s2.trans s3;refine aX (⟨_,Z9,t,_,_,_,Z9,Z9,SqT.of (eb _ _ (U _ _ ht)),Z9,ql,Z9,{_,SqL.of (eb _ _ (U _ _ dz))},fX (K:=K) (a:=ql) (xs:=M.qs.map V.str) (fun j σ G2=>∃(J:Option V) (qa:List (Str×ae)),σ=[Z8 (.ref ml),Z8 (.ref I),Z8 (.ref t),Z8 (.ref bd),J,u5,Z8 (.ref B)]/\bN R G2/\Dm Gq G2/\G2 B=Z8 (.dK (quK qa))/\eN (Nw Gq G2) qa (noQ (M.qs.take j)))
   {_,[],Z9,s3,(fun _ z=>z),ee,(by rw[dE];exact .nil)} ?_ ?_ ?_⟩)
  ·rintro j σ G2 _ ⟨_,_,rfl,s4,_⟩;exact SqL.of (s4 _ _ (s2 _ _ (U _ _ dz)))
  ·rintro j y σ G2 hj ⟨J,qa,rfl,s4,d4,ep,hQ⟩;obtain⟨z,hz,rfl,lz,tk⟩:=yi hj;refine bF ?_;dsimp only;refine{bE _,fun nl ei=>?_};have s5:=aH ei (.lst []);have dt:=hQ.len;have dg:z∉qa.map (·.1):=by
    rw[hQ.nm];intro m;rw[HL]at m;have dV:(M.qs.take (j+1)).Nodup:=dl.sublist (hZ _ _);rw[tk]at dV;exact (eR.mp dV).2.2 _ (m) z (by simp) rfl
   have dp:=pJ.k (k:=Sum.inr z) (v:=.ref nl) (s5 _ _ ep) (by
    rw[rS,dt];unfold noQ;rw[ai,cL];omega)
   rw[yb dg]at dp;have s6:=jR (H:=R) (s4.trans s5) ej (.dK (quK (qa++[(z,nl)])));have dq:=(ay ep ei).symm;refine{_,Z9,_,Z9,B,_,Z9,dp,_,qa++[(z,nl)],Z9,s6,(d4.trans sV).trans sV,ak,?_};unfold noQ;rw[tk,aU];refine cS ((hQ.same (oM s5)).same (yo (by rw[ee];intro z;cases z))) {Z9,?_};rw[qJ (d4 _ ei)];exact aN ak dq
  rintro σ G2 ⟨J,qa,rfl,s4,d4,ep,hQ⟩;rw[ai,cF]at hQ;dsimp only;have O:=s2.trans s4;have dn:=aM hS;refine{_,Z9,.inl {Z9,_,SqL.of (O _ _ W)},_,Z9,_,Z9,(by show 4<=aG;decide),fun sl ed=>?_};have s7:=aH ed (.lst [.ref bd,.ref B,.int 0,.int 0]);refine{I,_,_,Z9,Z9,s7 _ _ (O _ _ W),(by rw[ai,dn,cL];omega),?_};have ek:=dG.trans ((Dm.same s2).trans ec);have eo:=ek _ (d4 _ ed);have el:=dG _ eh;have em:=(dG.trans (Dm.same s2)) _ ej;refine{Y++[sl],_,_,_,_,_,Z9,(jR (H:=H) ((U.trans O).trans s7) ef (.lst (Y.map V.ref++[.ref sl]))),((dG.trans (Dm.same O)).trans sV).trans sV,by rw[aU];exact ak,?_};rw[take_snoc hM];refine cS (Paired.mono (fun a b z=>m6.same (((oM (O.trans s7))).trans (yo Z)) z) hS) {bd,B,qa,?_,?_,?_,?_}
  ·rw[qJ eo];exact aN ak (fun z=>Z (by rw[<- z];exact eo))
  ·rw[qJ el];exact aN (s7 _ _ (s4 _ _ g)) (fun z=>Z (by rw[<- z];exact el))
  ·rw[qJ em];exact aN (s7 _ _ ep) (fun z=>Z (by rw[<- z];exact em))
  ·exact (((hQ.same (oM s7)).same (yo (fun z=>Z (ek _ z)))).same (uj ek))
 rintro σ G ⟨Y,u2,u3,J,u5,u6,rfl,U,dG,W,hS⟩;rw[aM hp,cF]at hS;exact{_,Z9,k G I Y U ef W (Paired.mono (fun a b z=>m6.same (uj ea) z) hS)}
end
end My
namespace PySem
open Sem (wp)
theorem tJ(Z:Nat->Nat->Bool):∀k,pe Z k<=k
 |0=>aF _
 |k+1=>by
  have h:=tJ Z k;unfold pe
  split
  ·exact aF _
  ·omega
def HM(prog:aQ)(w:bU)(A:b8)(op:Ik)(P:Nat->aj->Prop)(G:cG->Prop)(Z:Nat->Nat->Bool):Prop:=
 ∀i j vi vj (s:aw) (Q:aj->aw->Prop) (E:aj->aw->Prop),j<i->P i vi->P j vj->G s.heap->Q (.bool (Z i j)) s->bQ (bR prog w) A (kg op vi vj) Q E s
section
variable{prog:aQ}{w:bU}{A:b8}{R:EJ->aw->Prop}{I:ae}{fp wr:List ae}{n:Nat}{P:Nat->aj->Prop}{St:Nat->cG->Prop}{G:cG->Prop}
theorem zS(W:Walks prog w A.in1 I fp wr n P St)(B:Nat->Nat->Bool)(bv:HM prog w A.in1 .Lt P G B)(S:ae)(bz:S∉fp)
  (hG:∀h h':cG,G h->(∀b o,b∉wr->b≠S->h.get? b=Z8 o->h'.get? b=Z8 o)->G h') :
  ∀(k j:Nat) (s:aw) (U:aj) (c:Nat),n-(j+1)=k->j+1<=n->St (j+1) s.heap->G s.heap->P (pe B j) U ->
  s.heap.get? S=Z8 {cls:=.type "list",dict:=Z7,data:=.seq #[U,U] c,slots:=#[]} ->
  (∀v h' tk,P (pe B (n-1)) v->(∀b o,b∉wr->b≠S->s.heap.get? b=Z8 o->h'.get? b=Z8 o)->R (.ok (.ret v)) {s with heap:=h',toks:=tk}) ->
  mi (bR prog w) A (.builtin "min.loop" {[.ref I,.none,.ref S],[]}) R s:=by
 have bw:=fun h=>bz (W.sub _ h);have nm:(toString "min"++toString ".loop":String)="min.loop":=by decide
 intro k
 induction k with
 |zero=>
  intro j s U c hk hj t hg O f hR;have bu:j+1=n:=by omega
  exact gI F.entry_min_loop (au (sJ f rfl (au (oB (W.done s _ _ (bu ▸ t) fun h' tk kp=>au (rm (kp S _ bw f) rfl (au (yO (bK (hR U _ tk (by rw[<- bu];exact O) fun b o Y Z e=>(cN _ _ (dB Z)).trans (kp b o Y e)))))))))))
 |succ k ih=>
  intro j s U c hk hj t hg O f hR;have g:j+1<n:=by omega
  refine gI F.entry_min_loop ?_;rw[qy F.plain_min_loop _];refine au (sJ f rfl (au (oB (W.item (j+1) s _ _ g t fun v h' tk hP M kp=>?_))));have z:=kp S _ bw f;have g1:=hG _ _ hg fun b o hb _ e=>kp b o hb e;show bQ _ A.in1 (tryCatch (o7 [v,v] (kg .Lt v U >>= _)) _ >>= _) _ _ _;refine au (oB (eK (au (bv (j+1) (pe B j) v U _ _ _ (Nat.lt_succ_of_le (tJ B j)) hP O g1 (au (eK (gG (au (yO (bK ?_))))))))))
  cases hb:B (j+1) (pe B j) with
  |true=>
   refine au (rm z rfl (au (yO (bK ⟨jh F.plain_min_loop _,ih (j+1) _ v _ (by omega) g (W.frame _ _ _ M fun b br o e=>?_) (hG _ _ g1 fun b o _ Z e=>(cN _ _ (dB Z)).trans e)
    (by simp only[pe,hb,if_true];exact hP) (iQ _ z rfl) fun v' J V E D=>?_⟩))))
   ·exact (cN _ _ (fun h:S=b=>bz (by rw[h];exact br))).trans e
   ·exact hR v' J V E fun b o Y Z e=>D b o Y Z ((cN _ _ (dB Z)).trans (kp b o Y e))
  |false=>
   exact au (yO (bK {jh F.plain_min_loop _,ih (j+1) _ U c (by omega) g M g1 (by simp only[pe,hb,Em,if_false];exact O) z fun v' J V E D=>hR v' J V E fun b o Y Z e=>D b o Y Z (kp b o Y e)}))
theorem yp(W:Walks prog w A.in1 I fp wr n P St)(t:Nat->Nat->Bool)(J:HM prog w A.in1 .Lt P G t)(S:ae)(Y:S∉fp)
  (f:∀h h':cG,G h->(∀b o,b∉wr->b≠S->h.get? b=Z8 o->h'.get? b=Z8 o)->G h') (hn:0<n) {s:aw} {c:Nat} (g:St 0 s.heap) (hg:G s.heap)
  (hS:s.heap.get? S=Z8 {cls:=.type "list",dict:=Z7,data:=.seq #[] c,slots:=#[]})
  (hR:∀v h' tk,P (pe t (n-1)) v->(∀b o,b∉wr->b≠S->s.heap.get? b=Z8 o->h'.get? b=Z8 o)->R (.ok (.ret v)) {s with heap:=h',toks:=tk}) :
  mi (bR prog w) A (.builtin "min.loop" {[.ref I,.none,.ref S],[]}) R s:=by
 have nm:(toString "min"++toString ".loop":String)="min.loop":=by decide
 refine gI F.entry_min_loop ?_;rw[qy F.plain_min_loop _];refine au (sJ hS rfl (au (oB (W.item 0 s _ _ hn g fun v h' tk hP U kp=>?_))));have V:=kp S _ (fun h=>Y (W.sub _ h)) hS;show bQ _ A.in1 (updateSeq S (fun _=>#[v,v]) >>= _) _ _ _;refine au (rm V rfl (bK {jh F.plain_min_loop _,zS W t J S Y f _ 0 _ v _ rfl hn (W.frame _ _ _ U fun b B o e=>?_) (f _ _ (f _ _ hg fun b o hb _ e=>kp b o hb e) fun b o _ Z e=>(cN _ _ (dB Z)).trans e) hP (iQ _ V rfl) fun v' E O D z=>?_}))
 ·exact (cN _ _ (fun h:S=b=>Y (h ▸ B))).trans e
 ·exact hR v' E O D fun b o M Z e=>z b o M Z ((cN _ _ (dB Z)).trans (kp b o M e))
end
section
variable{prog:aQ}{w:bU}{A:b8}{E:aj->aw->Prop}{s:aw}
theorem zT{x:aj}{Q:aj->aw->Prop}
  (h:bQ (bR prog w) A.in1 (pyIter x) (fun it Z=>∃I fp wr n P St G U,it=.ref I/\Walks prog w A.in1 I fp wr n P St/\St 0 Z.heap/\G Z.heap/\(∀b∈fp,b<Z.heap.objs.size)/\0<n/\HM prog w A.in1 .Lt P G U /\
   (∀h h':cG,G h->(∀b o,b∉wr->b≠Z.heap.objs.size->h.get? b=Z8 o->h'.get? b=Z8 o)->G h') /\
   ∀v h' tk,P (pe U (n-1)) v->(∀b o,b∉wr->Z.heap.get? b=Z8 o->h'.get? b=Z8 o)->Q v {Z with heap:=h',toks:=tk}) E s) :
  bQ (bR prog w) A (vD (.builtin "min") [x]) Q E s:=by
 have nm:(toString "min"++toString ".loop":String)="min.loop":=by decide
 refine call_function_tree F.kind_min F.plain_min F.entry_min (F.args_min1 _) (au (wpAny_of_eq (show LI "min" ["key","default"] 0 {[],[]}=pure [Z7,Z7] from rfl) (au (bK (au (eJ h (fun it Z Y=>Z0 fun Gz D=>?_) fun _ _ e=>e))))));obtain⟨I,fp,wr,n,P,St,G,U,rfl,W,O,z,R,g,V,J,f⟩:=Y;refine D (au (vK ?_));have kp:∀b o,Z.heap.get? b=Z8 o->(Z.heap.push {cls:=.type "list",data:=.seq ([]:List aj).toArray}).get? b=Z8 o:=fun b o e=>aK _ e;refine bK {jh F.plain_min_loop _,yp W U V Z.heap.objs.size (fun t=>gK _ (R _ t)) J g (W.frame _ _ _ O fun b _ o e=>kp b o e) (J _ _ z fun b o _ _ e=>kp b o e) (cA _ rfl) fun v h' tk B hk=>?_};exact f v h' tk B fun b o M e=>hk b o M (aR (aS e)) (kp b o e)
end
end PySem
namespace HT
open PySem PyProof.Rows
open PySem.SeqAt
open PySem.AutoSeq1 (wpAny_loadPart')
open PySem.MeetsSeq PySem.MeetsSeq2 PySem.MeetsSeq3
def NW(A:b8)(s:aw)(x y:aj)(g:Bool):Prop:=∀(prog:aQ) (w:bU) (E:aj->aw->Prop) (Q:aj->aw->Prop),Q (.bool g) s->bQ (bR prog w) A (kg .Lt x y) Q E s
theorem Kc(l b:ae)(x y:aj)(xs ys:List aj)(n m:Nat)(dd O:Option ae)(sl sm:Array (Option aj))(g:Bool) :
  Oe (iT.«tuple.__lt__» {[.ref l,.ref b],[]})
   (fun A R s=>s.heap.get? l=Z8 {cls:=.type "tuple",dict:=dd,data:=.seq (x::xs).toArray n,slots:=sl}/\s.heap.get? b=Z8 {cls:=.type "tuple",dict:=O,data:=.seq (y::ys).toArray m,slots:=sm}/\EqAt A.in1 s x y false/\NW A.in1 s x y g/\R (.ok (.ret (.bool g))) s):=
 .of_wp fun prog w A R s h=>by
  obtain⟨hp,D,d,tk,I⟩:=s;obtain⟨G,hb,J,M,h⟩:=h;have f:=jr
  wp_walk using cQ G,cQ hb,lL _ (fun rest b s'=>b.1=Z7/\s'=⟨hp,D,d,tk,I⟩/\∃Z,rest=(x,y)::Z) _
  case turn=>
   rintro⟨B,z⟩ rest b s' ⟨V,rfl,Z,hz⟩;injection hz with Y W;injection Y with hy hx;subst hy hx;refine au (J prog w _ _ ?_);have U:=fun E Q q=>M prog w E Q q
   wp_walk using U
   exact{_,Z9,by simpa using h}
  case fin=>
   rintro⟨t,b2⟩ s' ⟨V,rfl,Z,hz⟩
   cases hz
  case h=>
   exact{Z9,Z9,xs.zip ys,by simp}
theorem ltAt_heads{A:b8}{s:aw}{l b:ae}{x y:aj}{xs ys:List aj}{g:Bool}(R:m7 s.heap l (x::xs).toArray)(hb:m7 s.heap b (y::ys).toArray)(hu:A.units<dY)(U:EqAt A.in1 s x y false)(V:NW A.in1 s x y g):NW A s (.ref l) (.ref b) g:=fun prog w E Q h=>by
 obtain⟨⟨J,dd,t1,sl⟩,Z,rfl,n,rfl⟩:=id R;obtain⟨⟨M,W,O,sm⟩,Y,rfl,m,rfl⟩:=id hb;exact kN {_,Z,Z9} {_,Y,Z9} yH xt (wB _ _) (Kc l b x y xs ys n m dd W sl sm g)
  {Z,Y,U,V,show Value.bool g≠Value.notImplemented/\Q (.bool g) s from{(fun x=>nomatch x),h}} hu
end HT
namespace L2
open PySem PySem.Spec PyProof.Rows
def Kd(H:Hp)(v:V)(n:List Int):Prop:=∃a k r,v=.ref a/\H a=Z8 (.tup (.ref k::r))/\H k=Z8 (.tup (n.map V.int))
theorem DK{s:aw}{A:b8}{a b:ae}{Z vs:List aj}{ns Y:List Int}(hu:A.units<dY)(G:s.heap.IsTuple a Z.toArray)(O:s.heap.IsTuple b vs.toArray)(k1:gp Z ns)(k2:gp vs Y)(e:a≠b) :
  rC A s (.ref a) (.ref b) (decide (ns=Y)):=by
 have at_:∀{Z:List aj} {ns:List Int},gp Z ns->∀j (h:j<Z.length),∃(z:Int) (t:Tok),Z[j]=.int z t/\ns[j]?=Z8 z:=by
  intro Z ns k
  induction k with
  |nil=>intro j h;exact absurd h (iP _)
  |cons z t _ U=>
   intro j h
   cases j with
   |zero=>exact⟨z,t,Z9,Z9⟩
   |succ j=>exact U j (j2 h)
 have W:=zk (e:=fun j=>decide (ns[j]?=Y[j]?)) G O hu fun j h1 h2=>by
  obtain⟨x,t,E,V⟩:=at_ k1 j (by simpa using h1);obtain⟨y,t',e3,R⟩:=at_ k2 j (by simpa using h2);rw[V,R];have z:=kQ (A:=A.in1) (s:=s) x t y t';have q:(x==y)=decide (Z8 x=Z8 y):=by
   by_cases e:x=y
   ·subst e;simp
   ·simp_all
  rw[q]at z;simpa[E,e3] using z
 have fin:((gQ (min Z.toArray.size vs.toArray.size)).all (fun j=>decide (ns[j]?=Y[j]?))&&Z.toArray.size==vs.toArray.size)=decide (ns=Y):=by
  have J:Z.toArray.size=ns.length:=by rw[aJ];exact k1.length
  have I:vs.toArray.size=Y.length:=by rw[aJ];exact k2.length
  rw[J,I]
  by_cases c:ns=Y
  ·subst c;simp
  ·rw[decide_eq_false c,AE]
   by_cases l:ns.length=Y.length
   ·left
    rw[E9];refine iZ fun M=>c (tu fun j=>?_)
    by_cases D:j<ns.length
    ·refine iZ fun ne=>M {j,qG.mpr (by omega),?_};rw[decide_eq_false ne];simp
    ·grind
   ·right
    exact beq_eq_false_iff_ne.mpr l
 rw[fin]at W;exact yM e W
theorem zU{H:Hp}:∀{vs:List V} {ns:List (List Int)} {i:Nat} {v:V},aO (Kd H) vs ns->vs[i]?=Z8 v->∃n,ns[i]?=Z8 n/\Kd H v n
 |_,_,i,v,.nil,h=>by simp at h
 |_::_,_::_,0,v,.cons a b,h=>by
  simp at h;subst h;exact{_,Z9,a}
 |_::_,_::_,i+1,v,.cons a b,h=>by
  obtain⟨n,h1,h2⟩:=zU b (by simpa using h);exact{n,by simpa using h1,h2}
section
variable{X:Cx}
theorem DQ(hu:X.A.units+3<dY)(hc:X.calm=true):lG X (.builtin "min") (fun xs H Q=>∃l vs ns,xs=[V.ref l]/\H l=Z8 (.lst vs)/\aO (Kd H) vs ns/\ns.Nodup/\ns≠[]/\∀(i:Nat) (v:V) (n:List Int),vs[i]?=Z8 v->ns[i]?=Z8 n->(∀m∈ns,HT.lexLt m n=false)->Q v H):=by
 intro pins s σ H xs us Q I r h;refine Z0 fun Gz B=>?_;obtain⟨l,vs,ns,rfl,hl,ht,nd,ne,q⟩:=h;obtain⟨u,rfl,ru⟩:=vals1 r;subst ru;obtain⟨Z,rv,pl,hz⟩:=I.list (SqL.of hl);refine B ?_;have G:=let ⟨_,Y,_⟩:=pl.isList;aS Y;have J:Z.toArray.size=ns.length:=by
  rw[aJ,<- rv.length];exact (aM ht)
 have dt:0<Z.toArray.size:=by
  rw[J];exact rj.mpr ne
 have key:∀(i:Nat) (v:aj),Z.toArray[i]?=Z8 v->∃(a k:ae) (r:List V) (n:List Int),v=Value.ref a/\vs[i]?=Z8 (.ref a)/\ns[i]?=Z8 n/\H a=Z8 (.tup (.ref k::r))/\H k=Z8 (.tup (n.map V.int)):=by
  intro i v hv;have M:Z[i]?=Z8 v:=by simpa using hv
  have li:i<vs.length:=by
   have:=(aC.mp M).1;have:=rv.length;omega
  have ea:=aI li;obtain⟨w',hw,D⟩:=rv.get ea;rw[M]at hw;injection hw with hw;refine Z0 fun Gz B=>?_;subst hw;obtain⟨n,hn,a,k,r,e,h1,h2⟩:=zU ht ea;refine B ?_;rw[e]at D ea;subst D;exact⟨a,k,r,n,Z9,ea,hn,h1,h2⟩
 refine zT (vC pl.isList (⟨s.heap.objs.size,[s.heap.objs.size,l],[s.heap.objs.size],Z.toArray.size,_,_,fun h=>∀b o ys,H b=Z8 (.tup ys)->s.heap.get? b=Z8 o->h.get? b=Z8 o,fun i j=>HT.lexLt ((ns[i]?).getD []) ((ns[j]?).getD []),Z9,
  Walks.list (A:=X.A.in1) (I.ok.hd hc) s.heap.objs.size l (aR G) Z.toArray,{{_,cA _ rfl,Z9,Z9},pl.isList.at fun o e=>aK _ e},fun b o ys _ e=>aK _ e,?_,dt,?_,?_,?_⟩))
 ·intro b dp;rw[mE]
  rcases aE.mp dp with e|e
  ·rw[e];exact jv _
  ·rw[aD.mp e];exact gv G
 ·rintro i j vi vj s' Q' E' dl hi hj g q';obtain⟨b1,k1,ra,n,rfl,_,R,c4,W⟩:=key i vi hi;obtain⟨b2,k2,rb,m,rfl,_,d3,d4,d5⟩:=key j vj hj;have q':Q' (.bool (HT.lexLt ((ns[i]?).getD []) ((ns[j]?).getD []))) s':=q';rw[R,d3]at q';have f:n≠m:=fun z=>by
   rw[<- z]at d3;have:=(Gy ((aC.mp R).1) nd).mp (R.trans d3.symm);omega
  refine Z0 fun Gz B=>?_;obtain⟨O,r1,p1,_⟩:=I.tuple (SqT.of c4);obtain⟨du,r2,p2,_⟩:=I.tuple (SqT.of d4);obtain⟨dn,s1,x1,_⟩:=I.tuple (SqT.of W);obtain⟨dq,s2,x2,_⟩:=I.tuple (SqT.of d5);refine B ?_;have i1:=intsAre_of s1;have i2:=intsAre_of s2;have t1:m7 s'.heap b1 O.toArray:=let ⟨o,Y,rest⟩:=p1;{o,g _ _ _ c4 Y,rest};have t2:m7 s'.heap b2 du.toArray:=let ⟨o,Y,rest⟩:=p2;{o,g _ _ _ d4 Y,rest};have y1:m7 s'.heap k1 dn.toArray:=let ⟨o,Y,rest⟩:=x1;{o,g _ _ _ W Y,rest};have y2:m7 s'.heap k2 dq.toArray:=let ⟨o,Y,rest⟩:=x2;{o,g _ _ _ d5 Y,rest};have t:X.A.in1.in1.units<dY:=by show X.A.units+1+1<dY;omega
  have nk:k1≠k2:=fun z=>by
   rw[z,d5]at W;injection W with W;injection W with W;exact f (pP W).symm
  have e:=DK t y1 y2 i1 i2 nk;rw[decide_eq_false f]at e
  cases r1 with
  |cons w1 r1=>
   cases r2 with
   |cons w2 r2=>
    subst w1;subst w2;exact HT.ltAt_heads t1 t2 (by show X.A.units+1<dY;omega) e (fun prog w E Q h=>HT.lt_tupInts y1 y2 i1 i2 t h) _ _ _ _ q'
 ·intro h1 h2 g kp b o ys hy Y;have lt:=aS Y;refine kp b o (fun e=>aR lt (aD.mp e)) (fun e=>?_) (g b o ys hy Y);rw[mE]at e;exact aR (gv lt) e
 ·rintro v h' tk hv kp;obtain⟨a,kk,rr,n,rfl,c2,R,c4,W⟩:=key _ v hv;obtain⟨_,U⟩:=HT.best_le (fun i=>(ns[i]?).getD []) (Z.toArray.size-1);rw[R]at U;refine{.ref a,H,I.kept (t':=tk) fun b o Y=>kp b o (fun e=>aR (aS Y) (aD.mp e)) (aK _ Y),Z9,q _ (.ref a) n c2 R fun m hm=>?_};obtain⟨j,hj⟩:=cz hm;have lj:=(aC.mp hj).1;have z:=U j (by omega);rw[hj]at z;exact z
end
end L2
namespace HT
open PySem PyProof.Rows
open PySem.SeqAt
open PySem.AutoSeq1 (wpAny_loadPart')
open PySem.MeetsSeq PySem.MeetsSeq2 PySem.MeetsSeq3
def RmAt(A:b8)(s:aw)(Z:Array aj)(x:aj)(j:Nat):Prop:=∀m (h:m<Z.size),m<=j->EqAt A s Z[m] x (decide (m=j))
theorem zV(l:ae)(Z:Array aj)(n:Nat)(x:aj)(j:Nat)(V:j<Z.size)(hz:Z.size<=aG) :
  ∀(d i:Nat),i+d=j->Oe (iT.«list.remove.loop» {[.ref l,x,uB i],[]})
   (fun A R s=>(s.heap.get? l=Z8 {.type "list",Z7,.seq Z n,#[]}/\RmAt A.in1 s Z x j)/\R (.ok (.ret .none)) {s with heap:=s.heap.update l (dQ fun ys=>ys.eraseIdxIfInBounds j)})
 |0,i,e=>by
  intro prog w A R s h;obtain⟨hp,g,dd,tk,M⟩:=s;obtain⟨⟨Y,W⟩,h⟩:=h;have O:i=j:=by omega
  subst O;have hi:Z[((i:Nat):Int).toNat]?=Z8 Z[i]:=by simp[V]
  have q:=W i V (aF _);rw[decide_eq_true rfl]at q
  wp_walk using cQ Y
  rw[hi];refine au (q prog w _ _ ?_)
  wp_walk using (rm Y rfl (hz:=hz) (_hz':=(cR (size_erased Z _) (by omega)))),cQ Y
  simpa using h
 |d+1,i,e=>by
  intro prog w A R s h;obtain⟨hp,g,dd,tk,M⟩:=s;obtain⟨⟨Y,W⟩,h⟩:=h;have U:i<Z.size:=by omega
  have hi:Z[((i:Nat):Int).toNat]?=Z8 Z[i]:=by simp[U]
  have up:((i:Int)+1)=((i+1:Nat):Int):=by omega
  have q:=W i U (by omega);rw[decide_eq_false (show ¬i=j by omega)]at q
  wp_walk using cQ Y
  rw[hi];refine au (q prog w _ _ ?_)
  wp_walk
  exact{jh plain_remove_loop _,gI entry_remove_loop (zV l Z n x j V hz d (i+1) (by omega) prog w A R _ {⟨Y,W⟩,h})}
theorem rm_all(l:ae)(Z:Array aj)(n:Nat)(x:aj)(j:Nat)(V:j<Z.size)(hz:Z.size<=aG) :
  Oe (iT.«list.remove» {[.ref l,x],[]})
   (fun A R s=>(s.heap.get? l=Z8 {.type "list",Z7,.seq Z n,#[]}/\RmAt A.in1 s Z x j)/\R (.ok (.ret .none)) {s with heap:=s.heap.update l (dQ fun ys=>ys.eraseIdxIfInBounds j)}):=by
 intro prog w A R s h;obtain⟨⟨Y,W⟩,h⟩:=h
 wp_walk using cQ Y
 refine{jh plain_remove_loop _,gI entry_remove_loop ?_};rw[qy plain_remove_loop _];exact zV l Z n x j V hz j 0 (by omega) prog w A R _ {⟨Y,W⟩,h}
end HT
namespace L2
open PySem PySem.Spec PyProof.Rows
section
variable{X:Cx}
def Ke:V->List V->Hp->VK->Prop:=fun x vs H Q=>∃l xs y j n,x=.ref l/\vs=[y]/\H l=Z8 (.lst xs)/\j<xs.length/\n<=20/\(∀m z,m<=j->xs[m]?=Z8 z->BEq H n z y (decide (m=j)))/\Q .non (upd H l (.lst (xs.eraseIdx j)))
theorem DV(hu:X.A.units+50<dY):MtM X "list.remove" Ke:=by
 intro pins s σ H x vs v us Q I J D h;refine Z0 fun g G=>?_;obtain⟨l,xs,y,j,E,rfl,rfl,R,f,hn,hb,q⟩:=h;subst J;obtain⟨u,rfl,O⟩:=D.one;obtain⟨z,Z,n,r,t,e⟩:=I.lstM R;refine G ?_;have V:HT.RmAt X.A.in1 s Z.toArray u j:=fun m hm Y=>by
  have U:m<xs.length:=by omega
  obtain⟨B,hw,W⟩:=r.get (aI U);have M:Z.toArray[m]=B:=by
   have:=(aC.mp hw).2;simpa using this
  rw[M];exact Ff I.hok (by show X.A.units+1+E<dY;omega) (hb m _ Y (aI U)) W O
 refine oz F.slot_list_remove {_,e,Z9} F.entry_list_remove (F.args_list_remove_2 _ _) (HT.rm_all l Z.toArray n u j (by rw[aJ];omega) (by rw[aJ];omega)) {⟨e,V⟩,{.non,_,I.lset (its':=Z.eraseIdx j) R e ?_ (r.eraseIdx j) ?_,Z9,q}}
 ·simp
 ·grind
end
end L2
namespace My
open PySem L2
def e5(a b c d e:Bool):Nat->Bool
 |0=>a
 |1=>b
 |2=>c
 |3=>d
 |_=>e
theorem all5(a b c d e:Bool):(gQ 5).all (e5 a b c d e)=(a&&(b&&(c&&(d&&e)))):=by
 simp[gQ,A8,e5]
theorem all4(a b c d:Bool):(gQ 4).all (e5 a b c d true)=(a&&(b&&(c&&d))):=by
 simp[gQ,A8,e5]
theorem oP{H:Hp}{n:Nat}{i j:Int}:BEq H n (.int i) (.int j) (decide (i=j)):=by
 cases n with
 |zero=>exact .inl ⟨i,j,Z9,Z9,Z9⟩
 |succ n=>exact .inl (.inl ⟨i,j,Z9,Z9,Z9⟩)
theorem Kf{H:Hp}{n:Nat}{i j:Str}:BEq H n (.str i) (.str j) (decide (i=j)):=by
 cases n with
 |zero=>exact .inr ⟨i,j,Z9,Z9,Z9⟩
 |succ n=>exact .inl (.inr ⟨i,j,Z9,Z9,Z9⟩)
theorem Kg{H:Hp}{n:Nat}{a b:ae}{e h:Ev}(ha:H a=Z8 (vk e))(hb:H b=Z8 (vk h)):BEq H (n+1) (.ref a) (.ref b) (decide (e.t=h.t)&&(decide (e.r=h.r)&&(decide (e.fr=h.fr)&&decide (e.c=h.c)))):=by
 refine .inr {a,b,_,_,Z9,Z9,.inr {.inr ⟨ha,hb⟩,Z9,e5 (decide (e.t=h.t)) (decide (e.r=h.r)) (decide (e.fr=h.fr)) (decide (e.c=h.c)) true,fun i x y hx hy=>?_,(all4 _ _ _ _).symm}}
 match i,hx,hy with
 |0,hx,hy=>cases hx;cases hy;exact oP
 |1,hx,hy=>cases hx;cases hy;exact oP
 |2,hx,hy=>cases hx;cases hy;exact oP
 |3,hx,hy=>cases hx;cases hy;exact oP
 |n+4,hx,hy=>simp at hx
theorem NX{H:Hp}{v:V}{t k:ae}{e h:Ev}(W:fH H v e)(O:H t=Z8 (.tup [.ref k,.int h.to,.str h.sg,.int h.a,.int h.b]))(hk:H k=Z8 (vk h)):∃b,BEq H 2 v (.ref t) b/\(b=true->e=h)/\(e=h->b=true):=by
 obtain⟨t',E,rfl,h1,h2⟩:=W;refine{_,.inr {t',t,_,_,Z9,Z9,.inr {.inr ⟨h1,O⟩,Z9,e5 (decide (e.t=h.t)&&(decide (e.r=h.r)&&(decide (e.fr=h.fr)&&decide (e.c=h.c)))) (decide (e.to=h.to)) (decide (e.sg=h.sg)) (decide (e.a=h.a)) (decide (e.b=h.b)),fun i x y hx hy=>?_,(all5 _ _ _ _ _).symm}},?_,?_}
 ·match i,hx,hy with
  |0,hx,hy=>cases hx;cases hy;exact Kg h2 hk
  |1,hx,hy=>cases hx;cases hy;exact oP
  |2,hx,hy=>cases hx;cases hy;exact Kf
  |3,hx,hy=>cases hx;cases hy;exact oP
  |4,hx,hy=>cases hx;cases hy;exact oP
  |n+5,hx,hy=>simp at hx
 ·intro z;simp at z;obtain⟨⟨I,U,Z,G⟩,M,R,J,Y⟩:=z
  cases e
  cases h;simp;exact⟨I,U,Z,G,M,R,J,Y⟩
 ·simp_all
theorem DX{es pd:List Ev}(p:es.Perm pd)(f:kW pd):(es.map Ev.key).Nodup:=by
 have q:(pd.map Ev.key).Nodup:=by
  refine nU.mpr (f.imp fun {a b} h e=>?_);have z:=HT.lx_asym h;rw[e]at h z;rw[h]at z
  cases z
 exact (p.map Ev.key).nodup_iff.mpr q
theorem HN{es pd:List Ev}{h x:Ev}{i:Nat}(p:es.Perm (pd++[h]))(f:kW (pd++[h]))(hx:es[i]?=Z8 x)(m:∀k∈es.map Ev.key,HT.lexLt k x.key=false):x=h:=by
 rcases bY.mp (p.mem_iff.mp (bJ hx)) with z|z
 ·have y:=(qq f).2 x z;have w:=m h.key (mf (p.mem_iff.mpr (aV _ (aD.mpr rfl))));rw[y]at w
  cases w
 ·exact aD.mp z
theorem vw:∀{es:List Ev} {j:Nat} {h:Ev},es[j]?=Z8 h->(h::es.eraseIdx j).Perm es
 | [],j,h,e=>by simp at e
 |x::es,0,h,e=>by
  simp at e;subst e;exact ig _
 |x::es,j+1,h,e=>by
  have Z:=vw (by simpa using e);exact (List.Perm.swap _ _ _).trans (Z.cons x)
theorem HP{es pd:List Ev}{h:Ev}{j:Nat}(p:es.Perm (pd++[h]))(e:es[j]?=Z8 h):(es.eraseIdx j).Perm pd:=(Lk h).mp (((vw e).trans p).trans (A9))
theorem Kh{es pd xs:List Ev}(p:es.Perm pd):(es++xs).Perm (oO xs pd):=
 (A9.trans ((ig xs).append p)).trans (gF xs pd).symm
theorem Ki{H:Hp}{v:V}{e:Ev}(h:fH H v e):Kd H v e.key:=by
 obtain⟨t,k,Z,h1,h2⟩:=h;exact{t,k,_,Z,h1,h2}
theorem LJ:∀{xs:List (List Int)} {i j:Nat} {k:List Int},xs.Nodup->xs[i]?=Z8 k->xs[j]?=Z8 k->i=j
 | [],i,j,k,_,h,_=>by simp at h
 |x::xs,0,0,k,_,_,_=>rfl
 |x::xs,0,j+1,k,Z,h,h'=>by
  simp at h h';subst h;exact absurd (bJ h') (cu.mp Z).1
 |x::xs,i+1,0,k,Z,h,h'=>by
  simp at h h';subst h';exact absurd (bJ h) (cu.mp Z).1
 |x::xs,i+1,j+1,k,Z,h,h'=>by
  rw[LJ (xs:=xs) (i:=i) (j:=j) (k:=k) (cu.mp Z).2 (by simpa using h) (by simpa using h')]
theorem mh{Z Y:Type}{R:Z->Y->Prop}:∀{xs:List Z} {ys:List Y} {i:Nat} {x:Z},aO R xs ys->xs[i]?=Z8 x->∃y,ys[i]?=Z8 y/\R x y
 |_,_,i,x,.nil,h=>by simp at h
 |_,_,0,x,.cons a b,h=>by
  simp at h;subst h;exact{_,Z9,a}
 |_,_,i+1,x,.cons a b,h=>by
  obtain⟨y,h1,h2⟩:=mh b (by simpa using h);exact{y,by simpa using h1,h2}
theorem NY{H:Hp}{vs:List V}{es:List Ev}{h:Ev}{j:Nat}{t k:ae}(p:aO (fH H) vs es)(Y:(es.map Ev.key).Nodup)(O:es[j]?=Z8 h)(R:H t=Z8 (.tup [.ref k,.int h.to,.str h.sg,.int h.a,.int h.b]))(hk:H k=Z8 (vk h)) :
  ∀m z,m<=j->vs[m]?=Z8 z->BEq H 2 z (.ref t) (decide (m=j)):=fun m z M hz=>by
 obtain⟨e,W,Z⟩:=mh p hz;obtain⟨b,hb,U,J⟩:=NX Z R hk
 by_cases c:m=j
 ·grind
 ·have ne:e≠h:=fun q=>by
   subst q;exact c (LJ Y (by rw[bM,W];rfl) (by rw[bM,O];rfl))
  rw[decide_eq_false c]
  cases b with
  |false=>exact hb
  |true=>exact absurd (U rfl) ne
abbrev SlA(G:Hp):ae->Sta->Prop:=fun a s=>m6 G a s.bx s.qu s.dr s.se
structure xk(G:Hp)(t:ae)(q:RS×List Rec)(e:End):Prop where
 ex:∃(rl sl:ae) (en:V) (rvs:List V) (ss:List ae),G t=Z8 (.tup [.ref rl,en,.ref sl])/\G rl=Z8 (.lst rvs)/\aO (RcIn G) rvs q.2/\q5 G en e/\G sl=Z8 (.lst (ss.map V.ref))/\aO (SlA G) ss q.1.sts
theorem xk.same{G G':Hp}{t:ae}{q:RS×List Rec}{e:End}(h:xk G t q e)(s:bN G G'):xk G' t q e:=by
 obtain⟨rl,sl,en,Z,Y,h1,h2,W,R,U,V⟩:=h.ex;exact{rl,sl,en,Z,Y,s _ _ h1,s _ _ h2,Paired.mono (fun _ _ z=>z.same s) W,R.same s,s _ _ U,Paired.mono (fun _ _ z=>m6.same s z) V}
theorem Kj{G:Hp}{v W:V}{e:Stp}(h:rX G v e)(h':rX G W e):TEq G 2 v W:=by
 cases e with
 |fin x=>
  obtain⟨t,k,rfl,h1,h2⟩:=h;obtain⟨t',U,rfl,Z,Y⟩:=h';exact .inr (.inr {t,t',_,_,Z9,Z9,h1,Z,.cons (j9 trivial) (.cons (ux h2 Y) .nil)})
 |flt f x=>
  obtain⟨t,k,rfl,h1,h2⟩:=h;obtain⟨t',U,rfl,Z,Y⟩:=h';exact .inr (.inr {t,t',_,_,Z9,Z9,h1,Z,.cons (j9 trivial) (.cons (j9 trivial) (.cons (ux h2 Y) .nil))})
theorem Kk{G:Hp}{v Y:V}{e:End}(h:q5 G v e)(h':q5 G Y e):TEq G 2 v Y:=by
 cases e with
 |empty=>
  obtain⟨t,rfl,h1⟩:=h;obtain⟨t',rfl,Z⟩:=h';exact rY h1 Z fun x hx=>by rw[aD.mp hx];trivial
 |cut=>
  obtain⟨t,rfl,h1⟩:=h;obtain⟨t',rfl,Z⟩:=h';exact rY h1 Z fun x hx=>by rw[aD.mp hx];trivial
 |stp s=>exact Kj h h'
theorem NZ{G:Hp}{v:V}{e:End}(h:q5 G v e):∃t xs,v=.ref t/\G t=Z8 (.tup xs):=by
 cases e with
 |empty=>
  obtain⟨t,e,h1⟩:=h;exact{t,_,e,h1}
 |cut=>
  obtain⟨t,e,h1⟩:=h;exact{t,_,e,h1}
 |stp s=>
  cases s with
  |fin x=>
   obtain⟨t,k,e,h1,_⟩:=h;exact{t,_,e,h1}
  |flt f x=>
   obtain⟨t,k,e,h1,_⟩:=h;exact{t,_,e,h1}
section
variable{P:aQ}{w:bU}{K:af}{mg:Str->Option aj}{base:cG}{f fSs:ae}{fd fdSs:cm}{CB CS:ae}
seal PS PSs PE PA PT PW PI PG PGs PC
abbrev nBs:List Str:=["_law_found","_law_due","_law_at"]
theorem scBs:bX nBs ["_law_found","_law_due"] (aT jA):=eQ
inductive LK(CB CS:ae)(vs:List V)(H:Hp)(Q:VK)(_e:XK):Prop where
 |mk(b t:ae)(q:RS×List Rec)(e:End)(_:vs=[.ref b,.ref t])(_:vp CB CS H b q e)(_:xk H t q e)(_:q.1.sts.length<1000)(_:Q (.bl true) H):LK CB CS vs H Q _e
def spBs(CB CS:ae):Sp:=fun vs H Q Z=>LK CB CS vs H Q Z
theorem ok_bs(D:Df K mg "_law_book_same" jA ["_law_found","_law_due"] f fd)(cb:Df K mg "_law_state_same" jc pSs fSs fdSs)(bW:cg P w K mg base CX0 2 fSs fdSs pSs (spSs CS))(I:Kb K CB)(Z:BkT K mg CB)(kll:cE K (.type "list") (.type "list")=Z8 true)(ktt:cE K (.type "tuple") (.type "tuple")=Z8 true)(B:Bl mg):cg P w K mg base CX0 3 f fd ["_law_found","_law_due"] (spBs CB CS):=by
 refine D.F.ok scBs (fun vs H Q E h=>?_) (fun bv A outer s H vs Q E hr h=>?_)
 ·obtain⟨b,t,q,e,rfl,_⟩:=h;rfl
 obtain⟨b,t,q,e,rfl,hB,hD,bB,k⟩:=h;have J:=E8 hr;refine⟨_,ag (cC ((mB (kL (hJ (cq rJ (by rfl) B.isi fZ (bj (pv 0) (bj (Bd (v:=.ref CB) (by rfl) Z.m rfl) ao))))) (mB (kL (hJ (cq d9 (by rfl) B.isi fZ (aq (cK (pv 0) (by rfl)) (bj (iu (v:=.ty "list") (by rfl) B.list boot_list rfl) ao))))) (lE (aZ (xU J) (cK (pv 0) (by rfl)) (aP aY (pv 1) ah))))).pt) (aA (bD km)) bL)
  (ag (cC ((mB (kL (hJ (cq d9 (by rfl) B.isi fZ (aq (cK (pv 0) (by rfl)) (bj (iu (v:=.ty "tuple") (by rfl) B.tuple boot_tuple rfl) ao))))) (lE (aZ (xU J) (cK (pv 0) (by rfl)) (aP aY (pv 1) ah)))).pt) (aA (bD km)) bL)
  (ag (cC ((mB (kL (hJ (cq d9 (by rfl) B.isi fZ (aq (cK (pv 0) (by rfl)) (bj (iu (v:=.ty "list") (by rfl) B.list boot_list rfl) ao))))) (lE (aZ Bj (cq (c7 K (by rfl)) (by rfl) B.len bO (aq (cK (pv 0) (by rfl)) ao)) (cq (c7 K (by rfl)) (by rfl) B.len bO (gJ (aP aY (pv 1) ah) ao))))).pt) (aA (bD km)) bL)
  (ag (fq bV rfl (jE (by rfl) B.range (aq (cq (c7 K (by rfl)) (by rfl) B.len bO (gJ (aP aY (pv 1) ah) ao)) ao)) (pgn 2 scBs) (aA (cC (kL (hJ (pcl bW hr cb (gJ (aP cy (cK (pv 0) (by rfl)) (pv 2)) (gJ (aP cy (aP aY (pv 1) ah) (pv 2)) ao))))) (aA (bD km)) bL)))
  (aA (bD km))))),?_⟩
 refine Z0 fun Gz gz=>?_;obtain⟨dx,rl,sl,en,bz,ss,hb,ci,pr,he,U,ps⟩:=hB.ex;obtain⟨bu,W,bw,bG,O,ht,cd,bI,bS,Y,z⟩:=hD.ex;obtain⟨te,xe,rfl,ca⟩:=NZ he;refine gz ?_;have M:=aM z;refine aX (jq (c:=false) (fun R r=>?_) (fun c=>by cases c) (fun _=>cU ?_))
 ·refine{_,Z9,.ref b,CB,.ref CB,true,Z9,.ins hb Z.cl I.ha I.hn I.hk I.hm,I.kt,_,Z9,?_};exact dP ({_,Z9,b,CB,dx,_,_,Z9,hb,Z.cl,Z.nR,Jt _ _ _,.ref rl,"list",.type "list",true,Z9,.lst ci,kll,_,Z9,dP ({_,Z9,b,CB,dx,_,_,Z9,hb,Z.cl,Z.nR,Jt _ _ _,_,Z9,t,_,_,_,Z9,Z9,SqT.of ht,Z9,5,by decide,Hz ci cd pr bI,{_,Z9,r}})})
 dsimp only;refine aX (jq (c:=false) (fun R r=>?_) (fun c=>by cases c) (fun _=>cU ?_))
 ·refine{_,Z9,b,CB,dx,_,_,Z9,hb,Z.cl,Z.nE,bk_e _ _ _,.ref te,"tuple",.type "tuple",true,Z9,.tup ca,ktt,_,Z9,?_};exact dP ({_,Z9,b,CB,dx,_,_,Z9,hb,Z.cl,Z.nE,bk_e _ _ _,_,Z9,t,_,_,_,Z9,Z9,SqT.of ht,Z9,2,by decide,Kk he bS,{_,Z9,r}})
 dsimp only;refine aX (jq (c:=false) (fun R r=>?_) (fun c=>by cases c) (fun _=>cU ?_))
 ·refine{_,Z9,b,CB,dx,_,_,Z9,hb,Z.cl,Z.nS,Ju _ _ _,.ref sl,"list",.type "list",true,Z9,.lst U,kll,_,Z9,?_};refine dP ({_,Z9,b,CB,dx,_,_,Z9,hb,Z.cl,Z.nS,Ju _ _ _,sl,_,Z9,.inl (SqL.of U),{_,Z9,t,_,_,_,Z9,Z9,SqT.of ht,Z9,W,_,Z9,.inl (SqL.of Y),{Z9,{_,Z9,?_}}}});have el:(!decide (V.int ((ss.map V.ref).length:Nat)=V.int ((O.map V.ref).length:Nat)))=false:=by
   rw[ai,ai,(aM ps),M,decide_eq_true rfl];rfl
  rw[el];exact r
 dsimp only;refine aX ({_,Z9,t,_,_,_,Z9,Z9,SqT.of ht,Z9,W,_,Z9,.inl (SqL.of Y),?_});have lm:(O.map V.ref).length=q.1.sts.length:=by rw[ai];exact M
 refine{_,Z9,by omega,by omega,j0 (n:=(O.map V.ref).length) (fun i σ G=>∃u2,σ=[Z8 (.ref b),Z8 (.ref t),u2]/\G=H) {_,Z9,Z9} ?_ ?_}
 ·rintro i σ G hi ⟨u2,rfl,rfl⟩;refine Z0 fun Gz gz=>?_;obtain⟨si,ce⟩:∃s,q.1.sts[i]?=Z8 s:={_,aI (by omega)};obtain⟨a,ha,hA⟩:=gi ps ce;obtain⟨a',g,cc⟩:=gi z ce;refine gz (bF ?_);dsimp only;refine{_,Z9,b,CB,dx,_,_,Z9,hb,Z.cl,Z.nS,Ju _ _ _,_,Z9,sl,_,_,_,Z9,Z9,SqL.of U,(by first|exact gy (by rw[bM,ha];rfl)|(rw[A6];exact gy (by rw[bM,ha];rfl))),_,Z9,t,_,_,_,Z9,Z9,SqT.of ht,Z9,_,Z9,W,_,_,_,Z9,Z9,SqL.of Y,(by first|exact gy (by rw[bM,g];rfl)|(rw[A6];exact gy (by rw[bM,g];rfl))),a,a',si.bx,si.qu,si.dr,si.se,Z9,hA,cc,_,Z9,?_};exact dP (cU ({_,Z9,Z9}))
 ·rintro σ G ⟨u2,rfl,rfl⟩;exact k
end
noncomputable abbrev FF (sl pl rl:ae) (G:Hp):Hp:=Hid {[sl,pl,rl],fun _=>Z7} G
section
variable{sl pl rl a:ae}{G G':Hp}
theorem HQ(h1:a≠sl)(h2:a≠pl)(Z:a≠rl):a∉({[sl,pl,rl],fun _=>Z7}:Ex):=fun z=>z.elim (fun y=>by
 simp at y
 rcases y with y|y|y
 ·exact h1 y
 ·exact h2 y
 ·exact Z y) fun⟨o,e,_⟩=>by cases e
theorem zW(h1:a≠sl)(h2:a≠pl)(Z:a≠rl):FF sl pl rl G a=G a:=fJ (HQ h1 h2 Z)
theorem Ba(h:a∉({[sl,pl,rl],fun _=>Z7}:Ex)):a≠sl/\a≠pl/\a≠rl:=
 {fun z=>h (.inl (z ▸ ax)),fun z=>h (.inl (z ▸ aa _ ax)),fun z=>h (.inl (z ▸ aa _ (aa _ ax)))}
theorem Kl{x1 Y W:List V}(h1:G sl=Z8 (.lst x1))(h2:G pl=Z8 (.lst Y))(Z:G rl=Z8 (.lst W)):bN (Hid {[],G} G') (FF sl pl rl G'):=fun a o e=>by
 have out:∀{b:ae} {xs:List V},G b=Z8 (.lst xs)->a≠b:=fun {b xs} hb z=>(j7 e) (.inr {_,by rw[z];exact hb,fun ys y=>by cases y});rw[zW (out h1) (out h2) (out Z)];exact eA _ _ e
theorem N0{Z:ae}{o:HO}(n:G Z=Z7):bN (FF sl pl rl G) (FF sl Z rl (upd G Z o)):=fun a u e=>by
 obtain⟨W,U,V⟩:=Ba (j7 e);have Y:=eA _ _ e;rw[zW W (ay Y n) V];exact aN Y (ay Y n)
end
theorem Paired.erase{Z Y:Type}{R:Z->Y->Prop}:∀{xs:List Z} {ys:List Y},aO R xs ys->∀j:Nat,aO R (xs.eraseIdx j) (ys.eraseIdx j)
 |_,_,.nil,j=>by
  rw[HR,HR];exact .nil
 |_,_,.cons a b,0=>b
 |_,_,.cons a b,j+1=>.cons a (Paired.erase b j)
theorem map_set{Z Y:Type}{f:Z->Y}:∀(xs:List Z) (i:Nat) (x:Z),(xs.map f).set i (f x)=(xs.set i x).map f
 | [],i,x=>rfl
 |y::xs,0,x=>rfl
 |y::xs,i+1,x=>by
  rw[En,cP,cP,En,map_set xs i x]
structure LrI(H0 G:Hp)(sl pl rl:ae)(sts:List Sta)(pd:List Ev)(rs:List Rec):Prop where
 sm:bN H0 G
 n1:sl≠pl
 n2:sl≠rl
 n3:pl≠rl
 f1:H0 sl=Z7
 f2:H0 pl=Z7
 f3:H0 rl=Z7
 hs:∃ss:List ae,G sl=Z8 (.lst (ss.map V.ref))/\aO (SlA (FF sl pl rl G)) ss sts
 hp:∃ps,G pl=Z8 (.lst ps)/\aO (fH (FF sl pl rl G)) ps pd
 hr:∃rvs,G rl=Z8 (.lst rvs)/\aO (RcIn (FF sl pl rl G)) rvs rs
section
variable{H0 G G':Hp}{sl pl rl:ae}{sts:List Sta}{pd:List Ev}{rs:List Rec}
theorem LrI.same(l:LrI H0 G sl pl rl sts pd rs)(s:bN G G'):LrI H0 G' sl pl rl sts pd rs:=by
 obtain⟨Y,h1,h2⟩:=l.hs;obtain⟨ps,W,R⟩:=l.hp;obtain⟨Z,U,V⟩:=l.hr;have f:=ir (ex:={[sl,pl,rl],fun _=>Z7}) s;exact{l.sm.trans s,l.n1,l.n2,l.n3,l.f1,l.f2,l.f3,{Y,s _ _ h1,Paired.mono (fun _ _ z=>m6.same f z) h2},{ps,s _ _ W,Paired.mono (fun _ _ z=>z.same f) R},{Z,s _ _ U,Paired.mono (fun _ _ z=>z.same f) V}}
theorem LrI.oth(l:LrI H0 G sl pl rl sts pd rs){a:ae}(h:H0 a=Z7)(o:HO):bN H0 (upd G a o):=fun b u e=>aN (l.sm _ _ e) (ay e h)
theorem LrI.rem(l:LrI H0 G sl pl rl sts pd rs):∃ps,G pl=Z8 (.lst ps)/\aO (fH (FF sl pl rl G)) ps pd/\∀j,LrI H0 (upd G pl (.lst (ps.eraseIdx j))) sl pl rl sts (pd.eraseIdx j) rs:=by
 refine Z0 fun M V=>?_;obtain⟨W,h1,h2⟩:=l.hs;obtain⟨ps,U,Y⟩:=l.hp;obtain⟨Z,O,R⟩:=l.hr;refine V ({ps,U,Y,fun j=>?_});have f:FF sl pl rl (upd G pl (.lst (ps.eraseIdx j)))=FF sl pl rl G:=iC (.inl (aa _ ax));exact{l.oth l.f2 _,l.n1,l.n2,l.n3,l.f1,l.f2,l.f3,{W,aN h1 l.n1,by rw[f];exact h2},{_,ak,by rw[f];exact Paired.erase Y j},{Z,aN O l.n3.symm,by rw[f];exact R}}
theorem LrI.sta(l:LrI H0 G sl pl rl sts pd rs):∃Z:List ae,G sl=Z8 (.lst (Z.map V.ref))/\aO (SlA (FF sl pl rl G)) Z sts/\∀(i:Nat) (b:ae) (s':Sta),SlA (FF sl pl rl G) b s'->LrI H0 (upd G sl (.lst ((Z.map V.ref).set i (.ref b)))) sl pl rl (sts.set i s') pd rs:=by
 refine Z0 fun J W=>?_;obtain⟨Z,h1,h2⟩:=l.hs;obtain⟨ps,U,M⟩:=l.hp;obtain⟨Y,O,R⟩:=l.hr;refine W ({Z,h1,h2,fun i b s' hb=>?_});rw[map_set];have f:FF sl pl rl (upd G sl (.lst ((Z.set i b).map V.ref)))=FF sl pl rl G:=iC (.inl ax);exact{l.oth l.f1 _,l.n1,l.n2,l.n3,l.f1,l.f2,l.f3,{_,ak,by rw[f];exact Paired.set h2 i hb},{ps,aN U l.n1.symm,by rw[f];exact M},{Y,aN O l.n2.symm,by rw[f];exact R}}
theorem LrI.put(l:LrI H0 G sl pl rl sts pd rs):∃Z,G rl=Z8 (.lst Z)/\Z.length=rs.length/\∀(v:V) (q:Rec),RcIn (FF sl pl rl G) v q->LrI H0 (upd G rl (.lst (Z++[v]))) sl pl rl sts pd (rs++[q]):=by
 refine Z0 fun J U=>?_;obtain⟨W,h1,h2⟩:=l.hs;obtain⟨ps,R,M⟩:=l.hp;obtain⟨Z,O,Y⟩:=l.hr;refine U ({Z,O,aM Y,fun v q hq=>?_});have f:FF sl pl rl (upd G rl (.lst (Z++[v])))=FF sl pl rl G:=iC (.inl (aa _ (aa _ ax)));exact{l.oth l.f3 _,l.n1,l.n2,l.n3,l.f1,l.f2,l.f3,{W,aN h1 l.n2,by rw[f];exact h2},{ps,aN R l.n3,by rw[f];exact M},{_,ak,by rw[f];exact cS Y hq}}
theorem LrI.more(l:LrI H0 G sl pl rl sts pd rs):∃ps,G pl=Z8 (.lst ps)/\ps.length=pd.length/\∀(Z:ae) (vs:List V) (es:List Ev),G Z=Z7->aO (fH (FF sl pl rl G)) vs es->LrI H0 (upd G Z (.lst (ps++vs))) sl Z rl sts (pd++es) rs:=by
 refine Z0 fun E O=>?_;obtain⟨R,h1,h2⟩:=l.hs;obtain⟨ps,M,U⟩:=l.hp;obtain⟨W,Y,J⟩:=l.hr;refine O ({ps,M,aM U,fun Z vs es n I=>?_});have f:=N0 (sl:=sl) (pl:=pl) (rl:=rl) (o:=.lst (ps++vs)) n;exact{l.oth (none_of l.sm n) _,ay h1 n,l.n2,(ay Y n).symm,l.f1,none_of l.sm n,l.f3,{R,aN h1 (ay h1 n),Paired.mono (fun _ _ z=>m6.same f z) h2},{_,ak,q8 (Paired.mono (fun _ _ z=>z.same f) U) (Paired.mono (fun _ _ z=>z.same f) I)},{W,aN Y (ay Y n),Paired.mono (fun _ _ z=>z.same f) J}}
theorem LrI.due(l:LrI H0 G sl pl rl sts pd rs){t:ae}{en:V}{e:End}{r:RS}(O:r.sts=sts)(M:G t=Z8 (.tup [.ref rl,en,.ref sl]))(U:q5 G en e):xk G t (r,rs) e:=by
 obtain⟨Y,h1,h2⟩:=l.hs;obtain⟨Z,R,W⟩:=l.hr;exact⟨rl,sl,en,Z,Y,M,R,Paired.mono (fun _ _ z=>z.same eA) W,U,h1,by
  rw[O];exact Paired.mono (fun _ _ z=>m6.same eA z) h2⟩
end
theorem HS{G:Hp}:∀{Z:List (Str×ae)} {qs:List Str},eN G Z (noQ qs)->∀a∈Z.map (·.2),G a=Z8 (.lst [])
 | [],_,_,a,h=>by cases h
 |p::Z,[],h,a,_=>by cases h
 |p::Z,q::qs,h,a,m=>by
  cases h with
  |cons x y=>
   rw[cP]at m
   rcases aE.mp m with z|z
   ·rw[z];exact x.2
   ·exact HS y a z
theorem sl_ff{R G:Hp}{sl pl rl a:ae}{U:List ae}{ps:List (Str×Int)}{qs:List Str}(Y:R sl=Z8 (.lst (U.map V.ref)))(ne:U≠[])(s:bN R G)(W:R pl=Z7)(Z:R rl=Z7)(h:m6 R a ps (noQ qs) 0 0):m6 (FF sl pl rl G) a ps (noQ qs) 0 0:=by
 obtain⟨J,I,E,h1,h2,O,M⟩:=h;have a1:a≠sl:=fun z=>by
  rw[z,Y]at h1;have e:V.int ((0:Nat):Int)∈U.map V.ref:=by simp_all
  obtain⟨x,_,y⟩:=cD.mp e
  cases y
 refine{J,I,E,?_,?_,?_,?_}
 ·rw[zW a1 (ay h1 W) (ay h1 Z)];exact s _ _ h1
 ·rw[zW (jD h2 Y (by intro z;cases z)) (ay h2 W) (ay h2 Z)];exact s _ _ h2
 ·rw[zW (jD O Y (by intro z;cases z)) (ay O W) (ay O Z)];exact s _ _ O
 ·refine eN.hid (fun b hb=>?_) (M.same s);have q:=HS M b hb;refine HQ (fun z=>?_) (ay q W) (ay q Z);rw[z,Y]at q;injection q with q;injection q with q;exact ne (Dv.mp q)
theorem DY{Ms:List MD}{r:RS}{Z:Int}{i j:Nat}{e W:End}(h:xh Ms r Z i e)(h':xh Ms r Z j W):i=j/\e=W:=by
 obtain⟨a1,a2,_⟩:=h;obtain⟨U,Y,_⟩:=h';have V:i=j:=by
  rcases Nat.lt_trichotomy i j with z|z|z
  ·simp_all
  ·exact z
  ·simp_all
 subst V;rw[a2]at Y;injection Y with Y;subst Y;exact⟨Z9,Z9⟩
end My
namespace L2
open PySem PySem.Spec PyProof.Rows
theorem HU{K:af}{a:ae}{xs:List V}{g:TG}{tb:TS}{D:kK}{σ:St}{H:Hp}(Z:Nat->St->Hp->Prop)(G:Z 0 σ H)(I:∀i σ H,i<=xs.length->Z i σ H->SqL K H a xs)
  (hs:∀i x t σ H,xs[i]?=Z8 x->Z i σ H->H t=Z7->g (.ref t) σ (upd H t (.tup [.int i,x])) fun U H2=>tb {D with nx:=Z (i+1),ct:=Z (i+1),bk:=D.nx} U H2) (M:∀σ H,Z xs.length σ H->D.nx σ H) :
  ∃W:Nat->Nat->St->Hp->Prop,(∃m,W 0 m σ H)/\∀i m σ H,W i m σ H ->
   ((Ite K a).stop i H/\D.nx σ H)\/((Ite K a).go i H/\∃N:St->Hp->Prop,(∀Y H',N Y H'->∃O,O<m/\W (i+1) O Y H')/\∀x H',(Ite K a).yld i H x H'->g x σ H' fun U H2=>tb {D with nx:=N,ct:=N,bk:=D.nx} U H2):=by
 refine{fun i m σ H=>m=xs.length-i/\i<=xs.length/\Z i σ H,{xs.length,by simp,bE _,G},?_};rintro i m σ H ⟨rfl,hi,p⟩;have q:=I i σ H hi p
 by_cases R:i<xs.length
 ·refine .inr {{xs,xs[i],q,by simp[R]},Z (i+1),fun Y H' J=>{xs.length-(i+1),by omega,Z9,R,J},fun x H' y=>?_};obtain⟨t,v,rfl,E,B,rfl⟩:=y;exact hs i v t σ H (B xs q) p E
 ·have e:i=xs.length:=by omega
  subst e;exact .inl {{xs,q,aF _},M σ H p}
end L2
namespace My
open PySem L2
theorem DZ:eB "min"=Z8 (.builtin "min"):=by decide +kernel
section
variable{P:aQ}{w:bU}{K:af}{mg:Str->Option aj}{base:cG}{f fFi fLd:ae}{fd fdFi fdLd:cm}
seal PS PSs PE PA PT PW PI PG PGs PC
abbrev pLr:List Str:=["_law_machines","_law_signs_here","_law_most"]
abbrev nLr:List Str:=pLr++(["_law_states","_law_pending","_law_count","_law_sign","_law_records","_law_happening","_law_found"]:List Str)
theorem yq:bX nLr pLr (aT qf):=eQ
inductive LL(vs:List V)(H:Hp)(Q:VK)(_e:XK):Prop where
 |mk(ml sg:ae)(ms svs:List V)(Ms:List MD)(es:List Ev)(most:Int)(_:vs=[.ref ml,.ref sg,.int most])(_:H ml=Z8 (.lst ms))(_:aO (MoI (Ms.length:Int) H) ms Ms)(_:Ms.length<=9)(_:0<Ms.length)(_:H sg=Z8 (.lst svs))(_:aO (nY H) svs es)(_:es.length<64)(_:(∀e∈es,Dt Ms.length e))(_:most<=1000)(_:∀(G:Hp) (t:ae) (i:Nat) (e:End),bN H G->xh Ms (qF Ms es) most i e->xk G t (itR Ms (qF Ms es) i) e->Q (.ref t) G):LL vs H Q _e
def spLr:Sp:=fun vs H Q Z=>LL vs H Q Z
theorem HV{G:Hp}{a:ae}{xs:List V}{o:HO}{v:V}{e:Ev}(ha:G a=Z8 (.lst xs))(h:fH G v e):fH (upd G a o) v e:=by
 obtain⟨t,k,Z,h1,h2⟩:=h;exact{t,k,Z,aN h1 (jD h1 ha (by intro z;cases z)),aN h2 (jD h2 ha (by intro z;cases z))}
theorem zX{α β γ:Type}{R:α->β->Prop}{S:α->γ->Prop}{f:β->γ}(h:∀x y,R x y->S x (f y)){xs:List α}{ys:List β}(p:aO R xs ys):aO S xs (ys.map f):=by
 induction p with
 |nil=>exact .nil
 |cons a _ Z=>exact .cons (h _ _ a) Z
def LrW(Ms:List MD)(Z:RS)(Y:Int)(H:Hp)(R W sl rl:ae)(m:Nat)(σ:St)(G:Hp):Prop:=∃(i:Nat) (pl:ae) (pd:List Ev) (O J U I:Option V),σ=[Z8 (.ref R),Z8 (.ref W),Z8 (.int Y),Z8 (.ref sl),Z8 (.ref pl),O,J,Z8 (.ref rl),U,I] /\
 (∀j,j<i->ROk Ms.length (itR Ms Z j).1/\j6 (itR Ms Z j).1 (Y-(itR Ms Z j).2.length)=Z7)/\LrI H G sl pl rl (itR Ms Z i).1.sts pd (itR Ms Z i).2/\pd.Perm (itR Ms Z i).1.pd/\ROk Ms.length (itR Ms Z i).1 /\
 (∀(j:Nat) (M:MD) (s:Sta),Ms[j]?=Z8 M->(itR Ms Z i).1.sts[j]?=Z8 s->m5 M.bs M.qs s.w)/\(itR Ms Z i).1.sp=Z7/\(itR Ms Z i).1.pd.length<=100+5000*(itR Ms Z i).2.length/\(itR Ms Z i).2.length<=1000/\m=2000-(itR Ms Z i).2.length
theorem N8{r:RS}{left:Int}(h1:r.sp=Z7)(h2:r.pd≠[])(Z:0<left):j6 r left=Z7:=by
 unfold j6;rw[h1];rw[if_neg (by intro z;exact h2 (Ig.mp z)),if_neg (by omega)]
theorem D0{r:RS}{left:Int}(h1:r.sp=Z7)(h2:r.pd=[]):j6 r left=Z8 .empty:=by
 unfold j6;rw[h1];rw[if_pos (by rw[h2];rfl)]
theorem Km{r:RS}{left:Int}(h1:r.sp=Z7)(h2:r.pd≠[])(Z:left<=0):j6 r left=Z8 .cut:=by
 unfold j6;rw[h1];rw[if_neg (by intro z;exact h2 (Ig.mp z)),if_pos Z]
theorem Bb{xs:List Str}(h:∀x∈xs,x.length<=6):("the end":Str)∉xs:=fun z=>by
 exact absurd (h _ z) (by decide)
theorem ok_lr(D:Df K mg "_law_run" qf pLr f fd)(im:Df K mg "_law_first" mQ ["_law_machines"] fFi fdFi)(hA:Df K mg "_law_done" j4 pLd fLd fdLd)(hK:cg P w K mg base CX0 19 fLd fdLd pLd (fun vs H Q E=>∃bq:List Str×List Str,NU bq.1 bq.2 vs H Q E))(kss:cE K (.type "str") (.type "str")=Z8 true)(kts:cE K (.type "tuple") (.type "str")=Z8 false)(ME:mg "enumerate"=Z7)(MM:mg "min"=Z7)(B:Bl mg):cg P w K mg base CX0 20 f fd pLr spLr:=by
 have hL:cg P w K mg base CX0 1 fFi fdFi ["_law_machines"] spFi:=ok_fi im;refine D.F.ok yq (fun vs H Q E h=>?_) (fun gg A outer s H vs Q E hr h=>?_)
 ·obtain⟨ml,sg,ms,la,Ms,es,W,rfl,_⟩:=h;rfl
 obtain⟨ml,sg,ms,la,Ms,es,W,rfl,hS,mL,lM,pM,kq,ij,gM,hF,ho,k⟩:=h;have ii:=E8 hr;have h3:=fY (gC (by decide:3<=50) _) ii;have r1:e8 1 _:=hr.mono (by decide);have hO:e8 19 _:=hr;refine⟨_,ag (pst 3 yq (pcl hL r1 im (bj (pv 0) ao)))
  (ag (pst 4 yq (dO ao))
  (ag (fq bV rfl (xW (by rfl) ME (bj (pv 1) ao)) (sj rfl (eP (pgn 5 yq) (eP (pgn 6 yq) lu))) (aA (cV (ia aL bA bC dI (pv 4) (j5 (cW (j5 (cW (gJ (aP aY (pv 6) ah) (gJ (aP aY (pv 6) ah) (aq (sX pk ah) (bj (pv 5) ao))))) (gJ (aP aY (pv 6) ah) (gJ (aP aY (pv 6) ah) (gJ (aP aY (pv 6) ah) (gJ (aP aY (pv 6) ah) ao)))))) ao)))))
  (ag (pst 7 yq (dO ao))
  (ag (rp bV ((oj (aZ lI (cq (c7 K (by rfl)) (by rfl) B.len bO (bj (pv 4) ao)) ah) (kZ (aZ oQ (cq (c7 K (by rfl)) (by rfl) B.len bO (bj (pv 7) ao)) (pv 2)))).pt) (ag (pst 8 yq (cq (DQ h3 rfl) (by rfl) MM DZ (bj (pv 4) ao)))
  (ag (cV (ia aL PySem.F.slot_list_remove PySem.F.type_list_remove (DV ii) (pv 4) (bj (pv 8) ao)))
  (ag (pst 9 yq (pcl hK hO hA (bj (pv 0) (gJ (aP cy (pv 3) (aP aY (pv 8) ah)) (bj (pv 8) ao)))))
  (ag (cC (hJ (cq d9 (by rfl) B.isi fZ (bj (pv 9) (bj (iu (v:=.ty "str") (by rfl) B.str boot_str rfl) ao)))) (aA (bD (cW (bj (pv 7) (j5 (cW (dj bP (bj (pv 9) (gJ (aP aY (pv 8) ah) ao)))) (bj (pv 3) ao)))))) bL)
  (ag (pf (aP aY (pv 9) ah) (qO (pv 3) (aP aY (pv 8) ah) lN))
  (ag (cV (ia aL bA bC dI (pv 7) (gJ (aP aY (pv 9) ah) ao)))
  (ag (pst 4 yq (cI xA (pv 4) (aP aY (aP aY (pv 9) ah) ah)))
  (aA (cC (hJ (aP aY (pv 9) ah)) (aA (bD (cW (bj (pv 7) (j5 (cW (dj bP (gJ (aP aY (pv 8) ah) ao))) (bj (pv 3) ao)))))) bL))))))))))
  (ag (cC (aZ cZ (cq (c7 K (by rfl)) (by rfl) B.len bO (bj (pv 4) ao)) ah) (aA (bD (cW (bj (pv 7) (j5 (cW (dj bP ao)) (bj (pv 3) ao)))))) bL)
  (aA (bD (cW (bj (pv 7) (j5 (cW (dj bP ao)) (bj (pv 3) ao))))))))))),?_⟩
 have big:=dW;have gw:∀M∈Ms,(M.ps.map (·.1)).Nodup/\M.ps.length<=9/\M.qs.Nodup/\M.qs.length<=9:=fun M hM=>by
  obtain⟨j,hj⟩:=cz hM;obtain⟨x,_,mo⟩:=gi mL hj;have e:=congrArg jK mo.kb;rw[ai]at e;have:=mo.lb;exact{by rw[mo.kb];exact mo.nb,by omega,mo.nq,mo.lq}
 refine ib fun nx Z=>cH ?_;refine{_,Z9,ml,ms,Ms,Z9,hS,Paired.mono (fun _ _ z=>z.fs) mL,gw,lM,fun G1 sl jb s1 ja mn pN=>?_};refine bF (Z _ _ ?_);refine ib fun nx Z=>cH ?_;refine{bE _,fun pl nE=>?_};refine bF (Z _ _ ?_);have hu:=aM ij;refine ib fun nx Z=>?_;refine{_,Z9,sg,Z9,{la,SqL.of (aN (s1 _ _ kq) (ay (s1 _ _ kq) nE))},?_};refine HU (K:=K) (xs:=la) (fun i σ G=>∃u5 u6 ps,σ=[Z8 (.ref ml),Z8 (.ref sg),Z8 (.int W),Z8 (.ref sl),Z8 (.ref pl),u5,u6,Z7,Z7,Z7]/\bN G1 G/\G pl=Z8 (.lst ps)/\aO (fH G) ps ((og es).take i)) {_,_,[],Z9,aH nE _,ak,by rw[dE];exact .nil} ?_ ?_ ?_
 ·rintro i σ G hi ⟨u5,u6,ps,rfl,sm,hp,pp⟩;exact SqL.of (sm _ _ (s1 _ _ kq))
 ·rintro i x t σ G hi ⟨u5,u6,ps,rfl,sm,hp,pp⟩ ht;obtain⟨e,he,ts,rfl,gq⟩:=iJ ij hi;have U:=aH ht (.tup [.int i,.ref ts]);have hq:=U _ _ (sm _ _ (s1 _ _ gq));have lp:=aM pp;rw[cL,kI]at lp;refine{t,_,Z9,SqT.of ak,Z9,_,_,Z9,_,_,Z9,Z9,?_};refine{_,Z9,.inl {Z9,_,SqL.of (U _ _ hp)},?_};refine{_,Z9,ts,_,_,_,Z9,Z9,SqT.of hq,Z9,_,Z9,ts,_,_,_,Z9,Z9,SqT.of hq,Z9,_,Z9,_,Z9,(by show 4<=aG;decide),fun kt hQ=>?_};have sk:=aH hQ (.tup [.int e.t,.int e.r,.int (-1),.int i]);have lw:=sk _ _ hq;refine{_,Z9,ts,_,_,_,Z9,Z9,SqT.of lw,Z9,_,Z9,ts,_,_,_,Z9,Z9,SqT.of lw,Z9,_,Z9,ts,_,_,_,Z9,Z9,SqT.of lw,Z9,_,Z9,ts,_,_,_,Z9,Z9,SqT.of lw,Z9,(by show 5<=aG;decide),fun et g=>?_};have se:=aH g (.tup [.ref kt,.int e.to,.str e.sg,.int e.a,.int e.b]);have sA:=(U.trans sk).trans se;refine{pl,ps,_,Z9,Z9,sA _ _ hp,by omega,?_};refine{_,_,_,Z9,fun b o q=>aN (sA _ _ (sm _ _ q)) (ay q nE),ak,?_};have eo:(og es)[i]?=Z8 (atP e i):=by
   unfold og;rw[qM,he];rfl
  rw[dh,eo];have hd:fH (upd (upd (upd G t (.tup [.int i,.ref ts])) kt (.tup [.int e.t,.int e.r,.int (-1),.int i])) et (.tup [.ref kt,.int e.to,.str e.sg,.int e.a,.int e.b])) (.ref et) (atP e i):={et,kt,Z9,ak,se _ _ ak};exact cS (Paired.mono (fun _ _ z=>HV (sA _ _ hp) (z.same sA)) pp) (HV (sA _ _ hp) hd)
 rintro σ G2 ⟨u5,u6,hH,rfl,mD,lP,kv⟩;rw[hu,<- kI,cF]at kv;refine Z _ _ ?_;refine ib fun nx Z=>cH ?_;refine{bE _,fun rl nn=>?_};refine bF (Z _ _ ?_);have s3:=aH nn (.lst []);have ko:bN H G2:=s1.trans mD;have ih:jb≠[]:=fun z=>by
  have y:=aM pN;rw[z]at y;simp only[cY]at y;omega
 have l0:LrI H (upd G2 rl (.lst [])) sl pl rl (qF Ms es).sts (og es) []:=by
  have mu:=mD _ _ mn;have hR:sl≠pl:=ay mn nE;have hf:G1 rl=Z7:=none_of mD nn;refine{ko.trans s3,hR,ay mu nn,ay lP nn,ja,none_of s1 nE,none_of ko nn,{jb,s3 _ _ mu,?_},{hH,s3 _ _ lP,Paired.mono (fun _ _ z=>fH.hid (fun a ha=>?_) (z.same s3)) kv},{[],ak,.nil}}
  ·have e:(qF Ms es).sts=Ms.map st0:=rfl;rw[e];refine jy (by rw[ai];exact aM pN) fun i x y hx hy=>?_;rw[bM]at hy;obtain⟨M,hM,hN⟩:=mh pN hx;rw[hM]at hy;injection hy with hy;subst hy;exact sl_ff mn ih (mD.trans s3) nE hf (m6.same KO hN)
  ·rcases ha with y|⟨o,y,_⟩
   ·have y:a∈[sl,pl,rl]:=y;simp only[aE,e7,or_false]at y
    rcases y with y|y|y
    ·rw[y];exact{_,s3 _ _ mu,by intro xs z;cases z}
    ·rw[y];exact{_,s3 _ _ lP,by intro xs z;cases z}
    ·rw[y];exact{_,ak,by intro xs z;cases z}
   ·cases y
 revert l0;generalize upd G2 rl (.lst [])=G3;intro l0;clear Z kv lP mD nn s3 ko ih mn pN ja s1 nE;have mo:NH Ms:=fun M hM=>by
  obtain⟨j,hj⟩:=cz hM;obtain⟨x,_,y⟩:=gi mL hj;exact y.hk
 have wk0:∀(j:Nat) (M:MD) (s:Sta),Ms[j]?=Z8 M->(qF Ms es).sts[j]?=Z8 s->m5 M.bs M.qs s.w:=fun j M s hM hs=>by
  have hs:(Ms.map st0)[j]?=Z8 s:=hs;rw[bM,hM]at hs;injection hs with hs;subst hs;obtain⟨x,_,y⟩:=gi mL hM;exact y.wk0
 have mz:=yl hF;have mx:(og es).Perm (qF Ms es).pd:=by
  have:=gF (og es) [];rw[cB]at this;exact this.symm
 have kG:(qF Ms es).sp=Z7:=rfl;have ka:(qF Ms es).pd.length<64:=by
  rw[<- mx.length_eq,kI];exact gM
 generalize og es=oe at l0 mx;generalize qF Ms es=r0 at k l0 wk0 mz mx kG ka;refine ib fun nx Z=>?_;refine{LrW Ms r0 W H ml sg sl rl,{_,0,pl,oe,_,_,_,_,Z9,fun j hj=>absurd hj (iP _),l0,mx,mz,wk0,kG,?_,?_,Z9},?_}
 ·show r0.pd.length<=_;omega
 ·exact bE _
 clear l0 wk0 mz mx kG ka oe;intro m σ G qz;refine Z0 fun Gz gz=>?_;obtain⟨i,pl,pd,u5,u6,u8,u9,rfl,hj,l,pm,nO,wk,sp,io,hc,rfl⟩:=qz;refine gz ?_;have mS:itR Ms r0 (i+1)=((gT Ms (itR Ms r0 i).1).1,(itR Ms r0 i).2++(gT Ms (itR Ms r0 i).1).2):=rfl;obtain⟨ps,nf,nl,nH⟩:=l.rem;obtain⟨mG,js,hI,_⟩:=l.put;have hm:=aM nl;have na:=pm.length_eq;have dt:=Det.and (tB:=uC (tOp (rI0 fun i j=>.bl (decide (i<j))) (tCB (zB K) (jJ (qN 7) tN)) (qN 2))) (σ:=[Z8 (.ref ml),Z8 (.ref sg),Z8 (.int W),Z8 (.ref sl),Z8 (.ref pl),u5,u6,Z8 (.ref rl),u8,u9]) (H:=G) (y:=decide ((mG.length:Int)<W)) (qp (K:=K) (i:=4) (k:=0) rfl nf) (fun _ Q q=>{_,Z9,rl,mG,Z9,.inl (SqL.of js),_,Z9,_,_,Z9,Z9,_,Z9,q});refine dt _ ?_;clear dt
 by_cases c:(0:Int)<ps.length/\(mG.length:Int)<W
 rotate_left
 ·rw[show (decide ((0:Int)<ps.length)&&decide ((mG.length:Int)<W))=false by
   cases z:(decide ((0:Int)<ps.length)&&decide ((mG.length:Int)<W)) with
   |false=>rfl
   |true=>
    rw[gL]at z;exact absurd {of_decide_eq_true z.1,of_decide_eq_true z.2} c]
  refine dP (Z _ _ ?_);clear Z nH;refine ib fun nx Z=>?_;refine jq (zC (K:=K) (i:=4) (k:=0) rfl nf) (fun c2=>?_) (fun c2=>cU (Z _ _ ?_))
  ·have c2:=of_decide_eq_true c2;have e0:(itR Ms r0 i).1.pd=[]:=kY (by omega);refine oW ?_;refine{_,Z9,(by show 1<=aG;decide),fun et g=>{_,Z9,(by show 3<=aG;decide),fun t ht=>?_}};have se:=aH g (.tup [.str "empty"]);have U:=aH ht (.tup [.ref rl,.ref et,.ref sl]);have l2:=(l.same se).same U;exact k _ t i .empty l2.sm {hj,D0 sp e0,nO} (l2.due (r:=(itR Ms r0 i).1) rfl ak {et,Z9,U _ _ ak})
  ·have c2:=of_decide_eq_false c2;have e0:(itR Ms r0 i).1.pd≠[]:=fun z=>by
    rw[z]at na;simp only[cY]at na;omega
   refine oW ?_;refine{_,Z9,(by show 1<=aG;decide),fun et g=>{_,Z9,(by show 3<=aG;decide),fun t ht=>?_}};have se:=aH g (.tup [.str "cut"]);have U:=aH ht (.tup [.ref rl,.ref et,.ref sl]);have l2:=(l.same se).same U;exact k _ t i .cut l2.sm {hj,Km sp e0 (by omega),nO} (l2.due (r:=(itR Ms r0 i).1) rfl ak {et,Z9,U _ _ ak})
 rw[decide_eq_true c.1,decide_eq_true c.2];refine eM ?_;refine{fun hG G'=>∃m',m'<2000-(itR Ms r0 i).2.length/\LrW Ms r0 W H ml sg sl rl m' hG G',fun _ _ z=>z,?_};clear Z;have e0:(itR Ms r0 i).1.pd≠[]:=fun z=>by
  rw[z]at na;simp only[cY]at na;omega
 have si:=Cc mo nO e0;have mc:=(zN si).1;have lf:∀j,j<i+1->ROk Ms.length (itR Ms r0 j).1/\j6 (itR Ms r0 j).1 (W-(itR Ms r0 j).2.length)=Z7:=fun j hD=>by
  rcases tP j i with z|z
  ·exact hj j z
  ·have:j=i:=by omega
   rw[this];exact{nO,N8 sp e0 (by omega)}
 clear hj;generalize hr':(itR Ms r0 i).1=r at mS l pm nO wk sp io e0 si mc nH nl na;generalize hq':(itR Ms r0 i).2=rs at mS l io hc hI nH;clear hr' hq';have hD:(rs.length:Int)<W:=by
  have:=c.2;omega
 obtain⟨h,M,s,d,lg⟩:∃h M s,Did Ms r h M s/\((∃e,doS h M.ds (iG M.hs h.sg) s.w=.error e/\gT Ms r=({r with pd:=r.pd.dropLast,sp:=Z8 (.flt e h)},[]))\/∃Y,doS h M.ds (iG M.hs h.sg) s.w=.ok Y/\News (Ms.length:Int) h (3*ddz 4) s.w Y/\gT Ms r=(⟨r.sts.set h.to.toNat ⟨Y.bx,Y.qu,Y.dr,Y.se⟩,oO Y.out r.pd.dropLast,Z8 h,if Y.en=true then Z8 (.fin h) else Z7⟩,[⟨h,wrB M.bs Y,wrQ M.qs Y,Y.out⟩])):=by
  cases si with
  |err h M s e d q eq=>exact{h,M,s,d,.inl ⟨e,q,eq⟩}
  |ok h M s Y d q N eq=>exact{h,M,s,d,.inr ⟨Y,q,N,eq⟩}
 have nP:pd.Perm (r.pd.dropLast++[h]):=by
  rw[<- d.pd];exact pm
 have mq:kW (r.pd.dropLast++[h]):=by
  rw[<- d.pd];exact nO.fall
 have knd:=DX nP mq;have hC:h∈r.pd:=by
  rw[d.pd];exact aV _ (aD.mpr rfl)
 have nB:=nO.ev h hC;have kw:h.to=((h.to.toNat:Nat):Int):=by
  have:=nB.to0;omega
 obtain⟨mv,hh,mb⟩:=gi mL d.hM;refine ib fun nx Z=>cH ?_;refine⟨_,Z9,pl,ps,pd.map Ev.key,Z9,nf,zX (fun x y z=>Ki (z.same eA)) nl,knd,(fun z=>by
  have y:=congrArg jK z;rw[ai]at y;simp only[cY]at y;omega),fun j v n hv hn lr=>?_⟩
 refine bF (Z _ _ ?_);obtain⟨x,hx,hE⟩:=mh nl hv;rw[bM,hx]at hn;injection hn with hn;subst hn;have gt:x=h:=HN nP mq hx lr;subst gt;obtain⟨th,kh,rfl,no,nd⟩:=hE;obtain⟨_,nth,_⟩:=Ba (j7 no);obtain⟨_,hT,_⟩:=Ba (j7 nd);have no:=eA _ _ no;have nd:=eA _ _ nd;refine ib fun nx Z=>?_;refine{_,Z9,.inl {Z9,_,SqL.of nf},_,Z9,pl,ps,_,j,2,Z9,Z9,nf,(aC.mp hv).1,by decide,NY (Paired.mono (fun _ _ z=>z.same eA) nl) knd hx no nd,Z _ _ ?_};have l4:=nH j;have O:=aN (o':=.lst (ps.eraseIdx j)) no nth;have J:=aN (o':=.lst (ps.eraseIdx j)) nd hT;have hX:=HP nP hx;revert l4 O J;generalize upd G pl (.lst (ps.eraseIdx j))=G4;intro l4 O J;clear nH lr hv no nd nth hT hx nP knd nf js nl mq l c hm na;obtain⟨ss,lh,kc,_⟩:=l4.sta;obtain⟨ga,li,_⟩:=l4.hp;obtain⟨gn,lj,_⟩:=l4.hr;obtain⟨b,hb,hB⟩:=gi kc d.hs;refine ib fun nx Z=>cH ?_;have size:(iG M.hs x.sg).size<10000:=by
  have z:=(yj (P:=fun D=>D.toOk (Ms.length:Int)/\D.deep<=4/\D.size<=3*ddz 4) (mo M (bJ d.hM)) {by simp only[Ds.toOk],by simp only[Ds.deep];omega,by simp only[Ds.size];omega} x.sg).2.2;have y:3*ddz 4<10000:=by decide
  omega
 have gk:=mb.ld;refine{_,Z9,_,Z9,_,Z9,th,_,_,_,Z9,Z9,SqT.of O,Z9,sl,_,_,_,Z9,Z9,SqL.of lh,(by rw[kw];exact gy (by rw[bM,hb];rfl)),_,Z9,(M.bs,M.qs),ml,b,ms,.ref th,mv,x,M.ds,M.hs,s.bx,s.qu,s.dr,s.se,Z9,l4.sm _ _ hS,⟨th,kh,Z9,O,J⟩,(by rw[kw];exact gy hh),(mb.same l4.sm).ma,m6.same eA hB,wk _ _ _ d.hM d.hs,nB.wt,nB.wa,nB.wb,(by omega),mb.nh,size,Bb mb.ne,?_}
 rcases lg with⟨e,q,eq⟩|⟨Y,q,N,eq⟩
 ·rw[show doS x M.ds (iG M.hs x.sg) (w0 s.bx s.qu s.dr s.se)=.error e from q];intro G5 s5;refine bF (Z _ _ ?_);refine ib fun nx Z=>?_;refine{_,Z9,.str (kX e),"str",.type "str",true,Z9,.str _,kss,_,Z9,eM (oW ?_)};refine{_,Z9,_,Z9,_,Z9,th,_,_,_,Z9,Z9,SqT.of (s5 _ _ O),Z9,(by show 3<=aG;decide),fun et g=>{_,Z9,(by show 3<=aG;decide),fun t ht=>?_}};have se:=aH g (.tup [.str "fault",.str (kX e),.ref kh]);have U:=aH ht (.tup [.ref rl,.ref et,.ref sl]);have l6:=((l4.same s5).same se).same U;have R:itR Ms r0 (i+1)=({r with pd:=r.pd.dropLast,sp:=Z8 (.flt e x)},rs):=by
   rw[mS,eq,cB]
  refine k _ t (i+1) (.stp (.flt e x)) l6.sm {lf,?_,?_} ?_
  ·rw[R];rfl
  ·rw[R];have z:=xc nO d q;rw[eq]at z;exact z
  ·rw[R];exact l6.due rfl ak {et,kh,Z9,U _ _ ak,U _ _ (se _ _ (s5 _ _ J))}
 ·rw[show doS x M.ds (iG M.hs x.sg) (w0 s.bx s.qu s.dr s.se)=.ok Y from q];intro G5 t5 b5 lv LD;refine bF (Z _ _ ?_);have l5:=l4.same LD.sm;have ku:=Kl (G':=G5) lh li lj;have iv:SlA (FF sl pl rl G5) b5 ⟨Y.bx,Y.qu,Y.dr,Y.se⟩:=m6.same ku LD.hl;have ln:=LD.hrc.same ku;have lz:=LD.ht;have mM:=LD.sm _ _ O;have lk:=LD.sm _ _ J;have jl:=LD.ok;clear LD ku l4 lh li lj hB kc O J;refine ib fun nx Z=>?_;refine{_,Z9,.ref t5,"str",.type "tuple",false,Z9,.tup lz,kts,_,Z9,dP (cU (Z _ _ ?_))};obtain⟨lc,lm,jp,ll⟩:=l5.sta;have hY:=aM jp;refine ib fun nx Z=>cH ?_;refine{_,Z9,t5,_,_,_,Z9,Z9,SqT.of lz,Z9,_,Z9,_,Z9,th,_,_,_,Z9,Z9,SqT.of mM,Z9,sl,_,_,x.to.toNat,Z9,Z9,lm,(by rw[kw];exact Hn (by rw[ai,hY];exact (aC.mp d.hs).1)),Z _ _ ?_};have l6:=ll x.to.toNat b5 _ iv;have f6:FF sl pl rl (upd G5 sl (.lst ((lc.map V.ref).set x.to.toNat (.ref b5))))=FF sl pl rl G5:=iC (.inl ax);have I:=ln;rw[<- f6]at I;have nw:∀{a:ae} {xs:List V},G5 a=Z8 (.tup xs)->upd G5 sl (.lst ((lc.map V.ref).set x.to.toNat (.ref b5))) a=Z8 (.tup xs):=fun {a xs} z=>aN z (jD z lm (by intro y;cases y));have mF:=nw lz;have nu:=nw mM;have nD:=nw lk;clear nw f6 ln lz mM lk l5 ll iv;revert l6 I mF nu nD;generalize upd G5 sl (.lst ((lc.map V.ref).set x.to.toNat (.ref b5)))=G6;intro l6 I mF nu nD;obtain⟨lx,mN,go,putL⟩:=l6.put;refine ib fun nx Z=>?_;refine{_,Z9,.inl {Z9,_,SqL.of mN},_,Z9,t5,_,_,_,Z9,Z9,SqT.of mF,Z9,rl,lx,_,Z9,Z9,mN,by omega,Z _ _ ?_};have l7:=putL _ _ I;have f7:FF sl pl rl (upd G6 rl (.lst (lx++[.ref lv])))=FF sl pl rl G6:=iC (.inl (aa _ (aa _ ax)));have nz:=I;rw[<- f7]at nz;have nt:∀{a:ae} {xs:List V},G6 a=Z8 (.tup xs)->upd G6 rl (.lst (lx++[.ref lv])) a=Z8 (.tup xs):=fun {a xs} z=>aN z (jD z mN (by intro y;cases y));have ly:=nt mF;have my:=nt nu;have mt:=nt nD;clear nt f7 I mF nu nD l6 putL;revert l7 nz ly my mt;generalize upd G6 rl (.lst (lx++[.ref lv]))=G7;intro l7 nz ly my mt;obtain⟨ki,ix,gl,kz⟩:=l7.more;obtain⟨rc,kk,wl,od,gh,ge,ov,qa,ky,g1,g2,g3,g4,g5,g6,g7,g8⟩:=nz;injection ky with ky;subst ky;have R:itR Ms r0 (i+1)=({r.sts.set x.to.toNat ⟨Y.bx,Y.qu,Y.dr,Y.se⟩,oO Y.out r.pd.dropLast,Z8 x,if Y.en=true then Z8 (.fin x) else Z7},rs++[{x,wrB M.bs Y,wrQ M.qs Y,Y.out}]):=by
   rw[mS,eq]
  have hg:=aM g8;have fG:=hX.length_eq;have hP:=(gF Y.out r.pd.dropLast).length_eq;rw[aB]at hP;rw[eq]at mc;have mc:(oO Y.out r.pd.dropLast).length<=r.pd.length+5000:=mc;have gd:6000000<aG:=by decide
  refine ib fun nx Z=>cH ?_;refine{_,Z9,_,Z9,t5,_,_,_,Z9,Z9,SqT.of ly,Z9,lv,_,_,_,Z9,Z9,SqT.of (eA _ _ g1),Z9,pl,od,ki,ov,Z9,Z9,ix,eA _ _ g7,?_,fun p' ke=>bF (Z _ _ ?_)}
  ·have z:Y.out.length=ov.length:=hg.symm;omega
  have l8:=kz p' ov Y.out ke g8;have s8:=aH ke (.lst (ki++ov));have ls:ROk Ms.length (itR Ms r0 (i+1)).1:=by
   have z:=zK nO d q N jl.wo;rw[mS];exact z
  refine{_,Z9,t5,_,_,_,Z9,Z9,SqT.of (s8 _ _ ly),Z9,Y.en,Z9,gr (fun en=>oW ?_) (fun en=>cU ?_)}
  ·refine{_,Z9,_,Z9,th,_,_,_,Z9,Z9,SqT.of (s8 _ _ my),Z9,(by show 2<=aG;decide),fun et g=>{_,Z9,(by show 3<=aG;decide),fun t ht=>?_}};have se:=aH g (.tup [.str "end",.ref kh]);have U:=aH ht (.tup [.ref rl,.ref et,.ref sl]);have l9:=(l8.same se).same U;refine k _ t (i+1) (.stp (.fin x)) l9.sm {lf,?_,ls} ?_
   ·rw[R,en];rfl
   ·rw[R];exact l9.due rfl ak {et,kh,Z9,U _ _ ak,U _ _ (se _ _ (s8 _ _ mt))}
  ·refine{2000-(itR Ms r0 (i+1)).2.length,?_,i+1,p',pd.eraseIdx j++Y.out,_,_,_,_,Z9,lf,?_,?_,ls,?_,?_,?_,?_,Z9}
   ·rw[R,aB];show 2000-(rs.length+1)<_;omega
   ·rw[R];exact l8
   ·rw[R];exact Kh hX
   ·rw[R];intro j' M' s' mW nM;have nM:(r.sts.set x.to.toNat ⟨Y.bx,Y.qu,Y.dr,Y.se⟩)[j']?=Z8 s':=nM
    by_cases cj:x.to.toNat=j'
    ·subst cj;rw[eG (aC.mp d.hs).1]at nM;injection nM with nM;subst nM;rw[d.hM]at mW;injection mW with mW;subst mW;exact jl.clean
    ·rw[hW cj]at nM;exact wk j' M' s' mW nM
   ·rw[R];show (if Y.en=true then _ else _)=_;rw[if_neg en]
   ·rw[R,aB];show (oO Y.out r.pd.dropLast).length<=100+5000*(rs.length+1);omega
   ·rw[R,aB];show rs.length+1<=1000;omega
end
inductive HW(K:af)(vs:List V)(H:Hp)(Q:VK)(_e:XK):Prop where
 |mk(a:ae)(ns:List Int)(_:vs=[.ref a])(_:SqL K H a (ns.map V.int))(_:ns.length<=63)(_:(∀x∈ns,eZ x<=1048576))(_:∀H',Q (.bl true) H'):HW K vs H Q _e
def Cm(K:af):Sp:=fun vs H Q Z=>HW K vs H Q Z
def DetX(t:L2.TT)(σ:St)(H:Hp)(b:Bool):Prop:=∀Q:Bool->Hp->Prop,(∀G,bN H G->Q b G)->t σ H Q
theorem ifF_i{t:L2.TT}{a b:TS}{D:kK}{σ:St}{H:Hp}(h:DetX t σ H false)(k:∀G,bN H G->b D σ G):Il t a b D σ H:=h _ fun G s=>dP (k G s)
structure Chg(kp:ae->Prop)(n:Nat)(G1 G:Hp):Prop where
 ot:∀a o,G1 a=Z8 o->(∀xs,o≠.lst xs)->G a=Z8 o
 ls:∀a xs,G1 a=Z8 (.lst xs)->∃ys,ys.length<=xs.length+n/\G a=Z8 (.lst ys)
 kp:∀a o,kp a->G1 a=Z8 o->G a=Z8 o
theorem Chg.refl(kp:ae->Prop)(G:Hp):Chg kp 0 G G:={fun _ _ e _=>e,fun _ xs e=>{xs,aF _,e},fun _ _ _ e=>e}
theorem Chg.same{kp:ae->Prop}{n:Nat}{Z G G':Hp}(c:Chg kp n Z G)(s:bN G G'):Chg kp n Z G':=
 ⟨fun a o e h=>s _ _ (c.ot a o e h),fun a xs e=>by
  obtain⟨ys,l,h⟩:=c.ls a xs e;exact{ys,l,s _ _ h},fun a o k e=>s _ _ (c.kp a o k e)⟩
theorem Chg.upd{kp:ae->Prop}{n m:Nat}{Z G:Hp}(c:Chg kp n Z G){a:ae}{xs ys:List V}(h1:Z a=Z8 (.lst xs))(nk:¬kp a)(l:ys.length<=xs.length+m)(nm:n<=m):Chg kp m Z (L2.upd G a (.lst ys)):=by
 refine{fun b o e h=>?_,fun b zs e=>?_,fun b o k e=>?_}
 ·refine aN (c.ot b o e h) fun z=>?_;rw[z,h1]at e;injection e with e;subst e;exact h xs rfl
 ·by_cases z:b=a
  ·subst z;rw[h1]at e
   cases e;exact⟨ys,l,ak⟩
  ·obtain⟨Y,W,h'⟩:=c.ls b zs e;exact{Y,by omega,aN h' z}
 ·exact aN (c.kp b o k e) fun z=>nk (z ▸ k)
structure ChD(kp:ae->Prop)(G1 G:Hp):Prop where
 ot:∀a o,G1 a=Z8 o->(∀xs,o≠.dK xs)->G a=Z8 o
 ds:∀a xs,G1 a=Z8 (.dK xs)->∃ys,G a=Z8 (.dK ys)
 kp:∀a o,kp a->G1 a=Z8 o->G a=Z8 o
theorem ChD.refl(kp:ae->Prop)(G:Hp):ChD kp G G:={fun _ _ e _=>e,fun _ xs e=>⟨xs,e⟩,fun _ _ _ e=>e}
theorem ChD.upd{kp:ae->Prop}{Z G:Hp}(c:ChD kp Z G){a:ae}{xs ys:List (Key×V)}(h1:Z a=Z8 (.dK xs))(nk:¬kp a):ChD kp Z (L2.upd G a (.dK ys)):=by
 refine{fun b o e h=>?_,fun b zs e=>?_,fun b o k e=>?_}
 ·refine aN (c.ot b o e h) fun z=>?_;rw[z,h1]at e;injection e with e;subst e;exact h xs rfl
 ·by_cases z:b=a
  ·subst z;exact⟨ys,ak⟩
  ·obtain⟨Y,h'⟩:=c.ds b zs e;exact{Y,aN h' z}
 ·exact aN (c.kp b o k e) fun z=>nk (z ▸ k)
theorem p7{H G:Hp}(s:bN H G){a:ae}{o:HO}(e:Hid {[],H} G a=Z8 o)(n:∀xs,o≠.tup xs):H a=Z7:=by
 cases z:H a with
 |none=>rfl
 |some u=>
  have y:=s _ _ z;rw[eA _ _ e]at y
  cases y;exact absurd (Or.inr {_,z,n}) (j7 e)
theorem HX(Ms:List MD)(h:∀M∈Ms,M.bs.length<=9/\M.qs.length<=9)(r:RS):∀i,∀q∈(itR Ms r i).2,q.wb.length<=9/\q.wq.length<=9
 |0,q,hq=>by cases hq
 |i+1,q,hq=>by
  have hq:q∈(itR Ms r i).2++(gT Ms (itR Ms r i).1).2:=hq
  rcases bY.mp hq with z|z
  ·exact HX Ms h r i q z
  ·generalize (itR Ms r i).1=r' at z;unfold gT at z
   split at z
   ·cases z
   ·split at z
    ·rename_i M s hM hs
     split at z
     ·cases z
     ·rw[aD.mp z];obtain⟨h1,h2⟩:=h M (bJ hM)
      constructor
      ·show (wrB M.bs _).length<=9;unfold wrB;rw[ai];exact cR (dX _ _) h1
      ·show (wrQ M.qs _).length<=9;unfold wrQ;rw[ai];exact cR (dX _ _) h2
    ·cases z
theorem Kn{G:Hp}{a b:ae}{xs ys:List V}{es:List Ev}(ha:G a=Z8 (.lst xs))(hb:G b=Z8 (.lst ys))(Y:aO (fH G) xs es)(Z:aO (fH G) ys es):TEq G 3 (.ref a) (.ref b):=
 .inr (.inl {a,b,xs,ys,Z9,Z9,ha,hb,p5 (S:=fH G) (fun x y q hx hy=>Hx hx hy) Y Z})
theorem Ko{G:Hp}{a b:ae}{xs:List V}{es:List Ev}(ha:G a=Z8 (.lst xs))(hb:G b=Z8 (.lst xs))(Z:aO (nY G) xs es):TEq G 2 (.ref a) (.ref b):=
 .inr (.inl ⟨a,b,xs,xs,Z9,Z9,ha,hb,p5 (fun x y q hx hy=>by
  obtain⟨t,rfl,h⟩:=hx;obtain⟨t',rfl,h'⟩:=hy;exact rY h h' fun z hz=>by
   simp at hz
   rcases hz with rfl|rfl|rfl|rfl|rfl|rfl<;>exact trivial) Z Z⟩)
theorem apart{G:Hp}{a b:ae}{x:V}{xs ys:List V}{P Q:V->Prop}(ha:G a=Z8 (.lst (x::xs)))(hb:G b=Z8 (.lst ys))(hx:P x)(hy:∀y∈ys,Q y)(Z:P x->Q x->False):b≠a:=by
 grind
theorem HY(Ms:List MD)(r:RS):(gT Ms r).2.length<=1:=by
 unfold gT
 split
 ·exact bE _
 ·split
  ·split
   ·exact bE _
   ·exact aF _
  ·exact bE _
theorem Ea{Ms:List MD}{r:RS}{Z:Int}{i:Nat}{e:End}(h:xh Ms r Z i e):(itR Ms r i).2.length<=Z.toNat:=by
 cases i with
 |zero=>exact bE _
 |succ j=>
  have z:=(zM (h.1 j (jv j)).2).2.2;show ((itR Ms r j).2++(gT Ms (itR Ms r j).1).2).length<=_;rw[aB];have:=HY Ms (itR Ms r j).1;omega
def Sz(F:Hp)(n:Nat)(v:V):Prop:=∃t xs,v=.ref t/\F t=Z8 (.tup xs)/\xs.length=n
theorem Sz.one{F:Hp}{n m:Nat}{v:V}(h:Sz F n v)(h':Sz F m v):n=m:=by
 obtain⟨t,xs,rfl,h1,h2⟩:=h;obtain⟨t',Y,e,Z,W⟩:=h';injection e with e;subst e;rw[h1]at Z
 cases Z;omega
theorem rc_sz{F:Hp}{v:V}{q:Rec}(h:RcIn F v q):Sz F 7 v:=by
 obtain⟨Z,_,_,_,_,_,_,_,e,h1,_⟩:=h;exact{Z,_,e,h1,Z9}
theorem yt{Z:Type}{F:Hp}{n:Nat}{R:V->Z->Prop}(f:∀v a,R v a->Sz F n v){vs:List V}{Y:List Z}(p:aO R vs Y):∀v∈vs,Sz F n v:=fun v W=>by
 obtain⟨j,U⟩:=cz W;obtain⟨a,_,h⟩:=mh p U;exact f v a h
theorem vp.same{CB CS:ae}{G G':Hp}{b:ae}{q:RS×List Rec}{e:End}(h:vp CB CS G b q e)(s:bN G G'):vp CB CS G' b q e:=by
 obtain⟨dx,rl,sl,en,Z,Y,h1,h2,W,R,U,V⟩:=h.ex;exact{dx,rl,sl,en,Z,Y,s _ _ h1,s _ _ h2,Paired.mono (fun _ _ z=>z.same s) W,R.same s,s _ _ U,Paired.mono (fun _ _ z=>lZ.same' s z) V}
section
variable{P:aQ}{w:bU}{K:af}{mg:Str->Option aj}{base:cG}{f fP fM fD fMo fSg fLr fMI fPf fPl fBs CM CS CB:ae}{fd fdP fdM fdD fdMo fdSg fdLr fdMI fdPf fdPl fdBs:cm}
seal PS PSs PE PA PT PW PI PG PGs PC
abbrev nL0:List Str:=["_law_script","_law_purse_here","_law_most","_law_machines","_law_signs_here","_law_due","_law_model_here","_law_handed","_law_turn","_law_found","_law_record","_law_state"]
theorem scL:bX nL0 ["_law_script"] (aT BE):=eQ
theorem ndL0:((["_law_k","_law_s"]:List Str)++nL0).Nodup:=by decide +kernel
theorem N9(D:Df K mg "law" BE ["_law_script"] f fd)(DP:Df K mg "_law_purse" mO ["_law_script"] fP fdP)(DM:Df K mg "_law_mixed" kA ["_law_cell","_law_k"] fM fdM)(DD:Df K mg "_law_draw" eV ["_law_purse_here","_law_out_of"] fD fdD)
  (hR:Df K mg "_law_model" kC pMo fMo fdMo) (io:cg P w K mg base CX0 19 fMo fdMo pMo spMo) (mz:Df K mg "_law_signs" kD pSg fSg fdSg) (ka:Df K mg "_law_run" qf pLr fLr fdLr) (hY:cg P w K mg base CX0 20 fLr fdLr pLr spLr)
  (MM:Mk K CM fMI) (li:Binds K fdMI ["self","machines"] []) (jp:cg P w K mg base CX0 31 fMI fdMI ["self","machines"] (spMI CM 29)) (lv:Df K mg "pending_at_first" fv ["signs"] fPf fdPf) (hT:Df K mg "plain" uh ["model","signs","most"] fPl fdPl) (hI:cg P w K mg base CX0 40 fPl fdPl ["model","signs","most"] (Ls CM CS CB))
  (js:Df K mg "_law_book_same" jA ["_law_found","_law_due"] fBs fdBs) (jl:cg P w K mg base CX0 3 fBs fdBs ["_law_found","_law_due"] (spBs CB CS)) (ME:mg "enumerate"=Z7) (B:Bl mg) (TM:MdT K mg CM CS) (TB:BkT K mg CB) :
  cg P w K mg base CX0 41 f fd ["_law_script"] (Cm K):=by
 have GP:cg P w K mg base CX0 2 fP fdP ["_law_script"] (BG K):=Fk DP DM B;have GD:cg P w K mg base CX0 1 fD fdD ["_law_purse_here","_law_out_of"] lV:=kl DD;have hN:cg P w K mg base CX0 2 fSg fdSg pSg spSg:=ok_sg mz DD B;have iv:cg P w K mg base CX0 1 fPf fdPf ["signs"] F6:=Gj lv ME;refine D.F.ok scL (fun vs H Q E h=>?_) (fun hC A outer s H vs Q E hr h=>?_)
 ·obtain⟨a,ns,rfl,_⟩:=h;rfl
 obtain⟨a,ns,rfl,hS,ma,mD,k⟩:=h;have hu:=kS hr;have lp:=E8 hr;have r1:e8 1 _:=hr.mono (by decide);have r2:e8 2 _:=hr.mono (by decide);have r3:e8 3 _:=hr.mono (by decide);have lg:e8 19 _:=hr.mono (by decide);have hO:e8 20 _:=hr.mono (by decide);have hK:e8 32 _:=hr.mono (by decide);refine⟨_,ag (pst 1 scL (pcl GP r2 DP (bj (pv 0) ao)))
  (ag (pst 2 scL (aP cy (dO (dj ah (dj ah (dj ah (dj ah (dj ah (dj ah ao))))))) (pcl GD r1 DD (bj (pv 1) (dj ah ao)))))
  (ag (pst 3 scL (pcl io lg hR (bj (pv 1) (dj ah ao))))
  (ag (pst 4 scL (pcl hN r2 mz (bj (pv 1) (bj (pv 3) (dj ah ao)))))
  (ag (pst 5 scL (pcl hY hO ka (bj (pv 3) (bj (pv 4) (bj (pv 2) ao)))))
  (ag (pst 6 scL (p9 MM jp hK (by rfl) TM.mM li .nil jM (bj (pv 3) ao)))
  (ag (pst 7 scL (gB (zA K (by rfl)) (by rfl) B.list boot_list (bj (pv 4) ao)))
  (ag (cC (aZ (xU lp) (pcl iv r1 lv (bj (pv 7) ao)) (oA ["_law_k","_law_s"] (iU.open (NN:=nL0) (N:=nL0) (sc:=aT BE) rfl rfl (by decide +kernel) rfl (by decide +kernel) (by decide +kernel) rfl (by decide +kernel)) rfl (xW (by rfl) ME (bj (pv 4) ao)) (fun _ _ _ _=>uo (n:=2) K (by rfl) rfl (eP (iw (i:=0) ndL0 rfl (Or.inl rfl)) (eP (iw (i:=1) ndL0 rfl (Or.inl rfl)) lu))) (fun _ _ _ _=>mI) (fun _ _ _ _=>cW (j5 (cW (gJ (aP (je K (by rfl)) (pv 1) ah) (gJ (aP (je K (by rfl)) (pv 1) ah) (aq (sX pk ah) (bj (pv 0) ao))))) (gJ (aP (je K (by rfl)) (pv 1) ah) (gJ (aP (je K (by rfl)) (pv 1) ah) (gJ (aP (je K (by rfl)) (pv 1) ah) (gJ (aP (je K (by rfl)) (pv 1) ah) ao)))))))) (aA (bD km)) bL)
  (ag (fq bV rfl (jE (by rfl) B.range (dj ah ao)) (pgn 8 scL) (ag (pst 9 scL (pcl hI hr hT (bj (pv 6) (bj (pv 7) (bj (pv 2) ao)))))
  (ag (cC ((mB (kL (hJ (pcl jl r3 js (bj (pv 9) (bj (pv 5) ao))))) (lE (aZ (xU lp) (pv 7) (pv 4)))).pt) (aA (bD km)) bL)
  (ag (fq bV rfl (fc (cK (pv 9) (by rfl))) (pgn 10 scL) (ag (cV (ia aL bA bC dI (aP aY (pv 10) ah) (j5 (cW (dj bP (dj ah ao))) ao)))
  (aA (cV (sF aL xl xm xi (aP aY (pv 10) ah))))))
  (ag (fq bV rfl (fc (cK (pv 9) (by rfl))) (pgn 11 scL) (aA (cV (sF nC wI PySem.F.type_dict_clear DJ (cK (pv 11) (by rfl))))))
  (aA (cV (sF aL xl xm xi (cK (pv 9) (by rfl))))))))))
  (aA (bD km)))))))))),?_⟩
 have big:=dW;refine ib fun nx Z=>cH ?_;refine{_,Z9,a,ns,Z9,hS,ma,mD,fun p H1 _ mL s1=>bF (Z _ _ ?_)};refine ib fun nx Z=>cH ?_;refine{(by show 6<=aG;decide),fun l6 nf=>?_};have s6:=aH nf (.lst [.int 12,.int 30,.int 40,.int 3,.int 1,.int 0]);have my:l6≠p:=by
  obtain⟨x,y,e⟩:=mL;exact (ay e nf).symm
 refine{_,Z9,p,6,Z9,mL.same s6,by decide,by decide,fun dr G1 d0 d1 na b1=>?_};obtain⟨g,nz,hA⟩:∃g:Int,atI [V.int 12,.int 30,.int 40,.int 3,.int 1,.int 0] dr=Z8 (.int g)/\g<=40:=by
  have c:dr=0\/dr=1\/dr=2\/dr=3\/dr=4\/dr=5:=by omega
  rcases c with c|c|c|c|c|c<;>rw[c]
  ·exact{12,Z9,by decide}
  ·exact{30,Z9,by decide}
  ·exact{40,Z9,by decide}
  ·exact{3,Z9,by decide}
  ·exact{1,Z9,by decide}
  ·exact{0,Z9,by decide}
 refine{l6,_,_,_,Z9,Z9,SqL.of (b1 _ _ ak my),nz,bF (Z _ _ ?_)};clear nz b1 s6 my nf d0 d1;refine ib fun nx Z=>cH ?_;refine{_,Z9,p,4,Z9,na,by decide,by decide,fun lm xs Ms G2 hH mW oi M0 M4 nd lx b2=>bF (Z _ _ ?_)};have ij:xs.length=Ms.length:=aM oi;have mq:lm≠p:=by
  obtain⟨x,y,e⟩:=na;exact (ay e hH).symm
 refine ib fun nx Z=>cH ?_;refine{_,Z9,_,Z9,p,lm,8,xs,Z9,lx,mW,mq,fun x hx=>?_,by omega,by omega,by decide,by decide,fun oT O es G3 hX mF mG hE mc im b3=>bF (Z _ _ ?_)}
 ·obtain⟨M,_,t,rfl,z⟩:=me oi x hx;exact z.hrd
 have oD:=b3 _ _ mW mq;have pb:aO (MIn Ms.length G1 G3) xs Ms:=Paired.mono (fun v M z=>by
  obtain⟨t,e,y⟩:=z;exact{t,e,y.but na lx b3}) oi
 rw[ij]at mc;have lr:∀e∈es,Dt Ms.length e:=fun e he=>by
  obtain⟨a1,a2,a3,a4,a5⟩:=mc e he;have w1:(10:Int)^15=1000000000000000:=by decide
  refine{a3.1,a3.2,?_,?_,?_}<;>unfold Wo<;>omega
 have hG:Ms.length<=9:=by omega
 clear b3 b2 im mL oi mW;refine ib fun nx Z=>cH ?_;refine{_,Z9,_,Z9,_,Z9,lm,oT,xs,O,Ms,es,g,Z9,oD,Paired.mono (fun _ _ z=>MIn.moI z) pb,hG,M0,mF,mG,by omega,lr,by omega,fun G4 due i0 e0 s4 ou du=>bF (Z _ _ ?_)};have nO:aO (MIn Ms.length G1 G4) xs Ms:=Paired.mono (fun v M z=>by
  obtain⟨t,e,y⟩:=z;exact{t,e,y.same s4}) pb
 have os:=s4 _ _ oD;have nM:=s4 _ _ mF;have nH:=Paired.mono (fun _ _ z=>nY.same s4 z) mG;have few:∀M∈Ms,M.bs.length<=9/\M.qs.length<=9:=fun M hM=>by
  obtain⟨j,hj⟩:=cz hM;obtain⟨x,_,z⟩:=gi pb hj;exact⟨z.moI.lb,z.moI.lq⟩
 clear s4 pb oD mF mG hX;refine ib fun nx Z=>cH ?_;refine{_,Z9,fun m Y hm mt kG=>?_};have sA:bN G4 (upd (upd G4 Y (.own m)) m (.ins CM Y [])):=fun b o e=>by
  rw[aW (ay e hm),aW (ay e mt)];exact e
 have ow:aO (MIn Ms.length G1 (upd (upd G4 Y (.own m)) m (.ins CM Y []))) xs Ms:=Paired.mono (fun v M z=>by
  obtain⟨t,e,y⟩:=z;exact{t,e,y.same sA}) nO
 have mb:upd (upd G4 Y (.own m)) m (.ins CM Y []) m≠Z7:=by rw[ak];intro z;cases z
 refine{m,Y,.ref lm,Z9,ak,JI (sA _ _ os) ow (by omega),fun v' G5 s5 al=>{Z9,bF (Z _ _ ?_)}};obtain⟨oe,rfl,ms⟩:=JJ (sA _ _ os) ow al;have pg:vU CM Ms (upd G5 m (.ins CM Y (dS "machines" (.ref oe) []))) m:={Y,oe,_,ak,by rw[pB,if_pos rfl],ms.same ((yo mb).trans KO)};have nP:bN G4 (upd G5 m (.ins CM Y (dS "machines" (.ref oe) []))):=jR (sA.trans s5) hm _;have J:=nP _ _ nM;have pc:=Paired.mono (fun _ _ z=>nY.same nP z) nH;have nW:=du.same nP;revert pg J pc nW;clear nP al s5 ow sA hm mt kG nO os nM nH ms mb du;generalize upd G5 m (.ins CM Y (dS "machines" (.ref oe) []))=G6;intro pg J pc nW;refine ib fun nx Z=>cH ?_;refine{_,Z9,oT,O,Z9,.inl (SqL.of J),fun hd ml=>bF (Z _ _ ?_)};have s7:=aH ml (.lst O);have pa:=pg.same s7;have U:=s7 _ _ J;have W:=Paired.mono (fun _ _ z=>nY.same s7 z) pc;have ol:=nW.same s7;have I:upd G6 hd (.lst O) hd=Z8 (.lst O):=ak;revert pa U W ol I;clear s7 pg J pc nW ml;generalize upd G6 hd (.lst O)=G7;intro pa U W ol I;have ja:=aM W;refine ib fun nx Z=>ifF_i (fun R r=>?_) (fun G8 s8=>cU (Z _ _ ?_))
 ·refine{_,Z9,hd,O,es,Z9,I,W,by omega,fun Ga la ya sa hD ki kq hP=>?_};have ln:aO (fH Ga) ya (og es):=jy (by rw[kI];exact kq) fun i y e lf he=>by
   obtain⟨e',h',rfl⟩:=qx he;exact hP i y e' lf h'
  refine uY (K:=K) (a:=oT) (xs:=O) rfl (SqL.of (sa _ _ U)) (fun i ys G=>ys.length=i/\bN Ga G/\aO (fH G) ys ((og es).take i)) {Z9,bN.refl _,by rw[dE];exact .nil} ?_ ?_ ?_
  ·rintro i ys G hi ⟨h1,h2,_⟩;exact{SqL.of (h2 _ _ (sa _ _ U)),by omega}
  ·rintro i x t ys G hi ⟨h1,h2,h3⟩ ht;obtain⟨e,he,ts,rfl,hF⟩:=iJ W hi;have lP:=aH ht (.tup [.int i,.ref ts]);have hq:=lP _ _ (h2 _ _ (sa _ _ hF));refine{t,_,Z9,SqT.of ak,Z9,_,_,Z9,_,_,Z9,Z9,?_};refine{Z9,?_};unfold xM;refine eM ?_;refine{_,Z9,ts,_,_,_,Z9,Z9,SqT.of hq,Z9,_,Z9,ts,_,_,_,Z9,Z9,SqT.of hq,Z9,_,Z9,_,Z9,(by show 4<=aG;decide),fun kt lh=>?_};have sk:=aH lh (.tup [.int e.t,.int e.r,.int (-1),.int i]);have ob:=sk _ _ hq;refine{_,Z9,ts,_,_,_,Z9,Z9,SqT.of ob,Z9,_,Z9,ts,_,_,_,Z9,Z9,SqT.of ob,Z9,_,Z9,ts,_,_,_,Z9,Z9,SqT.of ob,Z9,_,Z9,ts,_,_,_,Z9,Z9,SqT.of ob,Z9,(by show 5<=aG;decide),fun et kz=>?_};have se:=aH kz (.tup [.ref kt,.int e.to,.str e.sg,.int e.a,.int e.b]);have sB:=(lP.trans sk).trans se;have eo:(og es)[i]?=Z8 (atP e i):=by
    unfold og;rw[qM,he];rfl
   refine{by rw[aB,h1];rfl,h2.trans sB,?_};rw[dh,eo];exact cS (Paired.mono (fun _ _ z=>z.same sB) h3) {et,kt,Z9,ak,se _ _ ak}
  ·rintro ys G ⟨h1,h2,h3⟩ lb jb;rw[ja,<- kI,cF]at h3;have sb:=aH jb (.lst ys);have sc:=h2.trans sb;exact{3,by decide,Kn (sc _ _ ki) ak (Paired.mono (fun _ _ z=>z.same sc) ln) (Paired.mono (fun _ _ z=>z.same sb) h3),_,Z9,r _ (sa.trans sc)}
 clear Z;have mv:=pa.same s8;have lj:=s8 _ _ U;have nt:=Paired.mono (fun _ _ z=>nY.same s8 z) W;have ll:=ol.same s8;have nE:=s8 _ _ I;clear pa U W ol I s8;have nq:=ou.2.2.len;refine ib fun nx Z=>?_;refine{2,Z9,by decide,by decide,j0 (n:=2) (fun i σ G=>∃(u8 u9 oL nQ:Option V),σ=[Z8 (.ref a),Z8 (.ref p),Z8 (.int g),Z8 (.ref lm),Z8 (.ref oT),Z8 (.ref due),Z8 (.ref m),Z8 (.ref hd),u8,u9,oL,nQ]/\bN G8 G) {_,_,_,_,Z9,bN.refl _} ?_ ?_}
 rotate_left
 ·rintro σ G ⟨u8,u9,oL,nQ,rfl,sG⟩;exact Z _ _ (k G)
 rintro i σ G hi ⟨u8,u9,oL,nQ,rfl,sG⟩;clear Z;refine bF ?_;refine ib fun nx Z=>cH ?_;refine{_,Z9,_,Z9,_,Z9,Ms,m,hd,O,es,g,Z9,mv.same sG,by omega,sG _ _ nE,Paired.mono (fun _ _ z=>nY.same sG z) nt,by omega,lr,by omega,fun G1 b i1 e1 s1 mS bk=>bF (Z _ _ ?_)};obtain⟨e2,e3⟩:=DY mS ou;subst e2 e3;clear Z;refine ib fun nx Z=>jq (c:=false) (fun R r=>?_) (fun c=>by cases c) (fun _=>cU (Z _ _ ?_))
 ·refine{_,Z9,_,Z9,b,due,_,_,Z9,bk.same eA,ll.same (sG.trans s1),by rw[nq];omega,true,Z9,?_};refine dP ?_;exact{_,Z9,_,Z9,2,by decide,Ko (s1 _ _ (sG _ _ nE)) (s1 _ _ (sG _ _ lj)) (Paired.mono (fun _ _ z=>nY.same (sG.trans s1) z) nt),_,Z9,r}
 clear Z;have mx:=Ea mS;have nu:=HX Ms few (qF Ms es) i1;obtain⟨dx,rl,sl,en,oc,ss,hb,nb,nT,_,nh,pst⟩:=bk.ex;generalize (itR Ms (qF Ms es) i1).2=rs at nT mx nu;generalize (itR Ms (qF Ms es) i1).1.sts=sts at pst nq;clear bk mS ou ll;have hB:=aM nT;have ky:=aM pst;have fb:=eA _ _ hb;have mN:=eA _ _ nb;have kc:=eA _ _ nh;have ii:=p7 s1 nb (by intro xs z;cases z);have hp:=p7 s1 nh (by intro xs z;cases z);obtain⟨s0,sr,rfl⟩:∃s0 sr,ss=s0::sr:=by
  cases ss with
  |nil=>
   simp only[cY]at ky;omega
  |cons x y=>exact⟨x,y,Z9⟩
 have ih:∃o,Hid {[],G} G1 s0=Z8 o/\∀xs,o≠.tup xs:=by
  cases pst with
  |cons x y=>
   obtain⟨_,_,_,_,h1,_⟩:=x;exact{_,h1,by intro xs z;cases z}
 have nw:∀{c:ae} {n:Nat} {ys:List V},Hid {[],G} G1 c=Z8 (.lst ys)->(∀y∈ys,Sz (Hid {[],G} G1) n y)->c≠sl:=fun {c n ys} hc hy=>apart (P:=fun _=>True) nh hc trivial hy fun _ z=>by
  obtain⟨t,xs,e,h1,_⟩:=z;injection e with e;subst e;obtain⟨o,h2,h3⟩:=ih;rw[h1]at h2;injection h2 with h2;subst h2;exact h3 _ rfl
 have ld:=yt (fun v q z=>rc_sz z) nT;refine ib fun nx Z=>?_;refine{_,Z9,b,CB,dx,_,_,Z9,fb,TB.cl,TB.nR,Jt _ _ _,rl,Z9,{oc,SqL.of mN},?_};refine fX (K:=K) (a:=rl) (xs:=oc) (fun j σ G'=>∃oL:Option V,σ=[Z8 (.ref a),Z8 (.ref p),Z8 (.int g),Z8 (.ref lm),Z8 (.ref oT),Z8 (.ref due),Z8 (.ref m),Z8 (.ref hd),Z8 (.int (0+i)),Z8 (.ref b),oL,nQ]/\Chg (fun c=>G c≠Z7\/c=rl\/c=sl) j G1 G') {_,Z9,Chg.refl _ _} ?_ ?_ ?_
 ·rintro j σ G' _ ⟨oI,rfl,c⟩;exact SqL.of (c.kp _ _ (.inr (.inl rfl)) mN)
 ·rintro j x σ G' hj ⟨oI,rfl,c⟩;obtain⟨q,hq,rc,kk,wl,od,mu,mn,ov,qa,rfl,g1,g2,g3,g4,g5,g6,g7,g8⟩:=mh nT hj;obtain⟨r0,rr,er⟩:∃r0 rr,oc=r0::rr:=by
   cases oc with
   |nil=>simp at hj
   |cons x y=>exact⟨x,y,Z9⟩
  have ku:Sz (Hid {[],G} G1) 7 r0:=ld r0 (by rw[er];exact ax);have nl:=nb;rw[er]at nl;have no:∀{c:ae} {n:Nat} {ys:List V},n≠7->Hid {[],G} G1 c=Z8 (.lst ys)->(∀y∈ys,Sz (Hid {[],G} G1) n y)->c≠rl:=fun {c n ys} n7 hc hy=>apart (P:=Sz (Hid {[],G} G1) 7) nl hc ku hy fun y z=>n7 (z.one y);have sw:∀y∈mu++mn,Sz (Hid {[],G} G1) 2 y:=fun y hy=>by
   rcases bY.mp hy with z|z
   ·exact yt (fun v p ⟨t,e,h⟩=>{t,_,e,h,Z9}) g4 y z
   ·exact yt (fun v p ⟨t,e,h⟩=>{t,_,e,h,Z9}) g5 y z
  have so:∀y∈ov,Sz (Hid {[],G} G1) 5 y:=yt (fun v p ⟨t,k,e,h,_⟩=>{t,_,e,h,Z9}) g8;have kw:¬(G wl≠Z7\/wl=rl\/wl=sl):=by
   rintro (z|z|z)
   ·exact z (p7 s1 g3 (by intro xs z;cases z))
   ·exact no (by decide) g3 sw z
   ·exact nw g3 sw z
  have ko:¬(G od≠Z7\/od=rl\/od=sl):=by
   rintro (z|z|z)
   ·exact z (p7 s1 g7 (by intro xs z;cases z))
   ·exact no (by decide) g7 so z
   ·exact nw g7 so z
  obtain⟨w1,w2⟩:=nu q (bJ hq);have lw:(mu++mn).length<=18:=by
   have x1:=aM g4;have x2:=aM g5;have x3:=aM g6;rw[aB];omega
  have hv:=(aC.mp hj).1;refine bF ?_;refine ib fun nx Z=>?_;obtain⟨ys,ly,hy⟩:=c.ls _ _ (eA _ _ g3);have kv:=c.ot _ _ (eA _ _ g1) (by intro xs z;cases z);refine{_,Z9,rc,_,_,_,Z9,Z9,SqT.of kv,Z9,.inl {Z9,_,SqL.of hy},lt2,fun tx hQ=>?_};have sx:=aH hQ (.tup [.str "x",.int 1]);refine{wl,ys,_,Z9,Z9,sx _ _ hy,by omega,Z _ _ ?_};have c2:=(c.same sx).upd (ys:=ys++[.ref tx]) (m:=j+1) (eA _ _ g3) kw (by rw[aB];show ys.length+1<=_;omega) (e9 _);revert c2;generalize upd (upd G' tx (.tup [.str "x",.int 1])) wl (.lst (ys++[.ref tx]))=G2;intro c2;obtain⟨zs,lz,hz⟩:=c2.ls _ _ (eA _ _ g7);refine{_,Z9,rc,_,_,_,Z9,Z9,SqT.of (c2.ot _ _ (eA _ _ g1) (by intro xs z;cases z)),Z9,.inl {Z9,_,SqL.of hz},od,_,Z9,Z9,hz,?_};exact{_,Z9,c2.upd (eA _ _ g7) ko (bE _) (aF _)}
 rintro σ G2 ⟨oI,rfl,c⟩;refine Z _ _ ?_;clear Z;have mo:=c.ot _ _ fb (by intro xs z;cases z);have lM:=c.kp _ _ (.inr (.inl rfl)) mN;have nD:=c.kp _ _ (.inr (.inr rfl)) kc;have hL:bN G G2:=fun x o e=>c.kp x o (.inl (by rw[e];intro z;cases z)) (s1 _ _ e);refine ib fun nx Z=>?_;refine{_,Z9,b,CB,dx,_,_,Z9,mo,TB.cl,TB.nS,Ju _ _ _,sl,Z9,{_,SqL.of nD},?_};refine fX (K:=K) (a:=sl) (xs:=(s0::sr).map V.ref) (fun j σ G'=>∃lk:Option V,σ=[Z8 (.ref a),Z8 (.ref p),Z8 (.int g),Z8 (.ref lm),Z8 (.ref oT),Z8 (.ref due),Z8 (.ref m),Z8 (.ref hd),Z8 (.int (0+i)),Z8 (.ref b),oI,lk]/\ChD (fun c=>G c≠Z7) G2 G') {_,Z9,ChD.refl _ _} ?_ ?_ ?_
 ·rintro j σ G' _ ⟨u,rfl,c3⟩;exact SqL.of (c3.ot _ _ nD (by intro xs z;cases z))
 ·rintro j x σ G' hj ⟨u,rfl,c3⟩;rw[bM]at hj
  cases hx:(s0::sr)[j]? with
  |none=>
   rw[hx]at hj
   cases hj
  |some st=>
   rw[hx]at hj
   cases hj;obtain⟨sta,_,ix,bd,qd,qa,g1,g2,_⟩:=mh pst hx;have kh:=p7 s1 g2 (by intro xs z;cases z);have b2:=c.ot _ _ (eA _ _ g2) (by intro xs z;cases z);obtain⟨ys,hy⟩:=c3.ds _ _ b2;have lc:=c3.ot _ _ (c.ot _ _ (eA _ _ g1) (by intro xs z;cases z)) (by intro xs z;cases z);refine bF ?_;refine{_,Z9,st,CS,ix,_,_,Z9,lc,TM.clS,TM.nB,C8 _ _ _ _,.inr (.inr (.inl {Z9,.inl {_,hy}})),bd,_,Z9,Z9,hy,?_};exact{_,Z9,c3.upd b2 fun z=>z kh}
 rintro σ G3 ⟨u,rfl,c3⟩;refine Z _ _ ?_;clear Z;have kb:=c3.ot _ _ mo (by intro xs z;cases z);have nn:=c3.ot _ _ lM (by intro xs z;cases z);have ke:bN G G3:=fun x o e=>c3.kp x o (by rw[e];intro z;cases z) (hL _ _ e);refine{_,Z9,b,CB,dx,_,_,Z9,kb,TB.cl,TB.nR,Jt _ _ _,.inl {Z9,_,SqL.of nn},rl,_,Z9,Z9,nn,?_};exact{_,_,_,_,Z9,sG.trans (jR ke ii _)}
end
def yu(CN CG Y W Z V:ae):Flt->ae
 |.nought=>CN
 |.great=>CG
 |.full=>Y
 |.dry=>W
 |.span=>Z
 |.late=>V
end My
namespace My
theorem Co{P:Flt->Prop}(a:P .nought)(b:P .great)(c:P .full)(d:P .dry)(e:P .span)(f:P .late):∀x,P x
 |.nought=>a
 |.great=>b
 |.full=>c
 |.dry=>d
 |.span=>e
 |.late=>f
end My
namespace My
open PySem L2
theorem lD{Y:Type}{n:Nat}{Z:List Y}(h:Z.length=n+1):∃a l,Z=a::l/\l.length=n:=by
 cases Z with
 |nil=>cases h
 |cons a l=>exact{a,l,Z9,Nat.succ.inj h}
theorem yv{Y:Type}{Z:List Y}(h:Z.length=1):∃a,Z=[a]:=by
 obtain⟨a,l,rfl,h⟩:=lD h
 cases l with
 |nil=>exact⟨a,Z9⟩
 |cons b l=>cases h
theorem yw{Y:Type}{Z:List Y}(h:Z.length=2):∃a b,Z=[a,b]:=by
 obtain⟨x,l,rfl,h'⟩:=lD h;obtain⟨a1,rfl⟩:=yv h';exact⟨x,a1,Z9⟩
theorem yy{W:Type}{Z:List W}(h:Z.length=3):∃a b c,Z=[a,b,c]:=by
 obtain⟨x,l,rfl,h'⟩:=lD h;obtain⟨a1,Y,rfl⟩:=yw h';exact⟨x,a1,Y,Z9⟩
theorem yz{V:Type}{Z:List V}(h:Z.length=4):∃a b c d,Z=[a,b,c,d]:=by
 obtain⟨x,l,rfl,h'⟩:=lD h;obtain⟨a1,W,Y,rfl⟩:=yy h';exact⟨x,a1,W,Y,Z9⟩
theorem yA{U:Type}{Z:List U}(h:Z.length=5):∃a b c d e,Z=[a,b,c,d,e]:=by
 obtain⟨x,l,rfl,h'⟩:=lD h;obtain⟨a1,W,V,Y,rfl⟩:=yz h';exact⟨x,a1,W,V,Y,Z9⟩
theorem yB{U:Type}{Z:List U}(h:Z.length=6):∃a b c d e f,Z=[a,b,c,d,e,f]:=by
 obtain⟨x,l,rfl,h'⟩:=lD h;obtain⟨a1,W,V,Y,R,rfl⟩:=yA h';exact⟨x,a1,W,V,Y,R,Z9⟩
theorem yC{U:Type}{Z:List U}(h:Z.length=7):∃a b c d e f g,Z=[a,b,c,d,e,f,g]:=by
 obtain⟨x,l,rfl,h'⟩:=lD h;obtain⟨a1,W,V,Y,R,f1,rfl⟩:=yB h';exact⟨x,a1,W,V,Y,R,f1,Z9⟩
theorem Kq{R:Type}{Z:List R}(h:Z.length=8):∃a b c d e f g h,Z=[a,b,c,d,e,f,g,h]:=by
 obtain⟨x,l,rfl,h'⟩:=lD h;obtain⟨a1,V,U,W,O,f1,Y,rfl⟩:=yC h';exact⟨x,a1,V,U,W,O,f1,Y,Z9⟩
theorem Cp{R:Type}{Z:List R}(h:Z.length=9):∃a b c d e f g h i,Z=[a,b,c,d,e,f,g,h,i]:=by
 obtain⟨x,l,rfl,h'⟩:=lD h;obtain⟨a1,V,U,W,O,f1,Y,h1,rfl⟩:=Kq h';exact⟨x,a1,V,U,W,O,f1,Y,h1,Z9⟩
def Dn(K:af)(x:Str)(st:c9)(f:ae):Prop:=cJ K cv x=Z8 (Z8 (.ref f))/\∃fd,Fun K x x st f fd
def Mn(K:af)(C:ae)(x q:Str)(st:c9)(f:ae):Prop:=(bH K (.ref C) x=Z8 (Z8 (.ref f))/\oo K (.ref f)=true)/\∃fd,Fun K x q st f fd
structure Cn(K:af)(C:ae):Prop where
 c:Cls K C
 m:tM K C=true
 k:gH K (.ref C)=true
theorem dn_i{K:af}{x:Str}{st:c9}{f:ae}{W:aj}{od V:Option ae}{sl:Array (Option aj)}{kV U Y Z ct:aj}(a:cJ K cv x=Z8 (Z8 (.ref f)))(l:K.lookup f=Z8 {W,od,.func (fg x x (lC st) (jz st) (aT st) .none kV U Y V Z ct),sl})(c:jL K Z x=true)(k:gH K (.ref f)=true):Dn K x st f:={a,_,EY l c k}
theorem mn_i{K:af}{x q:Str}{st:c9}{f C:ae}{W:aj}{od V:Option ae}{sl:Array (Option aj)}{kV U Y Z ct:aj}(a:bH K (.ref C) x=Z8 (Z8 (.ref f)))(i:oo K (.ref f)=true)(l:K.lookup f=Z8 {W,od,.func (fg x q (lC st) (jz st) (aT st) .none kV U Y V Z ct),sl})(c:jL K Z q=true)(k:gH K (.ref f)=true):Mn K C x q st f:={⟨a,i⟩,_,EY l c k}
theorem dfx{K:af}{h:cG}{mg:Str->Option aj}{x:Str}{st:c9}{f:ae}(ps:List Str)(X:K.In h)(G:h.Ns cv mg)(a:Dn K x st f)(hb:∀(kV W U:aj) (R:Option ae) (V ct:aj) (Y:List aj),Y.length=ps.length->An (fg x x (lC st) (jz st) (aT st) .none kV W U R V ct) {Y,[]}=pure (ps.zip Y):=by intro _ _ _ _ _ _ Y Z;first|(obtain⟨a,rfl⟩:=yv Z;rfl)|(obtain⟨a,b,rfl⟩:=yw Z;rfl)|(obtain⟨a,b,c,rfl⟩:=yy Z;rfl)|(obtain⟨a,b,c,d,rfl⟩:=yz Z;rfl)|(obtain⟨a,b,c,d,e,rfl⟩:=yA Z;rfl)|(obtain⟨a,b,c,d,e,f,rfl⟩:=yB Z;rfl)|(obtain⟨a,b,c,d,e,f,g,rfl⟩:=yC Z;rfl)|(obtain⟨a,b,c,d,e,f,g,h,i,rfl⟩:=Cp Z;rfl)):∃fd,Df K mg x st ps f fd:=by
 obtain⟨a,fd,F⟩:=a;exact{fd,F,F.binds hb,eT X G a}
theorem mfx{K:af}{x q:Str}{st:c9}{f C:ae}(ps:List Str)(a:Mn K C x q st f)(hb:∀(kV W U:aj) (R:Option ae) (V ct:aj) (Y:List aj),Y.length=ps.length->An (fg x q (lC st) (jz st) (aT st) .none kV W U R V ct) {Y,[]}=pure (ps.zip Y):=by intro _ _ _ _ _ _ Y Z;first|(obtain⟨a,rfl⟩:=yv Z;rfl)|(obtain⟨a,b,rfl⟩:=yw Z;rfl)|(obtain⟨a,b,c,rfl⟩:=yy Z;rfl)|(obtain⟨a,b,c,d,rfl⟩:=yz Z;rfl)|(obtain⟨a,b,c,d,e,rfl⟩:=yA Z;rfl)|(obtain⟨a,b,c,d,e,f,rfl⟩:=yB Z;rfl)|(obtain⟨a,b,c,d,e,f,g,rfl⟩:=yC Z;rfl)|(obtain⟨a,b,c,d,e,f,g,h,i,rfl⟩:=Cp Z;rfl)):∃fd,Fun K x q st f fd/\Binds K fd ps []/\xr K C x f:=by
 obtain⟨⟨a,i⟩,fd,F⟩:=a;exact{fd,F,F.binds hb,a,i,F.kp}
theorem law_b{K:af}{x q:Str}{st:c9}{f:ae}{fd:cm}{y:Str}(F:Fun K x q st f fd)(hb:∀(kV Z W:aj) (V:Option ae) (Y ct v:aj),An (fg x q (lC st) (jz st) (aT st) .none kV Z W V Y ct) {[v],[]}=pure [(y,v)])(s:aw)(v:aj):sZ s fd {[v],[]} [(y,v)]:=by
 obtain⟨R,od,kV,Z,W,V,Y,ct,U,rfl,_⟩:=F.ex;exact .of_eq (hb kV Z W V Y ct v)
theorem all_mk{l:tO}{w:bU}{K:af}{h:cG}{mg:Str->Option aj}{fa f1 f2 f3 f4 f5 f6 f7 f8 f9 hp dz hT er dV dn gt ey ec eD fb cr gk ef gl eu ga fx hY di gd eb hM fw et cx ed ha hk ei hj ez da hq hD ft eL hR CM hP CS ek fo CD hb ho hx eh hy CB hF CC hn dg db CN CG U V W Y CF:ae}{J R E O I M:ae}(X:K.In h)(G:h.Ns cv mg)(ge:mg "law"=Z8 (.ref fa))
  (a1:Dn K "worth_of" lS f1) (a2:Dn K "number_of_leaf" gD f2) (a3:Dn K "number_of_two" gW f3) (a4:Dn K "number_of_division" eg f4) (a5:Dn K "done" xX f5) (a6:Dn K "doing_of" oF f6) (a7:Dn K "deeds_by_sign" iE f7) (a8:Dn K "writes_of" mJ f8) (a9:Dn K "do_deeds" iV f9) (a10:Dn K "do_deed" nF hp) (a11:Dn K "do_push" nG dz) (a12:Dn K "do_pull" nI hT) (a13:Dn K "do_draw" nJ er) (a14:Dn K "do_send" nK dV) (a15:Dn K "copied" nL dn) (a16:Dn K "first_state" kj gt) (a17:Dn K "place_in" oG ey) (a18:Dn K "put_in" rM ec) (a19:Dn K "pending_at_first" fv eD) (a20:Dn K "course_at_first" gZ fb) (a21:Dn K "run_on" rN cr) (a22:Dn K "plain" uh gk) (a23:Dn K "_law_mixed" kA ef) (a24:Dn K "_law_purse" mO gl) (a25:Dn K "_law_draw" eV eu) (a26:Dn K "_law_names" kB ga) (a27:Dn K "_law_leaf" iW fx) (a28:Dn K "_law_formula" hU hY) (a29:Dn K "_law_send" lT di) (a30:Dn K "_law_deed" lU gd) (a31:Dn K "_law_deeds" jG eb) (a32:Dn K "_law_machine" jw hM) (a33:Dn K "_law_model" kC fw) (a34:Dn K "_law_signs" kD et) (a35:Dn K "_law_whole" mK cx) (a36:Dn K "_law_two" j3 ed) (a37:Dn K "_law_comes_to" ip ha) (a38:Dn K "_law_sent" oJ hk) (a39:Dn K "_law_drawn" mP ei) (a40:Dn K "_law_one_deed" jP hj) (a41:Dn K "_law_copy" oK ez) (a42:Dn K "_law_done" j4 da) (a43:Dn K "_law_first" mQ hq) (a44:Dn K "_law_state_same" jc hD) (a45:Dn K "_law_run" qf ft) (a46:Dn K "_law_book_same" jA eL) (a47:Dn K "law" BE hR) (aCM:cJ K cv "Model"=Z8 (Z8 (.ref CM))) (a48:Mn K CM "__init__" "Model.__init__" oH hP) (pCM:Cn K CM) (nCMmachines:bH K (.ref CM) "machines"=Z8 Z7) (aCS:cJ K cv "State"=Z8 (Z8 (.ref CS))) (a49:Mn K CS "__init__" "State.__init__" jN ek) (a50:Mn K CS "copy" "State.copy" jO fo) (pCS:Cn K CS) (nCSboxes:bH K (.ref CS) "boxes"=Z8 Z7) (nCSqueues:bH K (.ref CS) "queues"=Z8 Z7) (nCSdrawn:bH K (.ref CS) "drawn"=Z8 Z7) (nCSsent:bH K (.ref CS) "sent"=Z8 Z7) (aCD:cJ K cv "Doing"=Z8 (Z8 (.ref CD))) (a51:Mn K CD "__init__" "Doing.__init__" oE hb) (a52:Mn K CD "now" "Doing.now" jF ho) (a53:Mn K CD "reckon" "Doing.reckon" fh hx) (a54:Mn K CD "queue_of" "Doing.queue_of" eW eh) (a55:Mn K CD "fill" "Doing.fill" gY hy) (pCD:Cn K CD) (nCDmachine:bH K (.ref CD) "machine"=Z8 Z7) (nCDhappening:bH K (.ref CD) "happening"=Z8 Z7) (nCDstate:bH K (.ref CD) "state"=Z8 Z7) (nCDwritten:bH K (.ref CD) "written"=Z8 Z7) (nCDoutgoing:bH K (.ref CD) "outgoing"=Z8 Z7) (nCDends:bH K (.ref CD) "ends"=Z8 Z7) (nCDreckoned:bH K (.ref CD) "reckoned"=Z8 Z7) (nCDqueued:bH K (.ref CD) "queued"=Z8 Z7) (aCB:cJ K cv "Book"=Z8 (Z8 (.ref CB))) (a56:Mn K CB "__init__" "Book.__init__" pW hF) (pCB:Cn K CB) (nCBrecords:bH K (.ref CB) "records"=Z8 Z7) (nCBending:bH K (.ref CB) "ending"=Z8 Z7) (nCBstates:bH K (.ref CB) "states"=Z8 Z7) (aCC:cJ K cv "Course"=Z8 (Z8 (.ref CC))) (a57:Mn K CC "__init__" "Course.__init__" mZ hn) (a58:Mn K CC "ending_due" "Course.ending_due" gu dg) (a59:Mn K CC "do_one" "Course.do_one" iF db) (pCC:Cn K CC) (nCCmodel:bH K (.ref CC) "model"=Z8 Z7) (nCCstates:bH K (.ref CC) "states"=Z8 Z7) (nCCpending:bH K (.ref CC) "pending"=Z8 Z7) (nCCreached:bH K (.ref CC) "reached"=Z8 Z7) (nCCstopped:bH K (.ref CC) "stopped"=Z8 Z7) (aCN:cJ K cv "Nought"=Z8 (Z8 (.ref CN))) (xCN:dN K CN rH "ValueError.__new__"=true) (aCG:cJ K cv "Great"=Z8 (Z8 (.ref CG))) (xCG:dN K CG rH "ValueError.__new__"=true) (aCU:cJ K cv "Full"=Z8 (Z8 (.ref U))) (xCU:dN K U rH "ValueError.__new__"=true) (aCY:cJ K cv "Dry"=Z8 (Z8 (.ref V))) (xCY:dN K V rH "ValueError.__new__"=true) (aCP:cJ K cv "Span"=Z8 (Z8 (.ref W))) (xCP:dN K W rH "ValueError.__new__"=true) (aCL:cJ K cv "Late"=Z8 (Z8 (.ref Y))) (xCL:dN K Y rH "ValueError.__new__"=true) (aCF:cJ K cv "Fault"=Z8 (Z8 (.ref CF))) (xCF:dN K CF rH "ValueError.__new__"=true) (enn:dC K (.ref CN) (.ref CN)=Z8 true) (egn:dC K (.ref CG) (.ref CN)=Z8 false) (egg:dC K (.ref CG) (.ref CG)=Z8 true) (hcn:mH K (.builtin "object.__class__") "__get__"=Z8 (Z8 (.builtin "getset_descriptor.__get__"))) (hck:oR K (.builtin "object.__class__")=Z8 true) (wha:bH K (.ref CS) "__class__"=Z8 (Z8 (.builtin "object.__class__"))) (whm:kf K CS (.type "object")=Z8 true) (wkt:cE K (.ref CS) (.ref CS)=Z8 true) (whaB:bH K (.ref CB) "__class__"=Z8 (Z8 (.builtin "object.__class__"))) (whmB:kf K CB (.type "object")=Z8 true) (wktB:cE K (.ref CB) (.ref CB)=Z8 true) (kss:cE K (.type "str") (.type "str")=Z8 true) (kts:cE K (.type "tuple") (.type "str")=Z8 false) (ktt:cE K (.type "tuple") (.type "tuple")=Z8 true) (kll:cE K (.type "list") (.type "list")=Z8 true) (xfCN:dC K (.ref CN) (.ref CF)=Z8 true) (XN100:vN K CN) (a100:Mn K CN "word" "Nought.word" mY J) (xfCG:dC K (.ref CG) (.ref CF)=Z8 true) (XN101:vN K CG) (a101:Mn K CG "word" "Great.word" oC R) (xfCU:dC K (.ref U) (.ref CF)=Z8 true) (XN102:vN K U) (a102:Mn K U "word" "Full.word" pT E) (xfCY:dC K (.ref V) (.ref CF)=Z8 true) (XN103:vN K V) (a103:Mn K V "word" "Dry.word" qT O) (xfCP:dC K (.ref W) (.ref CF)=Z8 true) (XN104:vN K W) (a104:Mn K W "word" "Span.word" pU I) (xfCL:dC K (.ref Y) (.ref CF)=Z8 true) (XN105:vN K Y) (a105:Mn K Y "word" "Late.word" pV M) (zlen:cJ K cv "len"=Z8 Z7) (zabs:cJ K cv "abs"=Z8 Z7) (zisinstance:cJ K cv "isinstance"=Z8 Z7) (zlist:cJ K cv "list"=Z8 Z7) (ztuple:cJ K cv "tuple"=Z8 Z7) (zstr:cJ K cv "str"=Z8 Z7) (zint:cJ K cv "int"=Z8 Z7) (zbool:cJ K cv "bool"=Z8 Z7) (zrange:cJ K cv "range"=Z8 Z7) (zmax:cJ K cv "max"=Z8 Z7) (zdict:cJ K cv "dict"=Z8 Z7) (zsorted:cJ K cv "sorted"=Z8 Z7) (zenumerate:cJ K cv "enumerate"=Z8 Z7) (zmin:cJ K cv "min"=Z8 Z7) :
  ∃fd:cm,(∀(s:aw) (v:aj),sZ s fd {[v],[]} [("_law_script",v)])/\∀base:cG,K.In base->base.Ns cv mg->cg l.prog w K mg base CX0 41 fa fd ["_law_script"] (Cm K):=by
 obtain⟨_,D1⟩:=dfx ["formula","state","now","got"] X G a1;obtain⟨_,D2⟩:=dfx ["formula","state","now","got"] X G a2;obtain⟨_,D3⟩:=dfx ["kind","first","second"] X G a3;obtain⟨_,D4⟩:=dfx ["kind","first","second"] X G a4;obtain⟨_,D5⟩:=dfx ["model","state","happening"] X G a5;obtain⟨_,D6⟩:=dfx ["model","state","happening"] X G a6;obtain⟨_,D7⟩:=dfx ["machine","sign"] X G a7;obtain⟨_,D8⟩:=dfx ["doing"] X G a8;obtain⟨_,D9⟩:=dfx ["doing","deeds"] X G a9;obtain⟨_,ht⟩:=dfx ["doing","deed"] X G a10;obtain⟨_,lc⟩:=dfx ["doing","name","formula"] X G a11;obtain⟨_,el⟩:=dfx ["doing","name","box","otherwise"] X G a12;obtain⟨_,iv⟩:=dfx ["doing","box","formula"] X G a13;obtain⟨_,jb⟩:=dfx ["doing","deed"] X G a14;obtain⟨_,fG⟩:=dfx ["thing"] X G a15;obtain⟨_,kq⟩:=dfx ["model","at"] X G a16;obtain⟨_,dw⟩:=dfx ["falling","thing"] X G a17;obtain⟨_,ka⟩:=dfx ["falling","thing"] X G a18;obtain⟨_,f⟩:=dfx ["signs"] X G a19;obtain⟨_,ke⟩:=dfx ["model","signs"] X G a20;obtain⟨_,jl⟩:=dfx ["course","most"] X G a21;obtain⟨_,ky⟩:=dfx ["model","signs","most"] X G a22;obtain⟨_,fe⟩:=dfx ["_law_cell","_law_k"] X G a23;obtain⟨_,dl⟩:=dfx ["_law_script"] X G a24;obtain⟨_,t⟩:=dfx ["_law_purse_here","_law_out_of"] X G a25;obtain⟨_,ld⟩:=dfx ["_law_purse_here","_law_many"] X G a26;obtain⟨_,ew⟩:=dfx ["_law_purse_here","_law_boxes","_law_queues"] X G a27;obtain⟨_,hX⟩:=dfx ["_law_purse_here","_law_boxes","_law_queues","_law_deep"] X G a28;obtain⟨_,gh⟩:=dfx ["_law_purse_here","_law_boxes","_law_queues","_law_signs_here","_law_many"] X G a29;obtain⟨_,hf⟩:=dfx ["_law_purse_here","_law_boxes","_law_queues","_law_signs_here","_law_many","_law_left","_law_deep"] X G a30;obtain⟨_,io⟩:=dfx ["_law_purse_here","_law_boxes","_law_queues","_law_signs_here","_law_many","_law_left","_law_deep"] X G a31;obtain⟨_,ix⟩:=dfx ["_law_purse_here","_law_name","_law_signs_here","_law_many"] X G a32;obtain⟨_,im⟩:=dfx ["_law_purse_here","_law_most"] X G a33;obtain⟨_,ea⟩:=dfx ["_law_purse_here","_law_machines","_law_most"] X G a34;obtain⟨_,gq⟩:=dfx ["_law_found"] X G a35;obtain⟨_,dp⟩:=dfx ["_law_word","_law_one","_law_other"] X G a36;obtain⟨_,hC⟩:=dfx ["_law_formula_here","_law_state","_law_now","_law_got"] X G a37;obtain⟨_,hQ⟩:=dfx ["_law_deed_here","_law_state","_law_key","_law_at","_law_got","_law_news"] X G a38;obtain⟨_,ih⟩:=dfx ["_law_deed_here","_law_state","_law_number","_law_draws"] X G a39;obtain⟨_,jp⟩:=dfx ["_law_deed_here","_law_state","_law_key","_law_at","_law_got","_law_draws","_law_touched","_law_news","_law_work"] X G a40;obtain⟨_,hG⟩:=dfx ["_law_state"] X G a41;obtain⟨_,kv⟩:=dfx ["_law_machines","_law_state","_law_happening"] X G a42;obtain⟨_,eH⟩:=dfx ["_law_machines"] X G a43;obtain⟨_,kz⟩:=dfx ["_law_found","_law_due"] X G a44;obtain⟨_,kG⟩:=dfx ["_law_machines","_law_signs_here","_law_most"] X G a45;obtain⟨_,la⟩:=dfx ["_law_found","_law_due"] X G a46;obtain⟨_,g⟩:=dfx ["_law_script"] X G a47;obtain⟨_,hN,hS,kt⟩:=mfx ["self","machines"] a48;have ij:Mk K CM _:=⟨pCM.m,kt.at_,kt.fn,pCM.k⟩;obtain⟨_,lf,kw,ja⟩:=mfx ["self","boxes","queues","drawn","sent"] a49;obtain⟨_,ki,de,hc⟩:=mfx ["self"] a50;have ku:Mk K CS _:=⟨pCS.m,ja.at_,ja.fn,pCS.k⟩;obtain⟨_,hK,hA,kh⟩:=mfx ["self","machine","state","happening"] a51;obtain⟨_,ej,ii,hv⟩:=mfx ["self"] a52;obtain⟨_,hr,gw,gz⟩:=mfx ["self","formula"] a53;obtain⟨_,hO,dc,hu⟩:=mfx ["self","name"] a54;obtain⟨_,hB,hE,hI⟩:=mfx ["self","box","worth"] a55;have hh:Mk K CD _:=⟨pCD.m,kh.at_,kh.fn,pCD.k⟩;obtain⟨_,fz,gg,kc⟩:=mfx ["self","records","ending","states"] a56;have hH:Mk K CB _:=⟨pCB.m,kc.at_,kc.fn,pCB.k⟩;obtain⟨_,dt,hd,lb⟩:=mfx ["self","model","states","pending"] a57;obtain⟨_,ee,du,dG⟩:=mfx ["self","left"] a58;obtain⟨_,go,he,fy⟩:=mfx ["self"] a59;have gM:Mk K CC _:=⟨pCC.m,lb.at_,lb.fn,pCC.k⟩;have e:=ge.symm.trans g.m
 cases e;have B:Bl mg:={cX X G zlen,cX X G zabs,cX X G zisinstance,cX X G zlist,cX X G ztuple,cX X G zstr,cX X G zint,cX X G zbool,cX X G zrange,cX X G zmax,cX X G zdict};have Z:MdT K mg CM CS:={pCM.c,pCS.c,nCMmachines,nCSboxes,nCSqueues,nCSdrawn,nCSsent,eT X G aCM,eT X G aCS};have z:DT K mg CD:={pCD.c,nCDmachine,nCDhappening,nCDstate,nCDwritten,nCDoutgoing,nCDends,nCDreckoned,nCDqueued,eT X G aCD};have T6:FM K mg (yu CN CG U V W Y):={{eT X G aCN,eT X G aCG,xCN,xCG,enn,egn,egg},eT X G aCU,eT X G aCY,eT X G aCP,eT X G aCL,xCU,xCY,xCP,xCL};have D:Mt K CD "now" "Doing.now" jF ["self"] _ _:=⟨ej,ii,hv⟩;have MtR:Mt K CD "reckon" "Doing.reckon" fh ["self","formula"] _ _:=⟨hr,gw,gz⟩;have js:Mt K CD "queue_of" "Doing.queue_of" eW ["self","name"] _ _:=⟨hO,dc,hu⟩;have ko:Mt K CD "fill" "Doing.fill" gY ["self","box","worth"] _ _:=⟨hB,hE,hI⟩;have ep:Mt K CS "copy" "State.copy" jO ["self"] _ _:=⟨ki,de,hc⟩;obtain⟨_,li,ln,cs⟩:=mfx ["self"] a100;obtain⟨_,lh,lj,gn⟩:=mfx ["self"] a101;obtain⟨_,lk,lp,hm⟩:=mfx ["self"] a102;obtain⟨_,lq,ls,em⟩:=mfx ["self"] a103;obtain⟨_,ll,lm,hg⟩:=mfx ["self"] a104;obtain⟨_,lr,lv,eo⟩:=mfx ["self"] a105;have TB:BkT K mg CB:={pCB.c,nCBrecords,nCBending,nCBstates,eT X G aCB};have TC:CoT K mg CC:={pCC.c,nCCmodel,nCCstates,nCCpending,nCCreached,nCCstopped,eT X G aCC};have kb:Mt K CC "ending_due" "Course.ending_due" gu ["self","left"] _ _:=⟨ee,du,dG⟩;have lg:Mt K CC "do_one" "Course.do_one" iF ["self"] _ _:=⟨go,he,fy⟩;have dq:mg "sorted"=Z7:=cX X G zsorted;have ME:mg "enumerate"=Z7:=cX X G zenumerate;have dk:mg "Fault"=Z8 (.ref CF):=eT X G aCF;have MW:∀e,xr K ((yu CN CG U V W Y) e) "word" ((Cb J R E O I M) e):=fun e=>by cases e<;>assumption
 have hL:∀e,vN K ((yu CN CG U V W Y) e):=fun e=>by cases e<;>assumption
 have dL:∀e,dC K (.ref ((yu CN CG U V W Y) e)) (.ref CF)=Z8 true:=fun e=>by cases e<;>assumption
 have BW:∀e,Binds K (Cb _ _ _ _ _ _ e) ["self"] []:=Co ln lj lp ls lm lv;have WI:Kb K CS:=⟨wha,hcn,hck,whm,wkt⟩;have WB:Kb K CB:=⟨whaB,hcn,hck,whmB,wktB⟩;have hl:mg "min"=Z7:=cX X G zmin;exact{_,law_b g.F fun _ _ _ _ _ _ _=>rfl,fun base _ _=>N9 g dl fe t im (ok_mo im ld ix (fun sgs=>ok_ma ix ld io (fun bs qs=>(Le io hf gh hX ew t B 5)) t B) t B) ea kG (ok_lr kG eH kv (cg.some (sp:=fun bq:List Str×List Str=>NU bq.1 bq.2) fun bq=>ok_ld (bs:=bq.1) (qs:=bq.2) kv jp (ok_od jp hQ ih hC dp B) hG B) kss kts ME hl B) ij hS (ok_MI (n:=29) hN fG B Z) f ky (NP ky ke (NM ke kq (C7 kq ku lf kw B Z) f (Gj f ME) gM hd (ok_ci dt TC) TC Z B dq) jl (NK jl kb (ok_ed kb TC) lg (NF (cf:=(yu CN CG U V W Y)) (fW:=(Cb J R E O I M)) (fdW:=(Cb _ _ _ _ _ _)) lg ka (Ny ka dw B) D5 (fun bq=>(Js (n:=5) D5 D6 hh hA (ok_DI hK ep (Jq ki ku lf kw B Z) z Z) D9 (zx D9 ht ko MtR (uk (cf:=(yu CN CG U V W Y)) MtR D D1 D3 D4 D2 z T6 Z B) el lc (Ji lc MtR (uk (cf:=(yu CN CG U V W Y)) MtR D D1 D3 D4 D2 z T6 Z B) js z T6 Z B) iv (FT iv MtR (uk (cf:=(yu CN CG U V W Y)) MtR D D1 D3 D4 D2 z T6 Z B) ko z T6 Z B) jb (Jl jb MtR (uk (cf:=(yu CN CG U V W Y)) MtR D D1 D3 D4 D2 z T6 Z B) D z T6 Z B) js z Z 5) D7 D8 z Z B)) MW BW (Co (AS li) (Dw lh) (Hj lk) (JT lq) (Hk ll) (Hl lr)) hL dk dL TC Z) TC B) hH gg (ok_bk fz TB) TB TC) la (ok_bs la kz (ok_ss kz gq WI B Z) WB TB kll ktt B) ME B Z TB}
theorem walk{l:tO}{q:aQ}{Z:List Str}{J:(Str->Option aj)->cG->Prop}{W:bU->cG->Prop}{d:DefRec}{K:Params->af}(O:l.most=Z8 63)(Y:d.params.defaults=[])
  (U:∀(w:bU) (h:cG),W w h->(K w.params).In h)
  (F:∀(w:bU) (mg:Str->Option aj) (V:ae) (h:cG),(K w.params).In h->h.Ns cv mg->mg d.name=Z8 (.ref V) ->
   ∃fd:cm,(∀(s:aw) (u:aj),sZ s fd {[u],[]} [("_law_script",u)])/\∀base:cG,(K w.params).In base->base.Ns cv mg->cg l.prog w (K w.params) mg base CX0 41 V fd ["_law_script"] (Cm (K w.params))) :
  Ib q Z J W l.row.toRowW d [] (fun f vs=>CV f vs):=
 L2.walk_ofB (n:=63) (k:=41) (x:="_law_script") (CX:=fun _=>CX0) (sp:=fun w=>Cm (K w.params)) O (by decide) Y {Z9,by decide,by decide} U F (fun _ _ a ns R hb M=>{a,ns,Z9,M,R,hb,fun _=>rfl}) fun _ _ _ _ _ z=>z
end My
namespace PySem.W.Fast
def tw2519842214504091586:=Nat
def tw12727167305260900487:=Nat
def tw12141064822996012508:=Nat
def tw7457826588415911191:=Nat
def tw10652539453789213339:=Nat
def tw12338712312020712610:=Nat
def tw11454922927408300489:=Nat
def tw8177204662125530171:=Nat
def tw8468152012210236366:=Nat
def tw8828723822908984902:=Nat
def tw10286694582532269842:=Nat
def tw9761806742481045698:=Nat
def tw17106931580104661608:=Nat
def tw12341693787607093125:=Nat
def tw6301565633953248979:=Nat
def tw4267347252441233204:=Nat
def tw10585376278195966181:=Nat
def tw14992071169803295248:=Nat
def tw13114534073073499154:=Nat
def tw14705900254006183426:=Nat
def tw15855495385132562566:=Nat
def tw2949715814460892832:=Nat
def tw4786171997571526139:=Nat
def tw1544921793705507280:=Nat
def tw12737110959845982364:=Nat
def tw13705143619378226099:=Nat
def tw10948388557978855853:=Nat
def tw11488715092030197313:=Nat
def tw691851269466974653:=Nat
def tw2063212997623214843:=Nat
def tw3859711373012904589:=Nat
def tw5479932709307257412:=Nat
def tw16706158899748798648:=Nat
def tw5424248786623231332:=Nat
def tw1719144710413481160:=Nat
def tw1443746700412307900:=Nat
def tw10868396923105098536:=Nat
def tw17417412059542198357:=Nat
def tw9345373323481032196:=Nat
def tw4224679928816767276:=Nat
def tw562832665298395402:=Nat
def tw10083581453071779121:=Nat
def tw4917010697644902469:=Nat
def tw12924007491001453667:=Nat
def tw18053145008484831082:=Nat
def tw8286082333461411743:=Nat
def tw5113046567441178661:=Nat
def tw5234615622514320897:=Nat
def tw3216306591219818684:=Nat
def tw1829680029254466716:=Nat
def tw12153349596772859714:=Nat
def tw6757572664366239705:=Nat
def tw14422779113516127608:=Nat
def tw15087266236670581328:=Nat
def tw2033564654477727943:=Nat
def tw7117530811181070545:=Nat
def tw15150420144853373109:=Nat
def tw16330522031898850969:=Nat
def tw7112028507892911644:=Nat
def tw8581376997532387099:=Nat
def tw9000619042023262923:=Nat
def tw6194122233938248759:=Nat
def tw10433095682982382300:=Nat
def tw12796953039215462466:=Nat
def tw8712668355801143874:=Nat
def tw3561675508408053751:=Nat
def tw2540919752669955870:=Nat
def tw4500710172386073851:=Nat
def tw8199056058910406678:=Nat
def tw11783358959077742590:=Nat
def tw13887741132841259125:=Nat
def tw15356378367043419498:=Nat
def tw8972446553345884313:=Nat
def tw9061392856299478686:=Nat
def tw10129659179187555425:=Nat
def tw13257408619593605971:=Nat
def tw2561623353285077451:=Nat
def tw6219959254666651583:=Nat
def tw2704576583691106684:=Nat
def tw13160778406851784143:=Nat
def tw17713618187247248957:=Nat
def tw16945317536869895916:=Nat
def tw10908125253770585610:=Nat
def tw52521822778989393:=Nat
def tw1719991689402700031:=Nat
def tw13188764541975121415:=Nat
def tw7390615489324102702:=Nat
def tw3883798094831644208:=Nat
def tw6914486401822554454:=Nat
def tw4115580154380006150:=Nat
def tw6387763801070434418:=Nat
def tw10573682846052164537:=Nat
def tw16068243387422153094:=Nat
def tw10053274034342105367:=Nat
def tw15472218934114762485:=Nat
def tw16792722941356258062:=Nat
def tw12284274726524552661:=Nat
def tw6981031458169972837:=Nat
def tw5246701242059490611:=Nat
def tw6958324130259884876:=Nat
def tw10604876429079242839:=Nat
def tw13277271724067197361:=Nat
def tw17700816211353510202:=Nat
def tw9774802553142477266:=Nat
def tw7372904829533308960:=Nat
def tw626954385152547251:=Nat
def tw9831444838250195160:=Nat
def tw9366189499663916015:=Nat
def tw7358176369465963542:=Nat
def tw5359305157690412174:=Nat
def tw16624279159624253956:=Nat
def tw6029490387401279215:=Nat
def tw13435208073735299541:=Nat
def tw6025387355243259073:=Nat
def tw15999522758072785385:=Nat
def tw16572111583055829553:=Nat
def tw15865932928608354712:=Nat
def tw6460431250125415771:=Nat
def tw9495788930026257170:=Nat
def tw2777216591132100115:=Nat
def tw18026231228658900523:=Nat
def tw15586123679598962930:=Nat
def tw16160977814152553094:=Nat
def tw7846673252464830414:=Nat
def tw1521515148406788781:=Nat
def tw17064701620556378066:=Nat
def tw2047689929092555962:=Nat
def tw16743296973013624803:=Nat
def tw3646626091403117139:=Nat
def tw7585540585731896389:=Nat
def tw814811145709450139:=Nat
def tw6762894442637018457:=Nat
def tw9051371129973767107:=Nat
def tw237079513413648591:=Nat
def tw12113131626160853415:=Nat
def tw8322950445758361066:=Nat
def tw15045448254958954088:=Nat
def tw2251786120114006828:=Nat
def tw14321244860081956473:=Nat
def tw13611433956778230176:=Nat
def tw368841541312899608:=Nat
def tw4651060954309473447:=Nat
def tw10482878863281450667:=Nat
def tw10604041480923551690:=Nat
def tw6153048896595773614:=Nat
def tw2682082480141348135:=Nat
def tw7354429083793525118:=Nat
def tw8019976712074080127:=Nat
def tw17655348645991579394:=Nat
def tw1232626920039431022:=Nat
def tw18369630348895538946:=Nat
def tw9538655003016306438:=Nat
def tw8833887423507933881:=Nat
def tw3575586315622052648:=Nat
def tw17282395693590052023:=Nat
def tw7023994362318677574:=Nat
def tw7408508140273397485:=Nat
def tw897491056592063422:=Nat
def tw16204975479370006657:=Nat
def tw16646982514143620787:=Nat
def tw3537816653822714339:=Nat
def tw1133262294494580740:=Nat
def tw12781600969158645612:=Nat
def tw976418801562858628:=Nat
def tw14649483556535052658:=Nat
def tw4703060116975615521:=Nat
def tw3667888209378831867:=Nat
def tw5710953007780694480:=Nat
def tw15891955238747291272:=Nat
def tw3370122868525453126:=Nat
def tw9253992382682999356:=Nat
def tw15735579766742044764:=Nat
def tw4702199204671827882:=Nat
def tw12805716444284973759:=Nat
def tw17274116542631264624:=Nat
def tw14383537478854118244:=Nat
def tw9916494411593843150:=Nat
def tw7169406408964291399:=Nat
def tw12341968432623031027:=Nat
def tw9641865645368898093:=Nat
def tw7102382806400610694:=Nat
def tw17584626882135677985:=Nat
def tw1378039418333825958:=Nat
def tw9380599899036391643:=Nat
def tw16458681218921012889:=Nat
def tw3768479901787864478:=Nat
def tw242597859704041774:=Nat
def tw9330034174108184474:=Nat
def tw1965334104295517239:=Nat
def tw5997684265565668734:=Nat
def tw8227637583356914117:=Nat
def tw1478433721080485601:=Nat
def tw15433786536088773646:=Nat
def tw4130881594547162122:=Nat
def tw4239431314244154203:=Nat
def tw16482180353007243377:=Nat
def tw2943273987393185381:=Nat
def tw10123216462537421996:=Nat
def tw12267946265173047932:=Nat
def tw1529240582735599292:=Nat
def tw16920281948197198181:=Nat
def tw12234022257914513795:=Nat
def tw4443570747393785107:=Nat
def tw1248241078687231739:=Nat
def tw10164245069748813811:=Nat
def tw18440747755896707738:=Nat
def tw12589129253624749000:=Nat
def tw5933416709336095598:=Nat
def tw5573268782453783871:=Nat
def tw11051546008436241902:=Nat
def tw11239966391703081719:=Nat
def tw7880159004981703737:=Nat
def tw3222363431430972747:=Nat
def tw10452843831147626160:=Nat
def tw6703104810230764095:=Nat
def tw14321701123591710919:=Nat
def tw17000922800608501706:=Nat
def tw16891586421897345279:=Nat
def tw16456354183290571081:=Nat
def tw6230210794219057725:=Nat
def tw5238890431550087876:=Nat
def tw2458842001665593046:=Nat
def tw7709555320787924213:=Nat
def tw6372134163215482071:=Nat
def tw2631107438753951724:=Nat
def tw8452761364384743490:=Nat
def tw13908061160988733578:=Nat
def tw6609816450505902019:=Nat
def tw5463246328646479452:=Nat
def tw3154571598163485317:=Nat
def tw9143564873833032884:=Nat
def tw1402578481609733938:=Nat
def tw5606803700286262511:=Nat
def tw4329395155676167068:=Nat
def tw17900593023950082081:=Nat
def tw11999056046295777395:=Nat
def tw623864563033587335:=Nat
def tw11681524994414441574:=Nat
def tw10869033405725105159:=Nat
def tw1255085282443562170:=Nat
def tw5915891190420453779:=Nat
def tw10477447749334022378:=Nat
def tw1938498609075884304:=Nat
def tw6617711916213629026:=Nat
def tw4387712830627884865:=Nat
def tw16644114259393506771:=Nat
def tw12679997909107167147:=Nat
def tw1869255533758467000:=Nat
def tw17925669355052336449:=Nat
def tw6817701973082518154:=Nat
def tw10933725289808722648:=Nat
def tw18021495584470871622:=Nat
def tw18309690951594713943:=Nat
def tw11406741562857921259:=Nat
def tw9917245861604134651:=Nat
def tw14956194457168164000:=Nat
def tw13925784673155195290:=Nat
def tw12155321619158974393:=Nat
def tw14086105810845703055:=Nat
def tw2406066853814320533:=Nat
def tw5352374255596700208:=Nat
def tw16083349904476721737:=Nat
def tw5715104147910975139:=Nat
def tw13727847099472363249:=Nat
def tw7219053117069974703:=Nat
def tw5192997747817436092:=Nat
def tw950082014594067941:=Nat
def tw14999002641102166268:=Nat
def tw5462678315332186599:=Nat
def tw7668190825474344620:=Nat
def tw717949323915583671:=Nat
def tw8009902296627806992:=Nat
def tw14339009030904902341:=Nat
def tw16429952390427624729:=Nat
def tw11348753624540368308:=Nat
def tw17427039150679100123:=Nat
def tw11124357069582939353:=Nat
def tw14107900113995321787:=Nat
def tw13831743273188486613:=Nat
def tw8168840083554245861:=Nat
def tw6874712667717493167:=Nat
def tw10501622619782853815:=Nat
def tw113520970154150803:=Nat
def tw5958614884962286609:=Nat
def tw7229267236162858914:=Nat
def tw7163897956354863254:=Nat
def tw5919449367656149257:=Nat
def tw1502312232364633606:=Nat
def tw8827227714473436535:=Nat
def tw13845854844494359976:=Nat
def tw16757471332133765184:=Nat
def tw7062998187580980811:=Nat
def tw11747110345645112941:=Nat
def tw17533547754947867969:=Nat
def tw982244702204003771:=Nat
def tw5979152352122317398:=Nat
def tw7355901587147304601:=Nat
def tw4210226043112558083:=Nat
def tw8500403023292508462:=Nat
def tw17189690704839937262:=Nat
def tw18307335304043308345:=Nat
def tw13827993569818009773:=Nat
def tw6246810954916000002:=Nat
def tw16164063026871014468:=Nat
def tw3728367370751284256:=Nat
def tw13320938306377467491:=Nat
def tw10440085851243278898:=Nat
def tw8502956763383125099:=Nat
def tw13220242383798466904:=Nat
def tw4367129744007096839:=Nat
def tw11485481584123717030:=Nat
def tw6940491313582961529:=Nat
def tw9614583905215258715:=Nat
def tw10256279507412656884:=Nat
def tw10986062062936735248:=Nat
def tw6015594877676413291:=Nat
def tw2887023243903471403:=Nat
def tw14658493800159924634:=Nat
def tw15563230689797600321:=Nat
def tw8949633689799184019:=Nat
def tw6456131732140476408:=Nat
def tw9811034395100901617:=Nat
def tw831649163780053600:=Nat
def tw1413874622035490453:=Nat
def tw6979183985364014764:=Nat
def tw7085806911146454103:=Nat
def tw3812742150920630390:=Nat
def tw10347680096076399880:=Nat
def tw11546636118729825269:=Nat
def tw8355089400373233129:=Nat
def tw697057640109077328:=Nat
def tw1656292193815951132:=Nat
def tw6198793895322271024:=Nat
def tw15727097348551274320:=Nat
def tw9696915475705251984:=Nat
def tw17966952984704922935:=Nat
def tw2884269454905457186:=Nat
def tw7250399182670606538:=Nat
def tw4508409434394953841:=Nat
def tw10887832918644204294:=Nat
def tw16123871499588525968:=Nat
def tw2215840408855234438:=Nat
def tw15034118892091538215:=Nat
def tw6310976954451988256:=Nat
def tw9275219414484740421:=Nat
def tw15344803464660695360:=Nat
def tw24197137734090725:=Nat
def tw712149484015251647:=Nat
def tw16430912163408948743:=Nat
def tw17864503030360296533:=Nat
def tw16700858556981910596:=Nat
def tw4492203173849822182:=Nat
def tw16643100545356635114:=Nat
def tw12885811378128199922:=Nat
def tw5290738699869995886:=Nat
def tw13772886355663375209:=Nat
def tw8417738902903830481:=Nat
def tw3767461690808255982:=Nat
def tw18009141518625831081:=Nat
def tw13477015100492881507:=Nat
def tw13549863281808792588:=Nat
def tw441231983300940505:=Nat
def tw1948486360192978240:=Nat
def tw10620083633870103663:=Nat
def tw13863012548449278133:=Nat
def tw16840499842335446823:=Nat
def tw1763242832763987606:=Nat
def tw16671573274010102835:=Nat
def tw17205622757914173012:=Nat
def tw1638250414010156283:=Nat
def tw4776639134791583307:=Nat
def tw9815984919807306599:=Nat
def tw14270261869250825191:=Nat
def tw7218494049922243661:=Nat
def tw16509905134457787244:=Nat
def tw3382682602032838234:=Nat
def tw2755143921621415414:=Nat
def tw8253546223663647785:=Nat
def tw6100520095044597901:=Nat
def tw12037509922218488661:=Nat
def tw5468592701400531701:=Nat
def tw16259980690607633745:=Nat
def tw7813017197527713267:=Nat
def tw11000840859988674367:=Nat
def tw10415696174552632456:=Nat
def tw17288820066535078802:=Nat
def tw8410910861747591348:=Nat
def tw9224296340680184903:=Nat
def tw8401292735671722206:=Nat
def tw9965572891936667354:=Nat
def tw2678269235746323284:=Nat
def tw10218213505059209235:=Nat
def tw18025336130240711528:=Nat
def tw1346176087598533911:=Nat
def tw8650941725815432758:=Nat
def tw308273539140440711:=Nat
def tw6185702328850021276:=Nat
def tw1108979066195466621:=Nat
def tw16513361884189575450:=Nat
def tw3959495068905225951:=Nat
def tw16419162587183537437:=Nat
def tw7569283003073734779:=Nat
def tw6179242157692016109:=Nat
def tw10106736920833088862:=Nat
def tw7790459452499051926:=Nat
def tw319604653524471956:=Nat
def tw11757202507312056563:=Nat
def tw3435602357088815241:=Nat
def tw2393815208174995681:=Nat
def tw4750856418096167347:=Nat
def tw8208428877754733158:=Nat
def tw15996373971658876354:=Nat
def tw8113846634103294772:=Nat
def tw17639793283803358410:=Nat
def tw16044644644351560612:=Nat
def tw14058423117166105242:=Nat
def tw950235186449989325:=Nat
def tw13399577415781914874:=Nat
def tw16357273762052431701:=Nat
def tw10677806563729804559:=Nat
def tw17245073767012695913:=Nat
end PySem.W.Fast
open PySem PySem.W PyProof.Rows
set_option maxRecDepth 100000 in
set_option maxHeartbeats 0 in
theorem PySem.Challenge.cw_momentloom_k16_plain_runs_holds : PySem.Challenge.rw_momentloom_k16_plain_runs.Holds := by
 w_on;o_law;k_head;(case hw=>w_witness2)
 k_fill
 refine My.walk (l:=Oa) rfl rfl (fun w h Y=>PySem.W.kIn_of Y) ?F
 case F=>
  intro w mg fa h KX G hmg;refine' My.all_mk KX G hmg ?a1 ?a2 ?a3 ?a4 ?a5 ?a6 ?a7 ?a8 ?a9 ?a10 ?a11 ?a12 ?a13 ?a14 ?a15 ?a16 ?a17 ?a18 ?a19 ?a20 ?a21 ?a22 ?a23 ?a24 ?a25 ?a26 ?a27 ?a28 ?a29 ?a30 ?a31 ?a32 ?a33 ?a34 ?a35 ?a36 ?a37 ?a38 ?a39 ?a40 ?a41 ?a42 ?a43 ?a44 ?a45 ?a46 ?a47 ?aCM ?a48 ?pCM ?nCMmachines ?aCS ?a49 ?a50 ?pCS ?nCSboxes ?nCSqueues ?nCSdrawn ?nCSsent ?aCD ?a51 ?a52 ?a53 ?a54 ?a55 ?pCD ?nCDmachine ?nCDhappening ?nCDstate ?nCDwritten ?nCDoutgoing ?nCDends ?nCDreckoned ?nCDqueued ?aCB ?a56 ?pCB ?nCBrecords ?nCBending ?nCBstates ?aCC ?a57 ?a58 ?a59 ?pCC ?nCCmodel ?nCCstates ?nCCpending ?nCCreached ?nCCstopped ?aCN ?xCN ?aCG ?xCG ?aCU ?xCU ?aCY ?xCY ?aCP ?xCP ?aCL ?xCL ?aCF ?xCF ?enn ?egn ?egg ?hcn ?hck ?wha ?whm ?wkt ?whaB ?whmB ?wktB ?kss ?kts ?ktt ?kll ?xfCN ?XN100 ?a100 ?xfCG ?XN101 ?a101 ?xfCU ?XN102 ?a102 ?xfCY ?XN103 ?a103 ?xfCP ?XN104 ?a104 ?xfCL ?XN105 ?a105 ?zlen ?zabs ?zisinstance ?zlist ?ztuple ?zstr ?zint ?zbool ?zrange ?zmax ?zdict ?zsorted ?zenumerate ?zmin
  case a1|a2|a3|a4|a5|a6|a7|a8|a9|a10|a11|a12|a13|a14|a15|a16|a17|a18|a19|a20|a21|a22|a23|a24|a25|a26|a27|a28|a29|a30|a31|a32|a33|a34|a35|a36|a37|a38|a39|a40|a41|a42|a43|a44|a45|a46|a47=>
   refine' My.dn_i ?a ?l ?c ?k
   case a=>k_is
   case l=>k_is
   case c=>k_is
   case k=>k_is
  case aCM|aCS|aCD|aCB|aCC|aCN|aCG|aCU|aCY|aCP|aCL|aCF=>k_is
  case a48|a49|a50|a51|a52|a53|a54|a55|a56|a57|a58|a59=>
   refine' My.mn_i ?a ?i ?l ?c ?k
   case a=>k_is
   case i=>k_is
   case l=>k_is
   case c=>k_is
   case k=>k_is
  case pCM|pCS|pCD|pCB|pCC=>exact{{by k_is,by k_is,by k_is,by k_is},by k_is,by k_is}
  case nCMmachines|nCSboxes|nCSqueues|nCSdrawn|nCSsent|nCDmachine|nCDhappening|nCDstate|nCDwritten|nCDoutgoing|nCDends|nCDreckoned|nCDqueued|nCBrecords|nCBending|nCBstates|nCCmodel|nCCstates|nCCpending|nCCreached|nCCstopped|zlen|zabs|zisinstance|zlist|ztuple|zstr|zint|zbool|zrange|zmax|zdict|zsorted|zenumerate|zmin=>k_is
  case xCN|xCG|xCU|xCY|xCP|xCL|xCF=>k_exc
  case enn|egn|egg=>kts_exm
  case hcn|hck|wha|whm|whaB|whmB=>k_is
  case wkt|wktB|kss|kts|ktt|kll=>kit_is
  case xfCN|xfCG|xfCU|xfCY|xfCP|xfCL=>kts_exm
  case XN100|XN101|XN102|XN103|XN104|XN105=>exact{by k_is,by k_is,by k_is,by k_is,by k_is,by k_is,by k_is}
  case a100|a101|a102|a103|a104|a105=>
   refine' My.mn_i ?a ?i ?l ?c ?k
   case a=>k_is
   case i=>k_is
   case l=>k_is
   case c=>k_is
   case k=>k_is

