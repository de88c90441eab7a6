import PyProof.Rows.All
import Wide.All
import OpenK.AllK
import Wide.FinOn
import Lean
import PyProof.EqAt
import PyProof.EqKinds
import PyProof.TupleCall
import KE.KDictOf
import PyProof.AttrMissSeq
import PyProof.DictCopy
import PyProof.NeKinds
import KE.KTab
import PyProof.DictWalks
import PyProof.MinMaxWalk
import PyProof.MeetsDictList
import PyProof.DictFindH
import PyProof.DictTruth
import KE.KRevSl
import KE.KIntText
import PyProof.ExcAttrAll.ValueError
import PyProof.DictItems
import KE.KDictSum
import PyProof.Rows.SortStr
import PyProof.Rows.SortWalk
import PyProof.ExcArgsOwn
import PyProof.NsDelKeeps
import PyProof.EnumMake
import PyProof.EnumFor
import PyProof.EnumStmt
import PyProof.Rows.EnumRows
import PyProof.Rows.SortRev
import PyProof.StrBlockI
import PyProof.SliceStr2
import KE.KRevIter
import PyProof.StrBlockH
import PyProof.Rows.StrNews
import PyProof.StrLawsReplace
import PyProof.WalkInts
import PyProof.ConsumeWalk
import PyProof.ConsumeS
import PyProof.FString5
import PyProof.ListNew
import PyProof.CollectIter
import PyProof.Rows.CatFin
import PySem.Challenge.RW_momentloom_k79_lines_of_no_book
-- CHANGE: your row's module here, as the last of these rows
set_option Elab.async false
set_option linter.all false
set_option maxRecDepth 100000
namespace L2
open PySem PySem.Spec PyProof.Rows
abbrev Key:=Sum Int Str
def keyIs:Key→Value→Bool
  | .inl k,v=>Value.isInt k v
  | .inr x,v=>Value.isStrOf x v
def keyH (w:World):Key→Int
  | .inl k=>hashInt k
  | .inr x=>hashStr w x
theorem keyIs_shape:∀ {k:Key} {v:Value},keyIs k v=true→(∃ i t,k=Sum.inl i∧v=Value.int i t)∨(∃ x t,k=Sum.inr x∧v=Value.str x t)
  | .inl i,v,h=>by
    obtain ⟨t,e⟩:=Value.isInt_shape (k:=i) (v:=v) h
    exact .inl ⟨i,t,rfl,e⟩
  | .inr x,v,h=>by
    obtain ⟨t,e⟩:=Value.isStrOf_shape (x:=x) (v:=v) h
    exact .inr ⟨x,t,rfl,e⟩
theorem key_ll (a b:Int):decide ((Sum.inl a:Key)=Sum.inl b)=(a == b):=by
  by_cases e:a=b
  · subst e; simp
  · have h:¬ (Sum.inl a:Key)=Sum.inl b:=fun q=>e (Sum.inl.inj q)
    rw [decide_eq_false h]
    exact (beq_eq_false_iff_ne.mpr e).symm
theorem key_rr (a b:Str):decide ((Sum.inr a:Key)=Sum.inr b)=decide (a=b):=by
  by_cases e:a=b
  · subst e; simp
  · have h:¬ (Sum.inr a:Key)=Sum.inr b:=fun q=>e (Sum.inr.inj q)
    rw [decide_eq_false h,decide_eq_false e]
theorem key_lr (a:Int) (b:Str):decide ((Sum.inl a:Key)=Sum.inr b)=false:=decide_eq_false (fun q=>nomatch q)
theorem key_rl (a:Str) (b:Int):decide ((Sum.inr a:Key)=Sum.inl b)=false:=decide_eq_false (fun q=>nomatch q)
def mixKind (prog:Program) (w:World):PySem.KeyKind prog w Key where
  is:=keyIs
  hash:=keyH w
  inj:=fun v a b ha hb=>by
    rcases keyIs_shape ha with ⟨i,t,rfl,rfl⟩ | ⟨x,t,rfl,rfl⟩
    · rcases keyIs_shape hb with ⟨j,u,rfl,e⟩ | ⟨y,u,rfl,e⟩
      · injection e with e1 _; rw [e1]
      · exact nomatch e
    · rcases keyIs_shape hb with ⟨j,u,rfl,e⟩ | ⟨y,u,rfl,e⟩
      · exact nomatch e
      · injection e with e1 _; rw [e1]
  byValue:=fun k v h=>by
    rcases keyIs_shape h with ⟨i,t,rfl,rfl⟩ | ⟨x,t,rfl,rfl⟩ <;> rfl
  pyHash:=fun hv h=>by
    rcases keyIs_shape hv with ⟨i,t,rfl,rfl⟩ | ⟨x,t,rfl,rfl⟩
    · exact wpAny_pyHash_int h
    · exact wpAny_pyHash_str h
  eqBool:=fun hu hv h=>by
    rcases keyIs_shape hu with ⟨i,t,rfl,rfl⟩ | ⟨x,t,rfl,rfl⟩
    · rcases keyIs_shape hv with ⟨j,u,rfl,rfl⟩ | ⟨y,u,rfl,rfl⟩
      · rw [key_ll] at h; exact wpAny_eqBool_int h
      · rw [key_lr] at h; exact SeqAt.EqAt.int_str i t y u _ _ _ _ h
    · rcases keyIs_shape hv with ⟨j,u,rfl,rfl⟩ | ⟨y,u,rfl,rfl⟩
      · rw [key_rl] at h; exact SeqAt.EqAt.str_int x t j u _ _ _ _ h
      · rw [key_rr] at h; exact wpAny_eqBool_str h
  «strs»:=fun k x t v h=>by
    rcases keyIs_shape h with ⟨i,u,rfl,e⟩ | ⟨y,u,rfl,e⟩
    · exact nomatch e
    · injection e with e1 _
      subst e1
      cases v <;> rfl
end L2
namespace L2
open PySem PySem.Spec PyProof.Rows
inductive V where
  | non | bl (b:Bool) | int (i:Int) | str (x:Str) | byt (b:Array UInt8) | flt (b:UInt64) | ref (a:Addr) | ty (n:String)
  deriving DecidableEq
def RelV:V→Value→Prop
  | .non,u=>u=Value.none
  | .bl b,u=>u=Value.bool b
  | .int i,u=>∃ t,u=Value.int i t
  | .str x,u=>∃ t,u=Value.str x t
  | .byt b,u=>∃ t,u=Value.bytes b t
  | .flt b,u=>∃ t,u=Value.float b t
  | .ref a,u=>u=Value.ref a
  | .ty n,u=>u=Value.type n
abbrev Vals:List V→List Value→Prop:=Paired RelV
theorem Vals.length {xs:List V} {us:List Value} (r:Vals xs us):xs.length=us.length:=Paired.length r
theorem Vals.get:∀ {xs:List V} {us:List Value} {i:Nat} {x:V},Vals xs us→xs[i]?=some x→∃ u,us[i]?=some u∧RelV x u
  | _,_,_,_,.nil,e=>by simp at e
  | _,_,0,_,.cons r _,e=>by simp at e; subst e; exact ⟨_,rfl,r⟩
  | _,_,i + 1,x,.cons _ t,e=>by
    obtain ⟨u,h1,h2⟩:=Vals.get (i:=i) (x:=x) t (by simpa using e)
    exact ⟨u,by simpa using h1,h2⟩
theorem Vals.set {x:V} {u:Value} (r:RelV x u):∀ {xs:List V} {us:List Value} (i:Nat),Vals xs us→Vals (xs.set i x) (us.set i u)
  | _,_,_,.nil=>.nil
  | _,_,0,.cons _ t=>.cons r t
  | _,_,i + 1,.cons q t=>.cons q (Vals.set r i t)
theorem Vals.append:∀ {xs ys:List V} {us ws:List Value},Vals xs us→Vals ys ws→Vals (xs++ys) (us++ws)
  | _,_,_,_,.nil,s=>s
  | _,_,_,_,.cons r t,s=>.cons r (Vals.append t s)
theorem Vals.take:∀ {xs:List V} {us:List Value} (n:Nat),Vals xs us→Vals (xs.take n) (us.take n)
  | _,_,0,_=>.nil
  | _,_,_ + 1,.nil=>.nil
  | _,_,n + 1,.cons r t=>.cons r (Vals.take n t)
theorem Vals.drop:∀ {xs:List V} {us:List Value} (n:Nat),Vals xs us→Vals (xs.drop n) (us.drop n)
  | _,_,0,r=>r
  | _,_,_ + 1,.nil=>.nil
  | _,_,n + 1,.cons _ t=>Vals.drop n t
def RelO:Option V→Option Value→Prop
  | some v,some u=>RelV v u
  | none,none=>True
  | _,_=>False
def KV {κ:Type}:List (κ×V)→List (κ×Value)→Prop:=Paired fun (p:κ×V) (q:κ×Value)=>p.1=q.1∧RelV p.2 q.2
def kV:Key→V
  | .inl i=>.int i
  | .inr x=>.str x
inductive HO where
  /-- a list -/
  | lst (xs:List V)
  /-- a tuple (never changes) -/
  | tup (xs:List V)
  /-- a dict whose keys are ints and texts; one whose keys are tuples of ints and texts (the empty one is both) -/
  | dK (kvs:List (Key×V)) | dT (kvs:List (List Key×V))
  /-- a set of ints: its members, its size -/
  | set (S:Int→Bool) (n:Nat)
  /-- an instance of the class at C, its dict at dx, its attributes -/
  | ins (C dx:Addr) (fs:List (Str×V))
  /-- the dict of the instance at x -/
  | own (x:Addr)
  /-- the dict of an exception -/
  | xd (fs:List (Str×V))
  /-- a bound method, f of x -/
  | met (f x:Addr)
  /-- a range object lo, lo + 1, .. below hi -/
  | rng (lo hi:Int)
  /-- a thing that is known to the object (the script; a dict while a loop walks it): read, never written while it is so -/
  | frz (o:Obj) (u:HO)
  /-- a code object's table -/
  | tbl (ps:Array Value)
  /-- any other thing, by what is true of its one object (a def of one's own: SetO a S n := HO.ext fun h => ..) -/
  | ext (φ:Heap→Prop)
abbrev Hp:=Addr→Option HO
def upd (H:Hp) (a:Addr) (o:HO):Hp:=fun b=>if b=a then some o else H b
theorem upd_same {H:Hp} {a:Addr} {o:HO}:upd H a o a=some o:=by unfold upd; rw [if_pos rfl]
theorem upd_ne {H:Hp} {a b:Addr} {o:HO} (h:b≠a):upd H a o b=H b:=by unfold upd; rw [if_neg h]
theorem ne_of_none {H:Hp} {a b:Addr} {o:HO} (h:H a=some o) (h':H b=none):a≠b:=by
  intro e; subst e; rw [h] at h'; cases h'
section
variable (P:Program) (w:World)
def ObjOk (H:Hp) (h:Heap) (a:Addr):HO→Prop
  | .lst xs=>xs.length≤sizeLine∧∃ (its:List Value) (n:Nat),Vals xs its∧h.get? a=some {cls:=.type "list",data:=.seq its.toArray n}
  | .tup xs=>xs.length≤sizeLine∧∃ its:List Value,Vals xs its∧IsTup h a its.toArray
  | .dK kvs=>kvs.length≤sizeLine∧(a == sysModules)=false∧∃ vs,KV kvs vs∧h.DictOf (mixKind P w) a vs
  | .dT kvs=>kvs.length≤sizeLine∧(a == sysModules)=false∧∃ xs:List (List Key×Addr×Value),
      Paired (fun (p:List Key×V) (q:List Key×Addr×Value)=>p.1=q.1∧H q.2.1=some (.tup (p.1.map kV))∧RelV p.2 q.2.2) kvs xs ∧
      ∃ o es ep,h.get? a=some o∧o.ExactDict∧o.data=.dict es ep∧es.toList=xs.map (entryOfKey (tupleKind (mixKind P w)))∧(xs.map (·.1)).Nodup
  | .set S n=>h.SetOf (intKind P w) a S n
  | .ins C dx fs=>H dx=some (.own a)∧fs.length≤1000∧dx≠a∧h.get? a=some (PySem.W.instObj C dx) ∧
      ∃ mA,h.Ns1 dx mA∧(∀ f,RelO (fs.lookup f) (mA f))∧PySem.Within mA (fs.map (·.1))
  | .own _=>∃ o,h.get? a=some o
  | .xd fs=>∃ mA,h.Ns1 a mA∧∀ f,RelO (fs.lookup f) (mA f)
  | .rng lo hi=>∃ t u v,h.get? a=some {cls:=.type "range",data:=.fields #[.int lo t,.int hi u,.int 1 v]}
  | .frz o u=>h.get? a=some o∧ObjOk H h a u
  | .tbl ps=>h.get? a=some {cls:=.none,data:=.fields ps}
  | .met f x=>h.get? a=some (PySem.W.methodObj (.ref f) (.ref x))
  | .ext φ=>φ h∧(∃ o,h.get? a=some o)∧∀ h1 h2:Heap,φ h1→(∀ o,h1.get? a=some o→h2.get? a=some o)→φ h2
def HOk (H:Hp) (h:Heap):Prop:=∀ a o,H a=some o→ObjOk P w H h a o
end
section
variable {P:Program} {w:World} {H H':Hp} {h h':Heap} {a:Addr} {o:HO}
theorem ObjOk.lt (x:ObjOk P w H h a o):a < h.objs.size:=by
  cases o with
  | lst xs=>obtain ⟨_,_,_,_,e⟩:=x; exact Heap.lt_size e
  | tup xs=>obtain ⟨_,_,_,p⟩:=x; exact p.lt
  | dK kvs=>obtain ⟨_,_,_,_,o,_,_,e,_⟩:=x; exact Heap.lt_size e
  | dT kvs=>obtain ⟨_,_,_,_,o,_,_,e,_⟩:=x; exact Heap.lt_size e
  | set S n=>obtain ⟨o,_,_,_,e,_⟩:=x; exact Heap.lt_size e
  | ins C dx fs=>obtain ⟨_,_,_,e,_⟩:=x; exact Heap.lt_size e
  | own y=>obtain ⟨_,e⟩:=x; exact Heap.lt_size e
  | xd fs=>obtain ⟨_,⟨_,_,_,e,_⟩,_⟩:=x; exact Heap.lt_size e
  | rng lo hi=>obtain ⟨_,_,_,e⟩:=x; exact Heap.lt_size e
  | frz ob u=>obtain ⟨e,_⟩:=x; exact Heap.lt_size e
  | tbl ps=>exact Heap.lt_size (show h.get? a=some _ from x)
  | met f y=>exact Heap.lt_size (show h.get? a=some _ from x)
  | ext φ=>obtain ⟨_,⟨_,e⟩,_⟩:=x; exact Heap.lt_size e
theorem Paired.mapP {α β:Type} {F G:α→β→Prop}:∀ {l₁:List α} {l₂:List β},Paired F l₁ l₂→(∀ a b,F a b→G a b)→Paired G l₁ l₂
  | _,_,.nil,_=>.nil
  | _,_,.cons r t,f=>.cons (f _ _ r) (Paired.mapP t f)
theorem ObjOk.stay (x:ObjOk P w H h a o) (k:∀ b u,(b=a∨H b=some (.own a))→h.get? b=some u→h'.get? b=some u)
    (ho:∀ b,H b=some (.own a)→H' b=some (.own a)) (ht:∀ b xs,H b=some (.tup xs)→H' b=some (.tup xs)):ObjOk P w H' h' a o:=by
  induction o with
  | lst xs=>obtain ⟨z,its,n,r,e⟩:=x; exact ⟨z,its,n,r,k _ _ (.inl rfl) e⟩
  | tup xs=>obtain ⟨z,its,r,ob,e,c⟩:=x; exact ⟨z,its,r,ob,k _ _ (.inl rfl) e,c⟩
  | dK kvs=>obtain ⟨z,y,vs,r,ob,es,ep,e,c⟩:=x; exact ⟨z,y,vs,r,ob,es,ep,k _ _ (.inl rfl) e,c⟩
  | dT kvs =>
    obtain ⟨z,y,xs,r,ob,es,ep,e,c⟩:=x
    exact ⟨z,y,xs,Paired.mapP r fun p q z=>⟨z.1,ht _ _ z.2.1,z.2.2⟩,ob,es,ep,k _ _ (.inl rfl) e,c⟩
  | set S n=>obtain ⟨ob,es,ep,t,e,c⟩:=x; exact ⟨ob,es,ep,t,k _ _ (.inl rfl) e,c⟩
  | ins C dx fs =>
    obtain ⟨d,z,ne,e,mA,⟨od,es,ep,e2,c⟩,r⟩:=x
    exact ⟨ho _ d,z,ne,k _ _ (.inl rfl) e,mA,⟨od,es,ep,k _ _ (.inr d) e2,c⟩,r⟩
  | own y=>obtain ⟨ob,e⟩:=x; exact ⟨ob,k _ _ (.inl rfl) e⟩
  | xd fs=>obtain ⟨mA,⟨od,es,ep,e,c⟩,r⟩:=x; exact ⟨mA,⟨od,es,ep,k _ _ (.inl rfl) e,c⟩,r⟩
  | rng lo hi=>obtain ⟨t,u,v,e⟩:=x; exact ⟨t,u,v,k _ _ (.inl rfl) e⟩
  | frz ob u ih=>obtain ⟨e,q⟩:=x; exact ⟨k _ _ (.inl rfl) e,ih q⟩
  | tbl ps =>
    have e:h.get? a=some {cls:=.none,data:=.fields ps}:=x
    show h'.get? a=some {cls:=.none,data:=.fields ps}
    exact k a _ (.inl rfl) e
  | met f y =>
    have e:h.get? a=some (PySem.W.methodObj (.ref f) (.ref y)):=x
    show h'.get? a=some (PySem.W.methodObj (.ref f) (.ref y))
    exact k a _ (.inl rfl) e
  | ext φ=>obtain ⟨p,⟨o,e⟩,st⟩:=x; exact ⟨st _ _ p fun o q=>k _ _ (.inl rfl) q,⟨o,k _ _ (.inl rfl) e⟩,st⟩
theorem HOk.lt (x:HOk P w H h) (e:H a=some o):a < h.objs.size:=(x a o e).lt
theorem HOk.fresh (x:HOk P w H h) (e:h.objs.size≤a):H a=none:=by
  cases q:H a with
  | none=>rfl
  | some u=>exact absurd (Nat.lt_of_lt_of_le (x.lt q) e) (Nat.lt_irrefl _)
theorem HOk.kept (x:HOk P w H h) (k:∀ b u,h.get? b=some u→h'.get? b=some u):HOk P w H h':=fun a o e =>
  (x a o e).stay (fun b u _ q=>k b u q) (fun _ q=>q) fun _ _ q=>q
theorem HOk.laid (x:HOk P w H h) (k:∀ b u,h.get? b=some u→h'.get? b=some u) (hp:h.objs.size≤a) (new:ObjOk P w (upd H a o) h' a o):HOk P w (upd H a o) h':=fun b u e=>by
  have hn:=x.fresh hp
  by_cases hb:b=a
  · subst hb; rw [upd_same] at e; cases e; exact new
  · rw [upd_ne hb] at e
    exact (x b u e).stay (fun c v _ q=>k c v q) (fun c q=>by rw [upd_ne (ne_of_none q hn)]; exact q) fun c xs q=>by rw [upd_ne (ne_of_none q hn)]; exact q
end
def Rd (H:Hp) (a:Addr) (u:HO):Prop:=H a=some u∨∃ o,H a=some (.frz o u)
theorem Rd.ok {P:Program} {w:World} {H:Hp} {h:Heap} {a:Addr} {u:HO} (r:Rd H a u) (x:HOk P w H h):ObjOk P w H h a u:=by
  rcases r with r | ⟨o,r⟩
  · exact x a u r
  · obtain ⟨_,q⟩:=x a _ r
    exact q
def Mut:Option HO→Prop
  | some (.lst _)=>True
  | some (.dK _)=>True
  | some (.dT _)=>True
  | some (.set _ _)=>True
  | some (.ins _ _ _)=>True
  | some (.ext _)=>True
  | _=>False
section
variable {P:Program} {w:World} {H:Hp} {h h':Heap} {x e:Addr} {o':HO}
theorem HOk.write (ok:HOk P w H h) (mu:Mut (H x)) (he:e=x∨H e=some (.own x)) (k:∀ b u,b≠e→h.get? b=some u→h'.get? b=some u) (heo:∃ u,h'.get? e=some u)
    (new:ObjOk P w (upd H x o') h' x o'):HOk P w (upd H x o') h':=fun b u q=>by
  have nown:∀ c y,H c=some (.own y)→c≠x:=fun c y r z=>by subst z; rw [r] at mu; exact mu
  have ntup:∀ c xs,H c=some (.tup xs)→c≠x:=fun c xs r z=>by subst z; rw [r] at mu; exact mu
  by_cases hb:b=x
  · subst hb; rw [upd_same] at q; cases q; exact new
  · rw [upd_ne hb] at q
    by_cases hbe:b=e
    · have q':H b=some (.own x):=by
        rcases he with z | z
        · exact absurd (hbe.trans z) hb
        · rw [hbe]; exact z
      rw [q] at q'; cases q'
      obtain ⟨v,hv⟩:=heo
      exact ⟨v,by rw [hbe]; exact hv⟩
    · refine (ok b u q).stay (fun c v hc r=>k c v ?_ r) (fun c r=>by rw [upd_ne (nown c b r)]; exact r) fun c xs r=>by rw [upd_ne (ntup c xs r)]; exact r
      rcases hc with rfl | hc
      · exact hbe
      · rintro rfl
        rcases he with z | z
        · exact nown c b hc z
        · rw [hc] at z; cases z; exact hb rfl
end
structure Un (fs ex:List Addr) (H H':Hp) (h h':Heap):Prop where
  keep:∀ b o,h.get? b=some o→H b=none→b∉fs→b∉ex→h'.get? b=some o
  slot:∀ b o,h.get? b=some o→H b=none→b∈fs→b∉ex→∃ sl,h'.get? b=some {o with slots:=sl}
  free:∀ b o,h.get? b=some o→H b=none→b∉ex→H' b=none
  there:∀ b o,h.get? b=some o→b∉ex→∃ o',h'.get? b=some o'
  tups:∀ b xs,H b=some (.tup xs)→H' b=some (.tup xs)
  frzs:∀ b o u,H b=some (.frz o u)→H' b=some (.frz o u)
  tbls:∀ b ps,H b=some (.tbl ps)→∃ more,H' b=some (.tbl (ps++more))
section
variable {fs fs' ex ex':List Addr} {H H1 H2:Hp} {h h1 h2 h':Heap} {a x e:Addr} {o:HO}
theorem Un.any (u:Un fs ex H H1 h h1) {b:Addr} {ob:Obj} (q:h.get? b=some ob) (n:H b=none) (hx:b∉ex):∃ sl,h1.get? b=some {ob with slots:=sl}:=by
  by_cases hb:b∈fs
  · exact u.slot b ob q n hb hx
  · exact ⟨ob.slots,u.keep b ob q n hb hx⟩
theorem Un.kept (k:∀ b u,h.get? b=some u→h'.get? b=some u):Un fs ex H H h h':=
  ⟨fun b ob q _ _ _=>k b ob q,fun b ob q _ _ _=>⟨ob.slots,k b ob q⟩,fun _ _ _ n _=>n,fun b ob q _=>⟨ob,k b ob q⟩,fun _ _ q=>q,fun _ _ _ q=>q,fun _ ps q=>⟨#[],by rw [q]; simp⟩⟩
theorem Un.refl:Un fs ex H H h h:=Un.kept fun _ _ q=>q
theorem Un.laid (k:∀ b u,h.get? b=some u→h'.get? b=some u) (hp:h.objs.size≤a) (hn:H a=none):Un fs ex H (upd H a o) h h' where
  keep:=fun b u q _ _ _=>k b u q
  slot:=fun b u q _ _ _=>⟨u.slots,k b u q⟩
  free:=fun b u q n _=>by rw [upd_ne (Nat.ne_of_lt (Nat.lt_of_lt_of_le (Heap.lt_size q) hp))]; exact n
  there:=fun b u q _=>⟨u,k b u q⟩
  tups:=fun b xs q=>by rw [upd_ne (ne_of_none q hn)]; exact q
  frzs:=fun b u xs q=>by rw [upd_ne (ne_of_none q hn)]; exact q
  tbls:=fun b ps q=>⟨#[],by rw [upd_ne (ne_of_none q hn),q]; simp⟩
theorem Un.write (mu:Mut (H x)) (he:e=x∨H e=some (.own x)) (k:∀ b u,b≠e→h.get? b=some u→h'.get? b=some u) (heo:∃ u,h'.get? e=some u):Un fs ex H (upd H x o) h h':=by
  have hx:∀ b,H b=none→b≠x:=fun b n z=>by subst z; rw [n] at mu; exact mu
  have hb:∀ b,H b=none→b≠e:=fun b n z=>by
    subst z
    rcases he with r | r
    · exact hx b n r
    · rw [n] at r; cases r
  have hm:∀ b u,H b=some u→¬ Mut (some u)→b≠x:=fun b u q nm z=>by subst z; rw [q] at mu; exact nm mu
  refine ⟨fun b u q n _ _=>k b u (hb b n) q,fun b u q n _ _=>⟨u.slots,k b u (hb b n) q⟩,fun b u q n _=>by rw [upd_ne (hx b n)]; exact n,fun b u q _=>?_,
    fun b xs q=>by rw [upd_ne (hm b _ q fun z=>z)]; exact q,fun b u xs q=>by rw [upd_ne (hm b _ q fun z=>z)]; exact q,fun b ps q=>⟨#[],by rw [upd_ne (hm b _ q fun z=>z),q]; simp⟩⟩
  by_cases hbe:b=e
  · subst hbe; exact heo
  · exact ⟨u,k b u hbe q⟩
end
def trk (h:Heap) (H:Hp):List Addr:=(List.range h.objs.size).filter fun a=>(H a).isSome
def hidT (h:Heap) (H:Hp):Heap:=PySem.W.hideAll h (trk h H)
theorem hidT_size (h:Heap) (H:Hp):(hidT h H).objs.size=h.objs.size:=PySem.W.hideAll_size _ _
theorem hidT_get {h:Heap} {H:Hp} {b:Addr} {o:Obj} (e:h.get? b=some o) (n:H b=none):(hidT h H).get? b=some o:=
  PySem.W.hideAll_get _ e fun hm=>by
    have q:(H b).isSome=true:=(List.mem_filter.mp hm).2
    rw [n] at q; simp at q
theorem of_hidT {h:Heap} {H:Hp} {b:Addr} {o:Obj} (e:(hidT h H).get? b=some o):h.get? b=some o∧H b=none:=by
  have e':h.get? b=some o:=PySem.W.of_hideAll (trk h H) e
  refine ⟨e',?_⟩
  cases q:H b with
  | none=>rfl
  | some x =>
    have hm:b∈trk h H:=List.mem_filter.mpr ⟨List.mem_range.mpr (Heap.lt_size e'),by simp [q]⟩
    have z:(hidT h H).get? b=none:=PySem.W.hideAll_none (trk h H) hm
    rw [z] at e; cases e
def allNews (g h:Heap) (L:Addr):List (Addr×Obj):=(List.range h.objs.size).filterMap fun a=>if a=L∨(g.get? a).isSome=true then none else (h.get? a).map fun o=>(a,o)
def rest (g h:Heap) (L d:Addr):List (Addr×Obj):=(allNews g h L).filter fun p=>decide (p.1≠d)
end L2
namespace L2
open PySem PySem.Spec PyProof.Rows
structure Mod (K:PySem.W.Frag) (mg:Str→Option Value) (base:Heap):Prop where
  kin:K.In base
  glob:base.Ns mainGlobals mg
  blt:∃ mb,base.Ns builtinsNs mb∧∀ x:Str,x≠"__name__"→mb x=bootBuiltins x
  nolimit:base.NoLimit
structure Cx where
  prog:Program
  w:World
  K:PySem.W.Frag
  mg:Str→Option Value
  base:Heap
  A:Around
  N:List Str
  s₀:Shared
  H₀:Hp
  env:Env
  outer:List Env
  stack:List Env
  ex:List Addr
  fn:Str→Bool
  calm:Bool
  pn:List (Addr×Obj)
  xe:Value→Shared→Prop
def frs (l:List Env):List Addr:=l.filterMap (·.frame)
abbrev Cx.fs (X:Cx):List Addr:=frs X.outer
def Vis (sc:Scope) (x:Str):Prop:=sc.names.lookup x=some .local∨sc.names.lookup x=some .cell∨sc.names.lookup x=some .free
def Loc (sc:Scope) (x:Str):Prop:=sc.names.lookup x=some .local∨sc.names.lookup x=some .cell
def Look (env:Env) (h:Heap) (m:Str→Option Value) (x:Str) (u:Value):Prop:=
  (env.kindOf x=some .local∧m x=some u)∨((env.kindOf x=some .cell∨env.kindOf x=some .free)∧∃ c,env.cells.lookup x=some c∧h.IsCell c (some u))
structure Cx.Ok (X:Cx):Prop where
  mod:Mod X.K X.mg X.base
  kind:X.env.scope.kind=.function
  glob:X.env.globals=mainGlobals
  blt:X.env.builtins=builtinsNs
  above:X.s₀.heap.objs.size≤X.env.locals
  inj:∀ x y c,X.env.cells.lookup x=some c→X.env.cells.lookup y=some c→x=y
  has:∀ x,(X.env.kindOf x=some .cell∨X.env.kindOf x=some .free)→∃ c,X.env.cells.lookup x=some c
  cab:∀ x c,X.fn x=true→X.env.cells.lookup x=some c→X.s₀.heap.objs.size≤c
  hd:X.calm=true→X.A.handled=none
  frames:X.A.frames=some X.stack
  stk:X.stack=X.outer∨(X.stack=X.env :: X.outer∧X.env.frame=some X.env.locals)
  exf:∀ b∈X.ex,b≠X.env.locals∧∀ x c,X.env.cells.lookup x=some c→c≠b
  bs:∀ b o,X.base.get? b=some o→X.s₀.heap.get? b=some o∧X.H₀ b=none
  bsz:X.base.objs.size≤X.s₀.heap.objs.size
  noex:∀ b o,X.base.get? b=some o→b∉X.ex
  exfs:∀ b∈X.ex,b∉X.fs
  funs:X.s₀.heap.FunFrames X.base X.outer
  frf:∀ b∈X.fs,X.H₀ b=none
structure Inv (X:Cx) (pins:List (Addr×Obj)) (σ:List (Option V)) (H:Hp) (s:Shared):Prop where
  ok:X.Ok
  os:s.os=X.s₀.os
  bare:AllBare s.gens
  base:Un X.fs X.ex X.H₀ H X.s₀.heap s.heap
  loc:∃ m,s.heap.Ns X.env.locals m∧∀ (i:Nat) (x:Str) (v:V),X.N[i]?=some x→σ[i]?=some (some v)→Vis X.env.scope x→∃ u,RelV v u∧Look X.env s.heap m x u
  cell:∀ x c,X.env.cells.lookup x=some c→∃ v,s.heap.IsCell c v
  free:H X.env.locals=none
  freeC:∀ x c,X.env.cells.lookup x=some c→H c=none
  pin:∀ p∈X.pn++pins,s.heap.get? p.1=some p.2∧H p.1=none∧p.1≠X.env.locals∧p.1∉X.fs∧∀ v,p.2.data≠.cell v
  hok:HOk X.prog X.w H s.heap
  len:σ.length=X.N.length
section
variable {X:Cx} {pins:List (Addr×Obj)} {σ:List (Option V)} {H H':Hp} {s:Shared} {h':Heap}
theorem Cx.Ok.nofr (ok:X.Ok) {b:Addr} {o:Obj} (e:X.base.get? b=some o):b∉X.fs:=fun hb=>by
  have:=(ok.funs.mem hb).1
  rw [e] at this; cases this
theorem Inv.bs (I:Inv X pins σ H s):∀ b o,X.base.get? b=some o→s.heap.get? b=some o∧H b=none:=fun b o e =>
  ⟨I.base.keep b o (I.ok.bs b o e).1 (I.ok.bs b o e).2 (I.ok.nofr e) (I.ok.noex b o e),I.base.free b o (I.ok.bs b o e).1 (I.ok.bs b o e).2 (I.ok.noex b o e)⟩
theorem Inv.bk (I:Inv X pins σ H s):∀ b o,X.base.get? b=some o→s.heap.get? b=some o:=fun b o e=>(I.bs b o e).1
theorem Inv.mod (I:Inv X pins σ H s):Mod X.K X.mg X.base:=I.ok.mod
theorem Inv.kIn (I:Inv X pins σ H s):X.K.In s.heap:=I.ok.mod.kin.keeps I.bk
theorem Inv.fr (I:Inv X pins σ H s):∃ m,Fr X.base X.env.locals s.heap m:=
  let ⟨m,hn,_⟩:=I.loc
  ⟨m,hn,I.bk,Nat.le_trans I.ok.bsz I.ok.above⟩
theorem Inv.lt (I:Inv X pins σ H s):X.env.locals < s.heap.objs.size:=let ⟨_,hn,_⟩:=I.loc; hn.lt
theorem Inv.sz (I:Inv X pins σ H s):X.s₀.heap.objs.size≤s.heap.objs.size:=Nat.le_trans I.ok.above (Nat.le_of_lt I.lt)
theorem Inv.nofs (I:Inv X pins σ H s) {a:Addr} (h:s.heap.objs.size≤a):a∉X.fs:=fun hb=>by
  obtain ⟨_,o,ho,_⟩:=I.ok.funs.mem hb
  exact absurd (Nat.lt_of_lt_of_le (Heap.lt_size ho) (Nat.le_trans I.sz h)) (Nat.lt_irrefl _)
theorem Inv.cne (I:Inv X pins σ H s):∀ x c,X.env.cells.lookup x=some c→c≠X.env.locals:=fun x c e z=>by
  obtain ⟨v,o,ho,hd⟩:=I.cell x c e
  obtain ⟨m,⟨o',es,ep,ho',hd',_⟩,_⟩:=I.loc
  rw [z,ho'] at ho; cases ho; rw [hd'] at hd; cases hd
theorem Inv.funs (I:Inv X pins σ H s):s.heap.FunFrames X.base X.outer:=by
  have all:∀ (l:List Env),(∀ b∈frs l,b∈X.fs)→X.s₀.heap.FunFrames X.base l→s.heap.FunFrames X.base l:=by
    intro l
    induction l with
    | nil=>intro _ _; trivial
    | cons env r ih =>
      intro hs hl
      obtain ⟨hk,⟨L,o,hf,hn,ho,hd⟩,hr⟩:=hl
      have hL:L∈X.fs:=hs L (by unfold frs; rw [List.filterMap_cons,hf]; exact List.mem_cons_self)
      obtain ⟨sl,e⟩:=I.base.slot L o ho (I.ok.frf L hL) hL fun z=>I.ok.exfs L z hL
      exact ⟨hk,⟨L,_,hf,hn,e,hd⟩,ih (fun b hb=>hs b (by unfold frs; rw [List.filterMap_cons,hf]; exact List.mem_cons_of_mem _ hb)) hr⟩
  exact all X.outer (fun _ hb=>hb) I.ok.funs
theorem Inv.stack (I:Inv X pins σ H s):s.heap.FunFrames X.base X.stack:=by
  rcases I.ok.stk with e | ⟨e,hf⟩
  · rw [e]; exact I.funs
  · rw [e]
    obtain ⟨m,hn,_⟩:=I.loc
    refine .cons (by rw [I.ok.kind]; decide) hf hn ?_ I.funs
    exact Heap.get?_none_of_le (Nat.le_trans I.ok.bsz I.ok.above)
theorem Inv.stkSub (I:Inv X pins σ H s):∀ b∈frs X.stack,b∈X.env.locals :: X.fs:=fun b hb=>by
  rcases I.ok.stk with e | ⟨e,hf⟩
  · rw [e] at hb; exact List.mem_cons_of_mem _ hb
  · rw [e] at hb
    unfold frs at hb
    rw [List.filterMap_cons,hf] at hb
    exact hb
theorem Inv.stkFree (I:Inv X pins σ H s):∀ b∈frs X.stack,H b=none:=fun b hb=>by
  rcases List.mem_cons.mp (I.stkSub b hb) with e | hb
  · rw [e]; exact I.free
  · obtain ⟨_,o,ho,_⟩:=I.ok.funs.mem hb
    exact I.base.free b o ho (I.ok.frf b hb) fun z=>I.ok.exfs b z hb
theorem Inv.step {g':Array GenState} {t':Nat} {d':Drawn} {ch:List Addr} (I:Inv X pins σ H s)
    (hch:∀ b∈ch,(b∈X.ex∨X.s₀.heap.objs.size≤b)∧b≠X.env.locals∧(∀ x c,X.env.cells.lookup x=some c→c≠b)∧∀ p∈X.pn++pins,p.1≠b)
    (keep:∀ b o,b≠X.env.locals→b∉X.fs→b∉ch→s.heap.get? b=some o→H b=none→h'.get? b=some o)
    (slot:∀ b o,b≠X.env.locals→b∈X.fs→b∉ch→s.heap.get? b=some o→H b=none→∃ sl,h'.get? b=some {o with slots:=sl}) (free:∀ b o,b∉ch→s.heap.get? b=some o→H b=none→H' b=none)
    (there:∀ b o,b∉ch→s.heap.get? b=some o→∃ o',h'.get? b=some o')
    (tups:∀ b xs,H b=some (.tup xs)→H' b=some (.tup xs)) (frzs:∀ b o u,H b=some (.frz o u)→H' b=some (.frz o u)) (tbls:∀ b ps,H b=some (.tbl ps)→∃ more,H' b=some (.tbl (ps++more)))
    (ns:∀ m,s.heap.Ns X.env.locals m→h'.Ns X.env.locals m) (hok:HOk X.prog X.w H' h') (hg:AllBare g') :
    Inv X pins σ H' {s with heap:=h',gens:=g',drawn:=d',toks:=t'}:=by
  have neL:∀ b o,X.s₀.heap.get? b=some o→b≠X.env.locals:=fun b o e=>Nat.ne_of_lt (Nat.lt_of_lt_of_le (Heap.lt_size e) I.ok.above)
  have neC:∀ b o,X.s₀.heap.get? b=some o→b∉X.ex→b∉ch:=fun b o e hx hb=>by
    rcases (hch b hb).1 with z | z
    · exact hx z
    · exact absurd (Nat.lt_of_lt_of_le (Heap.lt_size e) z) (Nat.lt_irrefl _)
  have cellK:∀ x c,X.env.cells.lookup x=some c→∀ v,s.heap.IsCell c v→h'.IsCell c v:=fun x c e v ⟨o,ho,hd⟩=>by
    have nch:c∉ch:=fun z=>(hch c z).2.2.1 x c e rfl
    by_cases hc:c∈X.fs
    · obtain ⟨sl,q⟩:=slot c o (I.cne x c e) hc nch ho (I.freeC x c e)
      exact ⟨_,q,hd⟩
    · exact ⟨o,keep c o (I.cne x c e) hc nch ho (I.freeC x c e),hd⟩
  refine ⟨I.ok,I.os,hg,⟨fun b o e n hb hx=>?_,fun b o e n hb hx=>?_,fun b o e n hx=>?_,fun b o e hx=>?_,fun b xs e=>tups b xs (I.base.tups b xs e),fun b o xs e=>frzs b o xs (I.base.frzs b o xs e),fun b ps e=>?_⟩,?_,fun x c e=>?_,?_,fun x c e=>?_,fun p hp=>?_,hok,I.len⟩
  · exact keep b o (neL b o e) hb (neC b o e hx) (I.base.keep b o e n hb hx) (I.base.free b o e n hx)
  · obtain ⟨sl,e1⟩:=I.base.slot b o e n hb hx
    obtain ⟨sl',e2⟩:=slot b _ (neL b o e) hb (neC b o e hx) e1 (I.base.free b o e n hx)
    exact ⟨sl',e2⟩
  · obtain ⟨o',e1⟩:=I.base.there b o e hx
    exact free b o' (neC b o e hx) e1 (I.base.free b o e n hx)
  · obtain ⟨o',e1⟩:=I.base.there b o e hx
    exact there b o' (neC b o e hx) e1
  · obtain ⟨m1,e1⟩:=I.base.tbls b ps e
    obtain ⟨m2,e2⟩:=tbls b _ e1
    exact ⟨m1++m2,by rw [e2,Array.append_assoc]⟩
  · obtain ⟨m,hn,hl⟩:=I.loc
    refine ⟨m,ns m hn,fun i x v e1 e2 e3=>?_⟩
    obtain ⟨u,r,l⟩:=hl i x v e1 e2 e3
    refine ⟨u,r,?_⟩
    rcases l with l | ⟨k,c,e,z⟩
    · exact .inl l
    · exact .inr ⟨k,c,e,cellK x c e _ z⟩
  · obtain ⟨v,z⟩:=I.cell x c e
    exact ⟨v,cellK x c e v z⟩
  · obtain ⟨m,⟨o,_,_,ho,_⟩,_⟩:=I.loc
    exact free _ o (fun z=>(hch _ z).2.1 rfl) ho I.free
  · obtain ⟨v,o,ho,hd⟩:=I.cell x c e
    exact free c o (fun z=>(hch c z).2.2.1 x c e rfl) ho (I.freeC x c e)
  · obtain ⟨e,n,ne,nf,d⟩:=I.pin p hp
    have nch:p.1∉ch:=fun z=>(hch p.1 z).2.2.2 p hp rfl
    exact ⟨keep p.1 p.2 ne nf nch e n,free p.1 p.2 nch e n,ne,nf,d⟩
theorem Inv.un {t':Nat} (I:Inv X pins σ H s) (u:Un X.fs [] H H' s.heap h') (hok:HOk X.prog X.w H' h'):Inv X pins σ H' {s with heap:=h',toks:=t'}:=by
  obtain ⟨m,⟨o,es,ep,ho,r⟩,_⟩:=id I.loc
  obtain ⟨sl,hL⟩:=u.any ho I.free (by simp)
  exact I.step (g':=s.gens) (d':=s.drawn) (ch:=[]) (fun _ z=>nomatch z) (fun b o _ hb _ e n=>u.keep b o e n hb (by simp)) (fun b o _ hb _ e n=>u.slot b o e n hb (by simp)) (fun b o _ e n=>u.free b o e n (by simp)) (fun b o _ e=>u.there b o e (by simp)) u.tups u.frzs u.tbls (fun m' hm=>by
    obtain ⟨o',es',ep',ho',r'⟩:=hm
    rw [ho] at ho'; cases ho'
    exact ⟨_,es',ep',hL,r'⟩) hok I.bare
theorem Inv.call {g':Array GenState} {t':Nat} {d':Drawn} {ch:List Addr} (I:Inv X pins σ H s) (u:Un (frs X.stack) ch H H' s.heap h') (hok:HOk X.prog X.w H' h') (hg:AllBare g')
    (hch:∀ b∈ch,(b∈X.ex∨X.s₀.heap.objs.size≤b)∧b≠X.env.locals∧(∀ x c,X.env.cells.lookup x=some c→c≠b)∧∀ p∈X.pn++pins,p.1≠b) :
    Inv X pins σ H' {s with heap:=h',gens:=g',drawn:=d',toks:=t'}:=by
  obtain ⟨m,⟨o,es,ep,ho,r⟩,_⟩:=id I.loc
  obtain ⟨sl,hL⟩:=u.any ho I.free fun z=>(hch _ z).2.1 rfl
  exact I.step (ch:=ch) hch (fun b o hL hb hc e n=>u.keep b o e n (fun z=>(List.mem_cons.mp (I.stkSub b z)).elim hL hb) hc) (fun b o _ _ hc e n=>u.any e n hc) (fun b o hc e n=>u.free b o e n hc) (fun b o hc e=>u.there b o e hc) u.tups u.frzs u.tbls (fun m' hm=>by
    obtain ⟨o',es',ep',ho',r'⟩:=hm
    rw [ho] at ho'; cases ho'
    exact ⟨_,es',ep',hL,r'⟩) hok hg
theorem Inv.turned {t':Nat} {it:Addr} (I:Inv X pins σ H s) (k:∀ b o,b≠it→s.heap.get? b=some o→h'.get? b=some o) (hn:H it=none) (hL:it≠X.env.locals)
    (h1:it∈X.ex∨X.s₀.heap.objs.size≤it) (h2:∀ x c,X.env.cells.lookup x=some c→c≠it) (h3:∀ p∈X.pn++pins,p.1≠it):Inv X pins σ H {s with heap:=h',toks:=t'}:=by
  have nit:∀ b u,H b=some u→b≠it:=fun b u e z=>by rw [z,hn] at e; cases e
  refine I.step (g':=s.gens) (d':=s.drawn) (ch:=[it]) (fun b hb=>?_) (fun b o _ _ hc e _=>k b o (fun z=>hc (by simp [z])) e) (fun b o _ _ hc e _=>⟨o.slots,k b o (fun z=>hc (by simp [z])) e⟩) (fun _ _ _ _ n=>n)
    (fun b o hc e=>⟨o,k b o (fun z=>hc (by simp [z])) e⟩) (fun _ _ e=>e) (fun _ _ _ e=>e) (fun b ps e=>⟨#[],by rw [e]; simp⟩) (fun m hm=>?_) (fun b u e=>?_) I.bare
  · have e:b=it:=by simpa using hb
    subst e
    exact ⟨h1,hL,h2,h3⟩
  · obtain ⟨o,es,ep,ho,r⟩:=hm
    exact ⟨o,es,ep,k _ o (Ne.symm hL) ho,r⟩
  · refine (I.hok b u e).stay (fun c v hc q=>k c v ?_ q) (fun _ q=>q) fun _ _ q=>q
    rcases hc with z | z
    · rw [z]; exact nit b u e
    · exact nit c _ z
theorem Inv.tok (I:Inv X pins σ H s) (t:Nat):Inv X pins σ H {s with toks:=t}:=I.un (h':=s.heap) (t':=t) Un.refl I.hok
theorem Inv.kept {t':Nat} (I:Inv X pins σ H s) (k:∀ b u,s.heap.get? b=some u→h'.get? b=some u):Inv X pins σ H {s with heap:=h',toks:=t'}:=I.un (Un.kept k) (I.hok.kept k)
theorem Inv.laid {a:Addr} {o:HO} {t':Nat} (I:Inv X pins σ H s) (k:∀ b u,s.heap.get? b=some u→h'.get? b=some u) (hp:s.heap.objs.size≤a) (new:ObjOk X.prog X.w (upd H a o) h' a o) :
    Inv X pins σ (upd H a o) {s with heap:=h',toks:=t'}:=I.un (Un.laid k hp (I.hok.fresh hp)) (I.hok.laid k hp new)
theorem Inv.write {x e:Addr} {o:HO} {t':Nat} (I:Inv X pins σ H s) (mu:Mut (H x)) (he:e=x∨H e=some (.own x)) (k:∀ b u,b≠e→s.heap.get? b=some u→h'.get? b=some u) (heo:∃ u,h'.get? e=some u)
    (new:ObjOk X.prog X.w (upd H x o) h' x o):Inv X pins σ (upd H x o) {s with heap:=h',toks:=t'}:=I.un (Un.write mu he k heo) (I.hok.write mu he k heo new)
theorem Inv.weak {σ':List (Option V)} (I:Inv X pins σ H s) (hl:σ'.length=σ.length) (w:∀ (i:Nat) v,σ'[i]?=some (some v)→σ[i]?=some (some v)):Inv X pins σ' H s:=
  ⟨I.ok,I.os,I.bare,I.base,let ⟨m,hn,hl'⟩:=I.loc; ⟨m,hn,fun i x v e1 e2 e3=>hl' i x v e1 (w i v e2) e3⟩,I.cell,I.free,I.freeC,I.pin,I.hok,hl.trans I.len⟩
theorem Inv.pins_of {pins':List (Addr×Obj)} (I:Inv X pins σ H s) (h:∀ p∈pins',s.heap.get? p.1=some p.2∧H p.1=none∧p.1≠X.env.locals∧p.1∉X.fs∧∀ v,p.2.data≠.cell v):Inv X pins' σ H s:=
  ⟨I.ok,I.os,I.bare,I.base,I.loc,I.cell,I.free,I.freeC,fun p hp=>(List.mem_append.mp hp).elim (fun z=>I.pin p (List.mem_append_left _ z)) (h p),I.hok,I.len⟩
theorem nodup_ix {N:List Str} (hN:N.Nodup) {i j:Nat} {x:Str} (a:N[i]?=some x) (b:N[j]?=some x):i=j:=by
  obtain ⟨h1,e1⟩:=List.getElem?_eq_some_iff.mp a
  obtain ⟨h2,e2⟩:=List.getElem?_eq_some_iff.mp b
  exact (List.getElem_inj hN).mp (e1.trans e2.symm)
theorem store_ok2 {M:Model} {A:Around} {E:Value→Shared→Prop} {i:Nat} {x:Str} {v:V} {u:Value} {Q:Unit→Shared→Prop} (I:Inv X pins σ H s) (hN:X.N.Nodup) (hi:X.N[i]?=some x) (hx:Loc X.env.scope x) (r:RelV v u)
    (h:∀ s',Inv X pins (σ.set i (some v)) H s'→(∃ a,Heap.SameBut a s.heap s'.heap∧(a=X.env.locals∨X.env.cells.lookup x=some a))→Q () s') (hf:X.fn x=true∨X.env.scope.names.lookup x=some .local:=by first | exact .inl rfl | exact .inr rfl | assumption):wpAny M A (storeName X.env x u) Q E s:=by
  obtain ⟨m,hn,hl⟩:=id I.loc
  have hcls:(X.env.scope.kind == .class || (X.env.scope.kind == .module && X.env.locals != X.env.globals))=false:=by rw [I.ok.kind]; rfl
  have hiσ:i < σ.length:=by rw [I.len]; exact (List.getElem?_eq_some_iff.mp hi).1
  have cne:=I.cne
  have tracked:∀ {a:Addr} {h':Heap},(∃ o,s.heap.get? a=some o∧H a=none)→Heap.SameBut a s.heap h'→HOk X.prog X.w H h':=fun {a h'} ha hs b ob e=>by
    obtain ⟨_,_,hfree⟩:=ha
    refine (I.hok b ob e).stay (fun c w' hc q=>(hs.2 c ?_).trans q) (fun _ q=>q) fun _ _ q=>q
    rintro rfl
    rcases hc with rfl | hc
    · rw [hfree] at e; cases e
    · rw [hfree] at hc; cases hc
  rcases hx with hk | hk
  · refine wpAny_storeName_local hk hn (fun h' hn' hs=>?_) hcls
    obtain ⟨oL,_,_,hoL,_⟩:=id hn
    refine h _ ⟨I.ok,I.os,I.bare,⟨fun b o e n hb hx=>?_,fun b o e n hb hx=>?_,I.base.free,fun b o e hx=>?_,I.base.tups,I.base.frzs,I.base.tbls⟩,⟨_,hn',fun j y v' e1 e2 e3=>?_⟩,fun y c e=>?_,I.free,I.freeC,fun p hp=>?_,tracked ⟨oL,hoL,I.free⟩ hs,by simpa using I.len⟩ ⟨_,hs,.inl rfl⟩
    · exact (hs.2 b (Nat.ne_of_lt (Nat.lt_of_lt_of_le (Heap.lt_size e) I.ok.above))).trans (I.base.keep b o e n hb hx)
    · obtain ⟨sl,e1⟩:=I.base.slot b o e n hb hx
      exact ⟨sl,(hs.2 b (Nat.ne_of_lt (Nat.lt_of_lt_of_le (Heap.lt_size e) I.ok.above))).trans e1⟩
    · obtain ⟨o',e1⟩:=I.base.there b o e hx
      exact ⟨o',(hs.2 b (Nat.ne_of_lt (Nat.lt_of_lt_of_le (Heap.lt_size e) I.ok.above))).trans e1⟩
    · by_cases hj:j=i
      · subst hj
        rw [hi] at e1; cases e1
        rw [List.getElem?_set_self hiσ] at e2
        cases e2
        exact ⟨u,r,.inl ⟨hk,by simp⟩⟩
      · rw [List.getElem?_set_ne (Ne.symm hj)] at e2
        obtain ⟨u',r',q⟩:=hl j y v' e1 e2 e3
        refine ⟨u',r',?_⟩
        rcases q with ⟨k,e⟩ | ⟨k,c,e,z⟩
        · refine .inl ⟨k,?_⟩
          have:y≠x:=fun e=>hj (nodup_ix hN e1 (e ▸ hi))
          simp [this,e]
        · exact .inr ⟨k,c,e,z.sameBut hs (cne y c e)⟩
    · obtain ⟨w',z⟩:=I.cell y c e
      exact ⟨w',z.sameBut hs (cne y c e)⟩
    · obtain ⟨e,n,ne,nf,d⟩:=I.pin p hp
      exact ⟨(hs.2 p.1 ne).trans e,n,ne,nf,d⟩
  · have hfn:X.fn x=true:=by
      rcases hf with z | z
      · exact z
      · rw [z] at hk; cases hk
    obtain ⟨c,hc⟩:=I.ok.has x (.inl hk)
    obtain ⟨w',z⟩:=I.cell x c hc
    refine wpAny_storeName_cell I.ok.kind hk hc z (fun h' hc' hs=>?_)
    obtain ⟨oc,hoc,hocd⟩:=id z
    refine h {s with heap:=h'} ⟨I.ok,I.os,I.bare,⟨fun b o e n hb hx=>?_,fun b o e n hb hx=>?_,I.base.free,fun b o e hx=>?_,I.base.tups,I.base.frzs,I.base.tbls⟩,⟨m,hn.sameBut hs (Ne.symm (cne x c hc)),fun j y v' e1 e2 e3=>?_⟩,fun y c' e=>?_,I.free,I.freeC,fun p hp=>?_,tracked ⟨oc,hoc,I.freeC x c hc⟩ hs,by simpa using I.len⟩ ⟨c,hs,.inr hc⟩
    · exact (hs.2 b (Nat.ne_of_lt (Nat.lt_of_lt_of_le (Heap.lt_size e) (I.ok.cab x c hfn hc)))).trans (I.base.keep b o e n hb hx)
    · obtain ⟨sl,e1⟩:=I.base.slot b o e n hb hx
      exact ⟨sl,(hs.2 b (Nat.ne_of_lt (Nat.lt_of_lt_of_le (Heap.lt_size e) (I.ok.cab x c hfn hc)))).trans e1⟩
    · obtain ⟨o',e1⟩:=I.base.there b o e hx
      exact ⟨o',(hs.2 b (Nat.ne_of_lt (Nat.lt_of_lt_of_le (Heap.lt_size e) (I.ok.cab x c hfn hc)))).trans e1⟩
    · by_cases hj:j=i
      · subst hj
        rw [hi] at e1; cases e1
        rw [List.getElem?_set_self hiσ] at e2
        cases e2
        exact ⟨u,r,.inr ⟨.inl hk,c,hc,hc'⟩⟩
      · rw [List.getElem?_set_ne (Ne.symm hj)] at e2
        obtain ⟨u',r',q⟩:=hl j y v' e1 e2 e3
        refine ⟨u',r',?_⟩
        rcases q with q | ⟨k,c',e,z'⟩
        · exact .inl q
        · refine .inr ⟨k,c',e,z'.sameBut hs ?_⟩
          rintro rfl
          exact hj (nodup_ix hN e1 (I.ok.inj _ _ _ e hc ▸ hi))
    · by_cases hcc:c'=c
      · subst hcc; exact ⟨_,hc'⟩
      · obtain ⟨w2,z2⟩:=I.cell y c' e
        exact ⟨w2,z2.sameBut hs hcc⟩
    · obtain ⟨e,n,ne,nf,d⟩:=I.pin p hp
      refine ⟨(hs.2 p.1 ?_).trans e,n,ne,nf,d⟩
      intro q
      rw [q,hoc] at e
      have q':oc=p.2:=Option.some.inj e
      exact d w' (by rw [← q']; exact hocd)
theorem store_ok {M:Model} {A:Around} {E:Value→Shared→Prop} {i:Nat} {x:Str} {v:V} {u:Value} {Q:Unit→Shared→Prop} (I:Inv X pins σ H s) (hN:X.N.Nodup) (hi:X.N[i]?=some x) (hx:Loc X.env.scope x) (r:RelV v u)
    (h:∀ s',Inv X pins (σ.set i (some v)) H s'→Q () s') (hf:X.fn x=true∨X.env.scope.names.lookup x=some .local:=by first | exact .inl rfl | exact .inr rfl | assumption):wpAny M A (storeName X.env x u) Q E s:=
  store_ok2 I hN hi hx r (fun s' I' _=>h s' I') hf
theorem Inv.call' {s':Shared} {ch:List Addr} (I:Inv X pins σ H s) (ho:s'.os=s.os) (u:Un (frs X.stack) ch H H' s.heap s'.heap) (hok:HOk X.prog X.w H' s'.heap) (hg:AllBare s'.gens)
    (hch:∀ b∈ch,(b∈X.ex∨X.s₀.heap.objs.size≤b)∧b≠X.env.locals∧(∀ x c,X.env.cells.lookup x=some c→c≠b)∧∀ p∈X.pn++pins,p.1≠b):Inv X pins σ H' s':=by
  obtain ⟨h',g',d',t',o'⟩:=s'
  have e:o'=s.os:=ho
  subst e
  exact I.call (g':=g') (t':=t') (d':=d') u hok hg hch
end
abbrev XK:=Value→Option Addr→Hp→Prop
abbrev St:=List (Option V)
abbrev VK:=V→Hp→Prop
abbrev TE:=St→Hp→VK→Prop
abbrev TT:=St→Hp→(Bool→Hp→Prop)→Prop
abbrev TA:=St→Hp→(List V→Hp→Prop)→Prop
structure Ends where
  nx:St→Hp→Prop
  rt:VK
  bk:St→Hp→Prop:=fun _ _=>False
  ct:St→Hp→Prop:=fun _ _=>False
abbrev TS:=Ends→St→Hp→Prop
def EP (X:Cx) (pins:List (Addr×Obj)) (σ:St) (Q:VK) (u:Value) (s':Shared):Prop:=∃ v H',Inv X pins σ H' s'∧RelV v u∧Q v H'
def TP (X:Cx) (pins:List (Addr×Obj)) (σ:St) (Q:Bool→Hp→Prop) (b:Bool) (s':Shared):Prop:=∃ H',Inv X pins σ H' s'∧Q b H'
def AP (X:Cx) (pins:List (Addr×Obj)) (σ:St) (Q:List V→Hp→Prop) (us:List Value) (s':Shared):Prop:=∃ vs H',Inv X pins σ H' s'∧Vals vs us∧Q vs H'
def SP (X:Cx) (pins:List (Addr×Obj)) (D:Ends) (f:Flow) (s':Shared):Prop:=
  match f with
  | .next=>∃ σ' H',Inv X pins σ' H' s'∧D.nx σ' H'
  | .brk=>∃ σ' H',Inv X pins σ' H' s'∧D.bk σ' H'
  | .cont=>∃ σ' H',Inv X pins σ' H' s'∧D.ct σ' H'
  | .ret u=>∃ v σ' H',Inv X pins σ' H' s'∧RelV v u∧D.rt v H'
def PE (X:Cx) (e:Expr) (t:TE):Prop:=
  ∀ (pins:List (Addr×Obj)) (s:Shared) (σ:St) (H:Hp) (Q:VK),Inv X pins σ H s→t σ H Q→wpAny (model X.prog X.w) X.A (eval e X.env) (EP X pins σ Q) X.xe s
def PT (X:Cx) (e:Expr) (t:TT):Prop:=
  ∀ (pins:List (Addr×Obj)) (s:Shared) (σ:St) (H:Hp) (Q:Bool→Hp→Prop),Inv X pins σ H s→t σ H Q→wpAny (model X.prog X.w) X.A (isTrue e X.env (eval e X.env)) (TP X pins σ Q) X.xe s
def PW (X:Cx) (e:Expr) (t:TT):Prop:=
  ∀ (whole:Sem Value) (pins:List (Addr×Obj)) (s:Shared) (σ:St) (H:Hp) (Q:Bool→Hp→Prop),Inv X pins σ H s→t σ H Q→wpAny (model X.prog X.w) X.A (isTrue e X.env whole) (TP X pins σ Q) X.xe s
theorem PW.pt {X:Cx} {e:Expr} {t:TT} (h:PW X e t):PT X e t:=h _
def PA (X:Cx) (es:List Expr) (t:TA):Prop:=
  ∀ (pos:Pos) (pins:List (Addr×Obj)) (s:Shared) (σ:St) (H:Hp) (Q:List V→Hp→Prop),Inv X pins σ H s→t σ H Q→wpAny (model X.prog X.w) X.A (spliced (backTo pos (starEach es X.env))) (AP X pins σ Q) X.xe s
def PS (X:Cx) (st:Stmt) (t:TS):Prop:=
  ∀ (pins:List (Addr×Obj)) (s:Shared) (σ:St) (H:Hp) (D:Ends),Inv X pins σ H s→t D σ H→wpAny (model X.prog X.w) X.A (exec st X.env) (SP X pins D) X.xe s
def PSs (X:Cx) (st:List Stmt) (t:TS):Prop:=
  ∀ (pins:List (Addr×Obj)) (s:Shared) (σ:St) (H:Hp) (D:Ends),Inv X pins σ H s→t D σ H→wpAny (model X.prog X.w) X.A (execs st X.env) (SP X pins D) X.xe s
theorem thn {α:Type} {t:Sem α} {Q Q':α→Shared→Prop} {M:Model} {A:Around} {E:Value→Shared→Prop} {s:Shared} (h:wpAny M A t Q E s) (hQ:∀ a s,Q a s→Q' a s):wpAny M A t Q' E s:=wpAny_mono h hQ fun _ _ x=>x
end L2
namespace L2
open PySem PySem.Spec PyProof.Rows
section
variable {X:Cx}
theorem bin {a b:Expr} {ta tb:TE} (ha:PE X a ta) (hb:PE X b tb) {pins:List (Addr×Obj)} {s:Shared} {σ:St} {H:Hp} {R:V→V→Hp→Prop} (I:Inv X pins σ H s) (h:ta σ H fun x H1=>tb σ H1 fun y H2=>R x y H2)
    {α:Type} {Q:α→Shared→Prop} {f:Value→Value→Sem α}
    (hf:∀ v u s2 x y H2,Inv X pins σ H2 s2→RelV x v→RelV y u→R x y H2→wpAny (model X.prog X.w) X.A (f v u) Q X.xe s2) :
    wpAny (model X.prog X.w) X.A (eval a X.env) (fun v s₁=>wpAny (model X.prog X.w) X.A (eval b X.env) (fun u s₂=>wpAny (model X.prog X.w) X.A (f v u) Q X.xe s₂) X.xe s₁) X.xe s:=by
  refine thn (ha pins s σ H _ I h) fun v s1 ⟨x,H1,I1,r1,q1⟩=>?_
  refine thn (hb pins s1 σ H1 _ I1 q1) fun u s2 ⟨y,H2,I2,r2,q2⟩=>?_
  exact hf v u s2 x y H2 I2 r1 r2 q2
def tVar (i:Nat):TE:=fun σ H Q=>∃ v,σ[i]?=some (some v)∧Q v H
def tC (v:V):TE:=fun _ H Q=>Q v H
theorem pe_var {i:Nat} {x:Str} {pos:Pos} (hN:X.N[i]?=some x) (hv:Vis X.env.scope x) (hd:(x == ("__debug__":Str))=false:=by decide) (hcd:(x == ("__classdict__":Str))=false:=by decide):PE X (.Name x pos) (tVar i):=by
  intro pins s σ H Q I h
  obtain ⟨v,e,h⟩:=h
  obtain ⟨m,hn,hl⟩:=I.loc
  obtain ⟨u,r,l⟩:=hl i x v hN e hv
  have fin:EP X pins σ Q u s:=⟨v,H,I,r,h⟩
  rcases l with ⟨hk,hm⟩ | ⟨hk,c,hc,hcell⟩
  · exact wpAny_Name (wpAny_loadName_local I.ok.kind hk hn hm fin) hd
  · rcases hk with hk | hk
    · exact wpAny_Name (wpAny_loadName_cell I.ok.kind hk hc hcell fin) hd
    · exact wpAny_Name (wpAny_loadName_free I.ok.kind hk hc hcell fin hcd) hd
theorem pe_int {i j pos}:PE X (.Constant (.int i) j pos) (tC (.int i)):=fun _ _ _ H _ I h=>wpAny_Constant_int ⟨.int i,H,I.tok _,⟨_,rfl⟩,h⟩
theorem pe_bl {b j pos}:PE X (.Constant (.bool b) j pos) (tC (.bl b)):=fun _ _ _ H _ I h=>Constant_bool ⟨.bl b,H,I,rfl,h⟩
theorem pe_non {j pos}:PE X (.Constant .none j pos) (tC .non):=fun _ _ _ H _ I h=>Constant_none ⟨.non,H,I,rfl,h⟩
theorem pe_str {x j pos}:PE X (.Constant (.str x) j pos) (tC (.str x)):=fun _ _ _ H _ I h=>Calls.Constant_str ⟨.str x,H,I.tok _,⟨_,rfl⟩,h⟩
def Gl (X:Cx) (x:Str):Prop:=X.env.kindOf x=some .globalImplicit
theorem ld_glob {E:Value→Shared→Prop} {pins:List (Addr×Obj)} {s:Shared} {σ:St} {H:Hp} {x:Str} {u:Value} {pos:Pos} {Q:Value→Shared→Prop} (I:Inv X pins σ H s) (hg:Gl X x) (hm:X.mg x=some u) (h:Q u s)
    (hd:(x == ("__debug__":Str))=false:=by decide):wpAny (model X.prog X.w) X.A (eval (.Name x pos) X.env) Q E s:=
  Calls.Name_function_global I.ok.kind hg (Calls.loadGlobal_global (by rw [I.ok.glob]; exact I.mod.glob.keeps I.bk) hm h) hd
theorem ld_blt {E:Value→Shared→Prop} {pins:List (Addr×Obj)} {s:Shared} {σ:St} {H:Hp} {x:Str} {u:Value} {pos:Pos} {Q:Value→Shared→Prop} (I:Inv X pins σ H s) (hg:Gl X x) (hm:X.mg x=none) (hv:bootBuiltins x=some u) (h:Q u s)
    (hn:x≠"__name__":=by decide) (hd:(x == ("__debug__":Str))=false:=by decide):wpAny (model X.prog X.w) X.A (eval (.Name x pos) X.env) Q E s:=by
  obtain ⟨mb,h1,h2⟩:=I.mod.blt
  exact Calls.Name_function_global I.ok.kind hg (Calls.loadGlobal_builtin (by rw [I.ok.glob]; exact I.mod.glob.keeps I.bk) hm (by rw [I.ok.blt]; exact h1.keeps I.bk) ((h2 x hn).trans hv) h) hd
theorem pe_glob {x:Str} {v:V} {u:Value} {pos:Pos} (hg:Gl X x) (hm:X.mg x=some u) (r:RelV v u) (hd:(x == ("__debug__":Str))=false:=by decide):PE X (.Name x pos) (tC v):=
  fun _ _ _ H _ I h=>ld_glob I hg hm ⟨v,H,I,r,h⟩ hd
theorem pe_bltn {x:Str} {v:V} {u:Value} {pos:Pos} (hg:Gl X x) (hm:X.mg x=none) (hv:bootBuiltins x=some u) (r:RelV v u) (hn:x≠"__name__":=by decide) (hd:(x == ("__debug__":Str))=false:=by decide):PE X (.Name x pos) (tC v):=
  fun _ _ _ H _ I h=>ld_blt I hg hm hv ⟨v,H,I,r,h⟩ hn hd
def t2I (ta tb:TE) (k:Int→Int→Hp→Prop):St→Hp→Prop:=fun σ H=>ta σ H fun x H1=>tb σ H1 fun y H2=>∃ i j,x=.int i∧y=.int j∧k i j H2
def tAdd (ta tb:TE):TE:=fun σ H Q=>t2I ta tb (fun i j H2=>Q (.int (i + j)) H2) σ H
def tSub (ta tb:TE):TE:=fun σ H Q=>t2I ta tb (fun i j H2=>Q (.int (i - j)) H2) σ H
def tMul (ta tb:TE):TE:=fun σ H Q=>t2I ta tb (fun i j H2=>(-(2 ^ 64) < i∧i < 2 ^ 64)∧Q (.int (i * j)) H2) σ H
variable {a b:Expr} {ta tb:TE} {pos:Pos}
def PC (X:Cx) (op:CmpOp) (a b:Expr) (t:TE):Prop:=
  ∀ (pins:List (Addr×Obj)) (s:Shared) (σ:St) (H:Hp) (Q:VK),Inv X pins σ H s→t σ H Q →
    wpAny (model X.prog X.w) X.A (eval a X.env) (fun v s₁=>wpAny (model X.prog X.w) X.A (eval b X.env) (fun u s₂=>wpAny (model X.prog X.w) X.A (compareOp op v u) (EP X pins σ Q) X.xe s₂) X.xe s₁) X.xe s
def tCmp (p:Int→Int→Bool) (ta tb:TE):TE:=fun σ H Q=>t2I ta tb (fun i j H2=>Q (.bl (p i j)) H2) σ H
abbrev tLt:TE→TE→TE:=tCmp fun i j=>decide (i < j)
abbrev tLe:TE→TE→TE:=tCmp fun i j=>decide (i≤j)
abbrev tGt:TE→TE→TE:=tCmp fun i j=>decide (j < i)
abbrev tGe:TE→TE→TE:=tCmp fun i j=>decide (j≤i)
abbrev tEqI:TE→TE→TE:=tCmp fun i j=>decide (i=j)
abbrev tNeI:TE→TE→TE:=tCmp fun i j=>!decide (i=j)
def tIsN (ta:TE):TE:=fun σ H Q=>ta σ H fun x H1=>Q (.bl (decide (x=.non))) H1
def tNotN (ta:TE):TE:=fun σ H Q=>ta σ H fun x H1=>Q (.bl (!decide (x=.non))) H1
def tB (t:TE):TT:=fun σ H Q=>t σ H fun x H1=>∃ c,x=.bl c∧Q c H1
theorem pt_cmp {op:CmpOp} {t:TE} (h:PC X op a b t) (h1:behindInMarks op b=false:=by first | exact nobehind _ (by decide) (by decide) | rfl):PT X (.Compare a [op] [b] pos) (tB t):=by
  intro pins s σ H Q I hw
  refine wpAny_isTrue_Compare1 (thn (h pins s σ H _ I hw) fun v s1 h1=>thn h1 fun u s2 h2=>thn h2 fun c s3 ⟨x,H1,I1,r1,q1⟩=>?_) h1
  obtain ⟨d,rfl,q⟩:=q1
  cases r1
  exact wpAny_truthy_bool ⟨H1,I1,q⟩
theorem pt_val {e:Expr} {t:TE} (h:PE X e t) (he:∀ whole,isTrue e X.env whole=(do let v ← whole; standAt e.pos; holding [v] (truthy v)):=by intro _; rfl):PT X e (tB t):=by
  intro pins s σ H Q I hw
  refine isTrue_plain (thn (h pins s σ H _ I hw) fun v s1 ⟨x,H1,I1,r1,q1⟩=>?_) (he _)
  obtain ⟨d,rfl,q⟩:=q1
  cases r1
  exact wpAny_truthy_bool ⟨H1,I1,q⟩
variable {tA tB':TT} {rest:List Expr}
def tAnd (t u:TT):TT:=fun σ H Q=>t σ H fun c H1=>if c=true then u σ H1 Q else Q false H1
def tOr (t u:TT):TT:=fun σ H Q=>t σ H fun c H1=>if c=true then Q true H1 else u σ H1 Q
def tNot (t:TT):TT:=fun σ H Q=>t σ H fun c H1=>Q (!c) H1
theorem pw_and1 (ha:PT X a tA):PW X (.BoolOp .And [a] pos) tA:=by
  intro wh pins s σ H Q I h
  refine isTrue_and (thn (ha pins s σ H Q I h) fun c s1 e=>?_)
  cases c with
  | true=>exact isTrue_and_nil e
  | false=>exact e
theorem pw_or1 (ha:PT X a tA):PW X (.BoolOp .Or [a] pos) tA:=by
  intro wh pins s σ H Q I h
  refine isTrue_or (thn (ha pins s σ H Q I h) fun c s1 e=>?_)
  cases c with
  | false=>exact isTrue_or_nil e
  | true=>exact e
theorem pw_and (ha:PT X a tA) (hb:PW X (.BoolOp .And (b :: rest) pos) tB'):PW X (.BoolOp .And (a :: b :: rest) pos) (tAnd tA tB'):=by
  intro wh pins s σ H Q I h
  refine isTrue_and (thn (ha pins s σ H _ I h) fun c s1 ⟨H1,I1,q1⟩=>?_)
  cases c with
  | true=>exact hb wh pins s1 σ H1 Q I1 q1
  | false=>exact ⟨H1,I1,q1⟩
theorem pw_or (ha:PT X a tA) (hb:PW X (.BoolOp .Or (b :: rest) pos) tB'):PW X (.BoolOp .Or (a :: b :: rest) pos) (tOr tA tB'):=by
  intro wh pins s σ H Q I h
  refine isTrue_or (thn (ha pins s σ H _ I h) fun c s1 ⟨H1,I1,q1⟩=>?_)
  cases c with
  | true=>exact ⟨H1,I1,q1⟩
  | false=>exact hb wh pins s1 σ H1 Q I1 q1
theorem pt_not (ha:PT X a tA):PT X (.UnaryOp .Not a pos) (tNot tA):=by
  intro pins s σ H Q I h
  exact isTrue_not (ha pins s σ H (fun c H1=>Q (!c) H1) I h)
def tAndV (ta tb:TE):TE:=fun σ H Q=>ta σ H fun x H1=>∃ c,x=.bl c∧if c=true then tb σ H1 Q else Q (.bl false) H1
def tOrV (ta tb:TE):TE:=fun σ H Q=>ta σ H fun x H1=>∃ c,x=.bl c∧if c=true then Q (.bl true) H1 else tb σ H1 Q
def tNotV (ta:TE):TE:=fun σ H Q=>ta σ H fun x H1=>∃ c,x=.bl c∧Q (.bl (!c)) H1
theorem pe_one {op} {t:TE} (h:PE X a t):PE X (.BoolOp op [a] pos) t:=fun pins s σ H Q I hw=>BoolOp_one (h pins s σ H Q I hw)
theorem pe_and (ha:PE X a ta) (hb:PE X (.BoolOp .And (b :: rest) pos) tb):PE X (.BoolOp .And (a :: b :: rest) pos) (tAndV ta tb):=by
  intro pins s σ H Q I h
  refine BoolOp_and (thn (ha pins s σ H _ I h) fun v s1 ⟨x,H1,I1,r1,q1⟩=>?_)
  obtain ⟨c,rfl,q1⟩:=q1
  cases r1
  refine wpAny_truthy_bool ?_
  cases c with
  | true=>exact hb pins s1 σ H1 Q I1 q1
  | false=>exact ⟨.bl false,H1,I1,rfl,q1⟩
theorem pe_not (ha:PE X a ta):PE X (.UnaryOp .Not a pos) (tNotV ta):=by
  intro pins s σ H Q I h
  refine UnaryOp_ (thn (ha pins s σ H _ I h) fun v s1 ⟨x,H1,I1,r1,q1⟩=>?_)
  obtain ⟨c,rfl,q1⟩:=q1
  cases r1
  exact not_of (wpAny_truthy_bool ⟨.bl (!c),H1,I1,rfl,q1⟩)
def tIf (t:TT) (ta tb:TE):TE:=fun σ H Q=>t σ H fun c H1=>if c=true then ta σ H1 Q else tb σ H1 Q
theorem pe_ifExp {c:Expr} (hc:PT X c tA) (ha:PE X a ta) (hb:PE X b tb):PE X (.IfExp c a b pos) (tIf tA ta tb):=by
  intro pins s σ H Q I h
  refine wpAny_IfExp (thn (hc pins s σ H _ I h) fun d s1 ⟨H1,I1,q1⟩=>?_)
  cases d with
  | true=>exact ha pins s1 σ H1 Q I1 q1
  | false=>exact hb pins s1 σ H1 Q I1 q1
end
end L2
namespace L2
open PySem PySem.Spec PyProof.Rows
def SqL (K:PySem.W.Frag) (H:Hp) (a:Addr) (xs:List V):Prop:=
  Rd H a (.lst xs) ∨
    ∃ (o:Obj) (its:Array Value) (n:Nat),K.lookup a=some o∧o.cls=.type "list"∧o.dict=none∧o.data=.seq its n∧its.size≤sizeLine∧Vals xs its.toList
def SqT (K:PySem.W.Frag) (H:Hp) (a:Addr) (xs:List V):Prop:=
  Rd H a (.tup xs) ∨
    ∃ (o:Obj) (its:Array Value) (n:Nat),K.lookup a=some o∧o.cls=.type "tuple"∧o.data=.seq its n∧its.size≤sizeLine∧Vals xs its.toList
def absV:Value→Option V
  | .none=>some .non
  | .bool b=>some (.bl b)
  | .int i _=>some (.int i)
  | .str x _=>some (.str x)
  | .bytes b _=>some (.byt b)
  | .float b _=>some (.flt b)
  | .ref a=>some (.ref a)
  | .type n=>some (.ty n)
  | _=>none
theorem RelV.abs {x:V} {u:Value} (r:RelV x u):absV u=some x:=by
  cases x with
  | non=>cases r; rfl
  | bl _=>cases r; rfl
  | int _=>obtain ⟨t,rfl⟩:=r; rfl
  | str _=>obtain ⟨t,rfl⟩:=r; rfl
  | byt _=>obtain ⟨t,rfl⟩:=r; rfl
  | flt _=>obtain ⟨t,rfl⟩:=r; rfl
  | ref _=>cases r; rfl
  | ty _=>cases r; rfl
theorem RelV.inj {x y:V} {u:Value} (r:RelV x u) (q:RelV y u):x=y:=Option.some.inj (r.abs.symm.trans q.abs)
theorem Vals.inj:∀ {xs ys:List V} {us:List Value},Vals xs us→Vals ys us→xs=ys
  | _,_,_,.nil,.nil=>rfl
  | _,_,_,.cons r t,.cons r' t'=>by rw [r.inj r',Vals.inj t t']
section
variable {X:Cx} {pins:List (Addr×Obj)} {σ:St} {H:Hp} {s:Shared} {a:Addr} {xs ys:List V}
theorem SqL.of {K:PySem.W.Frag} (h:H a=some (.lst xs)):SqL K H a xs:=.inl (.inl h)
theorem SqT.of {K:PySem.W.Frag} (h:H a=some (.tup xs)):SqT K H a xs:=.inl (.inl h)
theorem Inv.list (I:Inv X pins σ H s) (h:SqL X.K H a xs):∃ its:List Value,Vals xs its∧PlainL s.heap a its.toArray∧xs.length≤sizeLine:=by
  rcases h with h | ⟨o,its,n,hk,hc,hd,hs,hz,r⟩
  · obtain ⟨z,its,n,r,e⟩:=h.ok I.hok
    exact ⟨its,r,⟨_,n,e,rfl,rfl,rfl⟩,z⟩
  · refine ⟨its.toList,r,⟨o,n,I.kIn a o hk,hc,hd,by simpa using hs⟩,?_⟩
    have e:=r.length
    simp only [Array.length_toList] at e
    omega
theorem Inv.tuple (I:Inv X pins σ H s) (h:SqT X.K H a xs):∃ its:List Value,Vals xs its∧IsTup s.heap a its.toArray∧xs.length≤sizeLine:=by
  rcases h with h | ⟨o,its,n,hk,hc,hs,hz,r⟩
  · obtain ⟨z,its,r,p⟩:=h.ok I.hok
    exact ⟨its,r,p,z⟩
  · refine ⟨its.toList,r,⟨o,I.kIn a o hk,hc,n,by simpa using hs⟩,?_⟩
    have e:=r.length
    simp only [Array.length_toList] at e
    omega
theorem Inv.list_inj (I:Inv X pins σ H s) (h:SqL X.K H a xs) (h':SqL X.K H a ys):xs=ys:=by
  obtain ⟨its,r,⟨o,n,e,_,_,d⟩,_⟩:=I.list h
  obtain ⟨its',r',⟨o',n',e',_,_,d'⟩,_⟩:=I.list h'
  rw [e] at e'; cases e'
  rw [d] at d'
  injection d' with d1 _
  have:its=its':=by simpa using congrArg Array.toList d1
  subst this
  exact r.inj r'
end
abbrev Cx.wish (X:Cx) (E:Value→Shared→Prop):Cx:={X with xe:=E}
abbrev Cx.nox (X:Cx):Cx:=X.wish fun _ _=>False
theorem Cx.Ok.wish {X:Cx} (ok:X.Ok) (E:Value→Shared→Prop):(X.wish E).Ok:=
  ⟨ok.mod,ok.kind,ok.glob,ok.blt,ok.above,ok.inj,ok.has,ok.cab,ok.hd,ok.frames,ok.stk,ok.exf,ok.bs,ok.bsz,ok.noex,ok.exfs,ok.funs,ok.frf⟩
theorem Cx.Ok.unwish {X:Cx} {E:Value→Shared→Prop} (ok:(X.wish E).Ok):X.Ok:=
  ⟨ok.mod,ok.kind,ok.glob,ok.blt,ok.above,ok.inj,ok.has,ok.cab,ok.hd,ok.frames,ok.stk,ok.exf,ok.bs,ok.bsz,ok.noex,ok.exfs,ok.funs,ok.frf⟩
section
variable {X:Cx} {pins:List (Addr×Obj)} {σ:St} {H:Hp} {s:Shared} {E:Value→Shared→Prop}
theorem Inv.wish (I:Inv X pins σ H s) (E:Value→Shared→Prop):Inv (X.wish E) pins σ H s:=⟨I.ok.wish E,I.os,I.bare,I.base,I.loc,I.cell,I.free,I.freeC,I.pin,I.hok,I.len⟩
theorem Inv.unwish (I:Inv (X.wish E) pins σ H s):Inv X pins σ H s:=⟨I.ok.unwish,I.os,I.bare,I.base,I.loc,I.cell,I.free,I.freeC,I.pin,I.hok,I.len⟩
theorem SP.unwish {D:Ends} {f:Flow} {s':Shared} (h:SP (X.wish E) pins D f s'):SP X pins D f s':=by
  cases f with
  | next=>obtain ⟨σ',H',I,q⟩:=h; exact ⟨σ',H',I.unwish,q⟩
  | brk=>obtain ⟨σ',H',I,q⟩:=h; exact ⟨σ',H',I.unwish,q⟩
  | cont=>obtain ⟨σ',H',I,q⟩:=h; exact ⟨σ',H',I.unwish,q⟩
  | ret u=>obtain ⟨v,σ',H',I,r,q⟩:=h; exact ⟨v,σ',H',I.unwish,r,q⟩
theorem PSs.nox {st:List Stmt} {t:TS} (h:PSs X.nox st t):PSs X st t:=fun pins s σ H D I hw =>
  wpAny_mono (h pins s σ H D (I.wish _) hw) (fun _ _ q=>q.unwish) fun _ _ z=>False.elim z
end
section
variable {X:Cx} {st:Stmt} {rest:List Stmt} {t u:TS} {e:Expr} {te:TE} {pos:Pos}
def tNext:TS:=fun D σ H=>D.nx σ H
def tSeq (t u:TS):TS:=fun D σ H=>t {D with nx:=u D} σ H
theorem pss_nil:PSs X [] tNext:=fun _ _ σ H _ I h=>wpAny_execs_nil ⟨σ,H,I,h⟩
theorem pss_cons (h1:PS X st t) (h2:PSs X rest u):PSs X (st :: rest) (tSeq t u):=by
  intro pins s σ H D I h
  refine wpAny_execs_cons (thn (h1 pins s σ H {D with nx:=u D} I h) fun f s1 q=>?_)
  cases f with
  | next =>
    obtain ⟨σ',H',I',q⟩:=q
    exact h2 pins s1 σ' H' D I' q
  | ret v=>exact q
  | brk=>exact q
  | cont=>exact q
theorem pss_one (h1:PS X st t):PSs X [st] t:=by
  intro pins s σ H D I h
  refine wpAny_execs_cons (thn (h1 pins s σ H D I h) fun f s1 q=>?_)
  cases f with
  | next=>exact wpAny_execs_nil q
  | ret v=>exact q
  | brk=>exact q
  | cont=>exact q
def tBreak:TS:=fun D σ H=>D.bk σ H
def tCont:TS:=fun D σ H=>D.ct σ H
theorem Inv.quiet {pins:List (Addr×Obj)} {σ:St} {H:Hp} {s:Shared} (I:Inv X pins σ H s):interactive X.env=false:=by simp [interactive,I.ok.kind]
def tDrop (te:TE):TS:=fun D σ H=>te σ H fun _ H1=>D.nx σ H1
theorem ps_expr (he:PE X e te) (hs:swapsWith e none pos.line X.env=pure false:=by rfl):PS X (.Expr e pos) (tDrop te):=by
  intro pins s σ H D I h
  exact wpAny_Expr_any (thn (he pins s σ H _ I h) fun v s1 ⟨x,H1,I1,r1,q1⟩=>⟨σ,H1,I1,q1⟩) I.quiet hs
def tRet (te:TE):TS:=fun D σ H=>te σ H D.rt
theorem ps_ret (he:PE X e te):PS X (.Return (some e) pos) (tRet te):=by
  intro pins s σ H D I h
  exact wpAny_Return_some (thn (he pins s σ H _ I h) fun v s1 ⟨x,H1,I1,r1,q1⟩=>⟨x,σ,H1,I1,r1,q1⟩)
def tRetN:TS:=fun D _ H=>D.rt .non H
def tIfS (c:TT) (t u:TS):TS:=fun D σ H=>c σ H fun b H1=>if b=true then t D σ H1 else u D σ H1
theorem ps_if {c:Expr} {a b:List Stmt} {tc:TT} (hc:PT X c tc) (ha:PSs X a t) (hb:PSs X b u):PS X (.If c a b pos) (tIfS tc t u):=by
  intro pins s σ H D I h
  refine wpAny_If (thn (hc pins s σ H _ I h) fun d s1 ⟨H1,I1,q1⟩=>?_)
  cases d with
  | true=>exact ha pins s1 σ H1 D I1 q1
  | false=>exact hb pins s1 σ H1 D I1 q1
def tNever:TS:=fun _ _ _=>False
end
abbrev TG:=V→St→Hp→(St→Hp→Prop)→Prop
abbrev TGs:=List V→St→Hp→(St→Hp→Prop)→Prop
def PG (X:Cx) (target:Expr) (t:TG):Prop:=
  ∀ (pins:List (Addr×Obj)) (s:Shared) (σ:St) (H:Hp) (v:V) (u:Value) (Q:St→Hp→Prop),Inv X pins σ H s→RelV v u→t v σ H Q →
    wpAny (model X.prog X.w) X.A (assign target X.env u) (fun _ s'=>∃ σ' H',Inv X pins σ' H' s'∧Q σ' H') X.xe s
def PGs (X:Cx) (ts:List Expr) (t:TGs):Prop:=
  ∀ (pins:List (Addr×Obj)) (s:Shared) (σ:St) (H:Hp) (vs:List V) (us:List Value) (Q:St→Hp→Prop),Inv X pins σ H s→Vals vs us→t vs σ H Q →
    wpAny (model X.prog X.w) X.A (assignInOrder ((assignEach ts X.env).map (·.2)) us) (fun _ s'=>∃ σ' H',Inv X pins σ' H' s'∧Q σ' H') X.xe s
abbrev TSet:=V→V→V→Hp→(Hp→Prop)→Prop
def PSet (X:Cx) (t:TSet):Prop:=
  ∀ (pins:List (Addr×Obj)) (s:Shared) (σ:St) (H:Hp) (o i v:V) (ov iv u:Value) (Q:Hp→Prop),Inv X pins σ H s→RelV o ov→RelV i iv→RelV v u→t o i v H Q →
    wpAny (model X.prog X.w) X.A (setItem ov iv u) (fun _ s'=>∃ H',Inv X pins σ H' s'∧Q H') X.xe s
abbrev TIp:=V→V→Hp→VK→Prop
def PIp (X:Cx) (op:Operator) (t:TIp):Prop:=
  ∀ (pins:List (Addr×Obj)) (s:Shared) (σ:St) (H:Hp) (x y:V) (v u:Value) (Q:VK),Inv X pins σ H s→RelV x v→RelV y u→t x y H Q →
    wpAny (model X.prog X.w) X.A (inplaceOp op v u) (EP X pins σ Q) X.xe s
section
variable {X:Cx} {pos:Pos}
def gName (i:Nat):TG:=fun v σ H Q=>Q (σ.set i (some v)) H
theorem pg_name {i:Nat} {x:Str} (hN:X.N.Nodup) (hi:X.N[i]?=some x) (hx:Loc X.env.scope x) (hf:X.fn x=true∨X.env.scope.names.lookup x=some .local:=by first | exact .inl rfl | exact .inr rfl | assumption):PG X (.Name x pos) (gName i):=by
  intro pins s σ H v u Q I r h
  exact wpAny_assign_Name (store_ok I hN hi hx r (fun s' I'=>⟨_,H,I',h⟩) hf)
def gNil:TGs:=fun vs σ H Q=>vs=[]∧Q σ H
def gCons (t:TG) (u:TGs):TGs:=fun vs σ H Q=>∃ v r,vs=v :: r∧t v σ H fun σ' H'=>u r σ' H' Q
theorem pgs_nil:PGs X [] gNil:=by
  intro pins s σ H vs us Q I r h
  obtain ⟨e,h⟩:=h
  subst e
  cases r
  exact assignInOrder_nil ⟨σ,H,I,h⟩
theorem pgs_cons {e:Expr} {es:List Expr} {t:TG} {u:TGs} (h1:PG X e t) (h2:PGs X es u)
    (hs:(assignEach (e :: es) X.env).map (·.2)=assign e X.env :: (assignEach es X.env).map (·.2):=by rfl):PGs X (e :: es) (gCons t u):=by
  intro pins s σ H vs us Q I r h
  obtain ⟨v,vr,e1,h⟩:=h
  subst e1
  cases r with
  | cons r rr =>
    rw [hs]
    refine assignInOrder_cons (thn (h1 pins s σ H _ _ _ I r h) fun _ s1 ⟨σ1,H1,I1,q1⟩=>?_)
    exact h2 pins s1 σ1 H1 _ _ Q I1 rr q1
def gTup (K:PySem.W.Frag) (n:Nat) (t:TGs):TG:=fun v σ H Q=>∃ a xs,v=.ref a∧SqT K H a xs∧xs.length=n∧t xs σ H Q
theorem pg_tup {es:List Expr} {k:Nat} {t:TGs} {n:Nat} (hc:X.calm=true) (h:PGs X es t)
    (hn:(assignEach es X.env).length=n:=by rfl) (hst:(assignEach es X.env).findIdx? (·.1)=none:=by rfl):PG X (.Tuple es k pos) (gTup X.K n t):=by
  intro pins s σ H v u Q I r hw
  obtain ⟨a,xs,e1,hq,hl,hw⟩:=hw
  subst e1
  cases r
  obtain ⟨its,rv,ht,hz⟩:=I.tuple hq
  refine assign_Tuple_tuple (I.ok.hd hc) ht (by simp [hn,← hl,rv.length]) hst fun h' hx=>?_
  have I1:Inv X pins σ H {s with heap:=h'}:=I.kept (t':=s.toks) fun b o e=>hx b o (Nat.ne_of_lt (Heap.lt_size e)) e
  exact h pins _ σ H xs _ Q I1 (by simpa using rv) hw
def gSub (to ti:TE) (t:TSet):TG:=fun v σ H Q=>to σ H fun o H1=>ti σ H1 fun i H2=>t o i v H2 fun H3=>Q σ H3
theorem pg_sub {o i:Expr} {to ti:TE} {t:TSet} (ho:PE X o to) (hi:PE X i ti) (hs:PSet X t)
    (ha:∀ v,assign (.Subscript o i pos) X.env v=(do
      let ov ← holding [v] (eval o X.env)
      let iv ← holding [v,ov] (eval i X.env)
      standAt pos
      holding [v,ov,iv] (setItem ov iv v)
      release [v,ov,iv] []):=by intro _; rfl):PG X (.Subscript o i pos) (gSub to ti t):=by
  intro pins s σ H v u Q I r h
  rw [ha]
  refine wpAny_bind (wpAny_holding (thn (ho pins s σ H _ I h) fun ov s1 ⟨x,H1,I1,r1,q1⟩=>?_))
  refine wpAny_bind (wpAny_holding (thn (hi pins s1 σ H1 _ I1 q1) fun iv s2 ⟨y,H2,I2,r2,q2⟩=>?_))
  refine wpAny_bind (wpAny_standAt (wpAny_bind (wpAny_holding (thn (hs pins s2 σ H2 x y v ov iv u _ I2 r1 r2 r q2) fun _ s3 ⟨H3,I3,q3⟩=>?_))))
  exact wpAny_release ⟨σ,H3,I3,q3⟩
def tAsg (te:TE) (g:TG):TS:=fun D σ H=>te σ H fun x H1=>g x σ H1 D.nx
theorem ps_asg {tg e:Expr} {te:TE} {g:TG} (he:PE X e te) (hg:PG X tg g) (hs:swapsWithSole [tg] e pos.line X.env=pure false:=by rfl) (hw:swappedStores [tg] e X.env=pure none:=by rfl)
    (h1:(assignEach [tg] X.env).map (·.2)=[assign tg X.env]:=by rfl):PS X (.Assign [tg] e pos) (tAsg te g):=by
  intro pins s σ H D I h
  refine wpAny_Assign_stores (thn (he pins s σ H _ I h) fun v s1 ⟨x,H1,I1,r1,q1⟩=>?_) hs hw
  rw [h1]
  exact thn (hg pins s1 σ H1 x v _ I1 r1 q1) fun _ s2 q=>q
theorem ps_set {i:Nat} {x:Str} {e:Expr} {te:TE} {pos':Pos} (hN:X.N.Nodup) (hi:X.N[i]?=some x) (hx:Loc X.env.scope x) (he:PE X e te) (hs:swapsWith e (some (.Name x pos')) pos.line X.env=pure false:=by rfl) (hf:X.fn x=true∨X.env.scope.names.lookup x=some .local:=by first | exact .inl rfl | exact .inr rfl | assumption) :
    PS X (.Assign [.Name x pos'] e pos) (tAsg te (gName i)):=by
  intro pins s σ H D I h
  refine wpAny_Assign_Name (thn (he pins s σ H _ I h) fun v s1 ⟨y,H1,I1,r1,q1⟩=>?_) hs
  exact store_ok I1 hN hi hx r1 (fun s2 I2=>⟨_,H1,I2,q1⟩) hf
def tPar (i j:Nat) (ta:TA):TS:=fun D σ H=>ta σ H fun vs H1=>∃ v w,vs=[v,w]∧D.nx ((σ.set i (some v)).set j (some w)) H1
def tAug (i:Nat) (te:TE) (ti:TIp):TS:=fun D σ H=>∃ x,σ[i]?=some (some x)∧te σ H fun y H1=>ti x y H1 fun z H2=>D.nx (σ.set i (some z)) H2
def tAugS (to ti te:TE) (tget:V→V→Hp→VK→Prop) (tip:TIp) (tset:TSet):TS:=fun D σ H=>to σ H fun o H1=>ti σ H1 fun i H2=>tget o i H2 fun x H3=>te σ H3 fun y H4=>tip x y H4 fun z H5=>tset o i z H5 fun H6=>D.nx σ H6
def PGet (X:Cx) (t:V→V→Hp→VK→Prop):Prop:=
  ∀ (pins:List (Addr×Obj)) (s:Shared) (σ:St) (H:Hp) (o i:V) (ov iv:Value) (Q:VK),Inv X pins σ H s→RelV o ov→RelV i iv→t o i H Q →
    wpAny (model X.prog X.w) X.A (getItem ov iv) (EP X pins σ Q) X.xe s
def ipI (f:Int→Int→Int):TIp:=fun x y H Q=>∃ i j,x=.int i∧y=.int j∧Q (.int (f i j)) H
end
section
variable {X:Cx} {pos:Pos}
def tWhile (c:TT) (tb:TS):TS:=fun D σ H=>∃ W:Nat→St→Hp→Prop,(∃ m,W m σ H)∧∀ m σ H,W m σ H →
  c σ H fun b H1=>if b=true then ∃ N:St→Hp→Prop,(∀ σ' H',N σ' H'→∃ m',m' < m∧W m' σ' H')∧tb {D with nx:=N,ct:=N,bk:=D.nx} σ H1 else D.nx σ H1
end
structure It where
  go:Nat→Hp→Prop
  yld:Nat→Hp→V→Hp→Prop
  stop:Nat→Hp→Prop
def FpOk (X:Cx) (pins:List (Addr×Obj)) (H:Hp) (b:Addr):Prop:=
  H b=none∧b≠X.env.locals∧b∉X.fs∧(b∈X.ex∨X.s₀.heap.objs.size≤b)∧(∀ x c,X.env.cells.lookup x=some c→c≠b)∧∀ p∈X.pn++pins,p.1≠b
theorem Inv.fpOk {X:Cx} {pins:List (Addr×Obj)} {σ:St} {H H':Hp} {s:Shared} {b:Addr} (I:Inv X pins σ H s) (hb:s.heap.objs.size≤b) (hn:H' b=none):FpOk X pins H' b:=by
  refine ⟨hn,Nat.ne_of_gt (Nat.lt_of_lt_of_le I.lt hb),I.nofs hb,.inr (Nat.le_trans I.sz hb),fun x c e z=>?_,fun p hp z=>?_⟩
  · obtain ⟨v,q⟩:=I.cell x c e
    exact absurd (Nat.lt_of_lt_of_le q.lt (by rw [z]; exact hb)) (Nat.lt_irrefl _)
  · exact absurd (Nat.lt_of_lt_of_le (Heap.lt_size (I.pin p hp).1) (by rw [z]; exact hb)) (Nat.lt_irrefl _)
structure Turn (P:Program) (w:World) (K:PySem.W.Frag) (tg:Expr) (J:It) (fp:List Addr) (it:Addr) (tn:Nat→Heap→Prop):Prop where
  mem:it∈fp
  obj:∀ i h,tn i h→∀ b∈fp,∃ o,h.get? b=some o∧∀ v,o.data≠.cell v
  keep:∀ i h h',tn i h→(∀ b∈fp,∀ o,h.get? b=some o→h'.get? b=some o)→tn i h'
  item:∀ (X:Cx),X.prog=P→X.w=w→X.K=K→X.calm=true→∀ (i:Nat) (pins:List (Addr×Obj)) (s:Shared) (σ:St) (H:Hp) (E:Value→Shared→Prop),Inv X pins σ H s→(∀ b∈fp,FpOk X pins H b)→tn i s.heap→J.go i H →
    wpAny (model P w) X.A (pyNext (.ref it)) (fun r s1=>∃ u,r=some u ∧
      wpAny (model P w) X.A (letOwnedTupleGo tg (.ref it) u) (fun _ s2=>∃ x H',Inv X pins σ H' s2∧RelV x u∧J.yld i H x H'∧tn (i + 1) s2.heap∧∀ b∈fp,H' b=none) E s1) E s
  done:∀ (X:Cx),X.prog=P→X.w=w→X.K=K→X.calm=true→∀ (i:Nat) (pins:List (Addr×Obj)) (s:Shared) (σ:St) (H:Hp) (E:Value→Shared→Prop),Inv X pins σ H s→(∀ b∈fp,FpOk X pins H b)→tn i s.heap→J.stop i H →
    wpAny (model P w) X.A (pyNext (.ref it)) (fun r s1=>r=none∧Inv X pins σ H s1) E s
  self:∀ (A:Around) (i:Nat) (s:Shared) (Q:Value→Shared→Prop) (E:Value→Shared→Prop),tn i s.heap→Q (.ref it) s→wpAny (model P w) A (pyIter (.ref it)) Q E s
abbrev TI:=St→Hp→(It→Hp→Prop)→Prop
def PIE (X:Cx) (pins:List (Addr×Obj)) (σ:St) (tg:Expr) (R:It→Hp→Prop) (itv:Value) (s2:Shared):Prop:=
  ∃ (it:Addr) (fp:List Addr) (tn:Nat→Heap→Prop) (J:It) (H':Hp),itv=.ref it∧Inv X pins σ H' s2∧Turn X.prog X.w X.K tg J fp it tn∧tn 0 s2.heap∧(∀ b∈fp,FpOk X pins H' b)∧R J H'
def PI (X:Cx) (tg iter:Expr) (wi:TI):Prop:=
  ∀ (pins:List (Addr×Obj)) (s:Shared) (σ:St) (H:Hp) (R:It→Hp→Prop),Inv X pins σ H s→wi σ H R →
    wpAny (model X.prog X.w) X.A (eval iter X.env) (fun v s1=>wpAny (model X.prog X.w) X.A (pyIter v) (PIE X pins σ tg R) X.xe s1) X.xe s
theorem go_of {M:Model} {A:Around} {E:Value→Shared→Prop} {s:Shared} {tg:Expr} {it:Addr} {u:Value} {o:Obj} {n:String} {vs:Array Value} {Q:Unit→Shared→Prop} (ho:s.heap.get? it=some o) (hc:o.cls=.type n) (hd:o.data=.fields vs)
    (hn:["enumerate","zip","dict_itemiterator","dict_reverseitemiterator","odict_iterator","itertools.zip_longest","itertools.pairwise"].contains n=false) (hQ:Q () s):wpAny M A (letOwnedTupleGo tg (.ref it) u) Q E s:=by
  unfold letOwnedTupleGo
  cases tg <;> first
    | exact wpAny_pure hQ
    | (cases u <;> first
        | exact wpAny_pure hQ
        | (refine wpAny_bind (wpAny_load ho ?_)
           rw [hc,hd]
           show wpAny M A (if (["enumerate","zip","dict_itemiterator","dict_reverseitemiterator","odict_iterator","itertools.zip_longest","itertools.pairwise"].contains n && vs[0]? == some (rawInt _))=true then _ else _) Q E s
           rw [if_neg (by intro h; rw [hn,Bool.false_and] at h; cases h)]
           exact wpAny_pure hQ))
def Itl (K:PySem.W.Frag) (a:Addr):It:=
  ⟨fun i H=>∃ xs x,SqL K H a xs∧xs[i]?=some x,fun i H x H'=>H'=H∧∀ xs,SqL K H a xs→xs[i]?=some x,fun i H=>∃ xs,SqL K H a xs∧xs.length≤i⟩
def Itt (K:PySem.W.Frag) (a:Addr):It:=
  ⟨fun i H=>∃ xs x,SqT K H a xs∧xs[i]?=some x,fun i H x H'=>H'=H∧∀ xs,SqT K H a xs→xs[i]?=some x,fun i H=>∃ xs,SqT K H a xs∧xs.length≤i⟩
def Itr (lo:Int) (n:Nat):It:=⟨fun i _=>i < n,fun i H x H'=>H'=H∧x=.int (lo + i),fun i _=>n≤i⟩
theorem turn_list {P:Program} {w:World} {K:PySem.W.Frag} {tg:Expr} (a it:Addr):Turn P w K tg (Itl K a) [it] it (fun i h=>h.IsListIter it a i) where
  mem:=by simp
  obj:=fun i h st b hb=>by
    have e:b=it:=by simpa using hb
    subst e
    obtain ⟨o,e,c,d⟩:=st
    exact ⟨o,e,fun v z=>by rw [d] at z; cases z⟩
  keep:=fun i h h' st k=>st.at fun o e=>k it (by simp) o e
  item:=by
    intro X hP hw hK hc i pins s σ H E I hf st hg
    subst hP hw hK
    obtain ⟨xs,x,hq,hx⟩:=hg
    obtain ⟨its,rv,p,hz⟩:=I.list hq
    obtain ⟨u,hu,ru⟩:=rv.get hx
    obtain ⟨f0,f1,f2,f3,f4,f5⟩:=hf it (by simp)
    refine wpAny_pyNext_list_item st p.isList (x:=u) (by simpa using hu) fun h' st' sb=>?_
    have I1:Inv X pins σ H {s with heap:=h'}:=I.turned (t':=s.toks) (fun b o hb e=>(sb.2 b hb).trans e) f0 f1 f3 f4 f5
    obtain ⟨o,e,c,d⟩:=id st'
    exact ⟨u,rfl,go_of (s:={s with heap:=h'}) e c d (by decide) ⟨x,H,I1,ru,⟨rfl,fun ys hy=>by rw [I.list_inj hy hq]; exact hx⟩,st',fun b hb=>(hf b hb).1⟩⟩
  done:=by
    intro X hP hw hK hc i pins s σ H E I hf st hg
    subst hP hw hK
    obtain ⟨xs,hq,hx⟩:=hg
    obtain ⟨its,rv,p,hz⟩:=I.list hq
    obtain ⟨f0,f1,f2,f3,f4,f5⟩:=hf it (by simp)
    have hl:=rv.length
    exact wpAny_pyNext_list_end (I.ok.hd hc) st p.isList (by simp; omega) fun h' eb=>⟨rfl,I.turned (t':=s.toks) (fun b o hb e=>eb b o hb e) f0 f1 f3 f4 f5⟩
  self:=fun _ _ _ _ _ st h=>wpAny_pyIter_listiter st h
theorem turn_range {P:Program} {w:World} {K:PySem.W.Frag} {tg:Expr} (it:Addr) (lo:Int) (n:Nat):Turn P w K tg (Itr lo n) [it] it (fun i h=>IsRangeIter h it (lo + (i:Nat) * 1) ((n:Int) - (i:Nat)) 1) where
  mem:=by simp
  obj:=fun i h st b hb=>by
    have e:b=it:=by simpa using hb
    subst e
    exact ⟨_,st,fun v z=>by
      have z':Data.fields _=Data.cell v:=z
      cases z'⟩
  keep:=fun i h h' st k=>k it (by simp) _ st
  item:=by
    intro X hP hw hK hc i pins s σ H E I hf st hg
    subst hP hw hK
    obtain ⟨f0,f1,f2,f3,f4,f5⟩:=hf it (by simp)
    have W:=Walks.range (prog:=X.prog) (w:=X.w) (I.ok.hd hc) it lo 1 n
    refine W.item i s _ _ hg st fun v h' tk hv st' kk=>?_
    obtain ⟨t,rfl⟩:=hv
    have I1:Inv X pins σ H {s with heap:=h',toks:=tk}:=I.turned (fun b o hb e=>kk b o (by simpa using hb) e) f0 f1 f3 f4 f5
    refine ⟨_,rfl,go_of (s:={s with heap:=h',toks:=tk}) (n:="range_iterator") st' rfl rfl (by decide) ⟨.int (lo + i),H,I1,⟨t,?_⟩,⟨rfl,rfl⟩,st',fun b hb=>(hf b hb).1⟩⟩
    rw [Int.mul_one]
  done:=by
    intro X hP hw hK hc i pins s σ H E I hf st hg
    subst hP hw hK
    obtain ⟨f0,f1,f2,f3,f4,f5⟩:=hf it (by simp)
    exact wpAny_pyNext_range_end (I.ok.hd hc) st (by have:n≤i:=hg; omega) fun h' eb=>⟨rfl,I.turned (t':=s.toks) (fun b o hb e=>eb b o hb e) f0 f1 f3 f4 f5⟩
  self:=fun _ _ _ _ _ st h=>wpAny_pyIter_rangeiter st h
end L2
namespace L2
open PySem PySem.Spec PyProof.Rows
section
variable {X:Cx} {tg:Expr}
def iList (K:PySem.W.Frag) (tl:TE):TI:=fun σ H R=>tl σ H fun x H1=>∃ a,x=.ref a∧(∃ xs,SqL K H1 a xs)∧R (Itl K a) H1
def iTup (K:PySem.W.Frag) (tl:TE):TI:=fun σ H R=>tl σ H fun x H1=>∃ a,x=.ref a∧(∃ xs,SqT K H1 a xs)∧R (Itt K a) H1
theorem pi_list {l:Expr} {tl:TE} (hl:PE X l tl):PI X tg l (iList X.K tl):=by
  intro pins s σ H R I h
  refine thn (hl pins s σ H _ I h) fun v s1 ⟨x,H1,I1,r1,q1⟩=>?_
  obtain ⟨a,e,⟨xs,hq⟩,q⟩:=q1
  subst e
  cases r1
  obtain ⟨its,rv,p,hz⟩:=I1.list hq
  refine wpAny_pyIter_list p.isList ?_
  refine ⟨s1.heap.objs.size,[s1.heap.objs.size],_,_,H1,rfl,I1.kept (t':=s1.toks) fun b o e=>Heap.get?_push_of_some _ e,turn_list a _,⟨_,Heap.get?_push_size _ rfl,rfl,rfl⟩,fun b hb=>?_,q⟩
  have e:b=s1.heap.objs.size:=by simpa using hb
  subst e
  exact I1.fpOk (Nat.le_refl _) (I1.hok.fresh (Nat.le_refl _))
theorem range_it {pins:List (Addr×Obj)} {σ:St} {H:Hp} {s:Shared} {R:It→Hp→Prop} {E:Value→Shared→Prop} {lo hi:Int} {t u v:Tok} {tk:Nat} (I:Inv X pins σ H s) (h1:-(2 ^ 62)≤lo) (h2:lo < 2 ^ 62) (h3:-(2 ^ 62)≤hi) (h4:hi < 2 ^ 62)
    (q:R (Itr lo (hi - lo).toNat) H):wpAny (model X.prog X.w) X.A (pyIter (.ref s.heap.objs.size)) (PIE X pins σ tg R) E {s with heap:=s.heap.push {cls:=.type "range",data:=.fields #[.int lo t,.int hi u,.int 1 v]},toks:=tk}:=by
  refine wpAny_pyIter_range (IsRange.new ..) (small_one h1 h2 h3 h4) ?_
  have I1:Inv X pins σ H {s with heap:=s.heap.push {cls:=.type "range",data:=.fields #[.int lo t,.int hi u,.int 1 v]},toks:=tk}:=I.kept fun b o e=>Heap.get?_push_of_some _ e
  refine ⟨(s.heap.push {cls:=.type "range",data:=.fields #[.int lo t,.int hi u,.int 1 v]}).objs.size,[(s.heap.push {cls:=.type "range",data:=.fields #[.int lo t,.int hi u,.int 1 v]}).objs.size],_,_,H,rfl,
    I1.kept (t':=tk) fun b o e=>Heap.get?_push_of_some _ e,turn_range _ lo (hi - lo).toNat,?_,fun b hb=>?_,q⟩
  · have e1:lo + ((0:Nat):Int) * 1=lo:=by simp
    have e2:(((hi - lo).toNat:Nat):Int) - ((0:Nat):Int)=Builtin.Range.rangeSize lo hi 1:=by rw [rangeSize_one]; split <;> omega
    show IsRangeIter _ _ (lo + ((0:Nat):Int) * 1) ((((hi - lo).toNat:Nat):Int) - ((0:Nat):Int)) 1
    rw [e1,e2]
    exact Heap.get?_push_size _ rfl
  · have e:b=(s.heap.push {cls:=.type "range",data:=.fields #[.int lo t,.int hi u,.int 1 v]}).objs.size:=by simpa using hb
    subst e
    exact I1.fpOk (Nat.le_refl _) (I1.hok.fresh (Nat.le_refl _))
def iRng1 (ta:TA):TI:=fun σ H R=>ta σ H fun vs H1=>∃ j:Int,vs=[.int j]∧-(2 ^ 62)≤j∧j < 2 ^ 62∧R (Itr 0 j.toNat) H1
def iRng2 (ta:TA):TI:=fun σ H R=>ta σ H fun vs H1=>∃ i j:Int,vs=[.int i,.int j]∧(-(2 ^ 62)≤i∧i < 2 ^ 62∧-(2 ^ 62)≤j∧j < 2 ^ 62)∧R (Itr i (j - i).toNat) H1
theorem pi_range1 {a:Expr} {ta:TA} {p pos:Pos} (hg:Gl X "range") (hm:X.mg "range"=none) (ha:PA X [a] ta) (hs:starEach [a] X.env=[(false,eval a X.env)]:=by rfl):PI X tg (.Call (.Name "range" p) [a] [] pos) (iRng1 ta):=by
  intro pins s σ H R I h
  refine Call_ (ld_blt I hg hm boot_range (PyProof.Rows.callWith_type1 (thn (ha pos pins s σ H _ I h) fun us s1 ⟨vs,H1,I1,r1,q1⟩=>?_) hs rfl))
  obtain ⟨j,e,q1,q2,q⟩:=q1
  subst e
  cases r1 with
  | cons r rr =>
    cases rr
    obtain ⟨t,rfl⟩:=r
    exact call_range_1 (range_it I1 (by omega) (by omega) q1 q2 (by simpa using q))
theorem pi_range2 {a b:Expr} {ta:TA} {p pos:Pos} (hg:Gl X "range") (hm:X.mg "range"=none) (ha:PA X [a,b] ta) (hs:starEach [a,b] X.env=[(false,eval a X.env),(false,eval b X.env)]:=by rfl) (hs2:starEach [b] X.env=[(false,eval b X.env)]:=by rfl) :
    PI X tg (.Call (.Name "range" p) [a,b] [] pos) (iRng2 ta):=by
  intro pins s σ H R I h
  refine Call_ (ld_blt I hg hm boot_range (PyProof.Rows.callWith_type1 (thn (ha pos pins s σ H _ I h) fun us s1 ⟨vs,H1,I1,r1,q1⟩=>?_) (by rw [hs,hs2]) (by rw [hs2]; rfl)))
  obtain ⟨i,j,e,⟨q1,q2,q3,q4⟩,q⟩:=q1
  subst e
  cases r1 with
  | cons r rr =>
    cases rr with
    | cons r' rr =>
      cases rr
      obtain ⟨t,rfl⟩:=r
      obtain ⟨t',rfl⟩:=r'
      exact call_range_2 (range_it I1 q1 q2 q3 q4 q)
def tFor (wi:TI) (g:TG) (tb:TS):TS:=fun D σ H=>wi σ H fun J H1=>∃ W:Nat→Nat→St→Hp→Prop,(∃ m,W 0 m σ H1)∧∀ i m σ H,W i m σ H →
  (J.stop i H∧D.nx σ H)∨(J.go i H∧∃ N:St→Hp→Prop,(∀ σ' H',N σ' H'→∃ m',m' < m∧W (i + 1) m' σ' H')∧∀ x H',J.yld i H x H'→g x σ H' fun σ2 H2=>tb {D with nx:=N,ct:=N,bk:=D.nx} σ2 H2)
def pinsAt (fp:List Addr) (h:Heap):List (Addr×Obj):=fp.filterMap fun b=>(h.get? b).map fun o=>(b,o)
theorem mem_pinsAt {fp:List Addr} {h:Heap} {b:Addr} {o:Obj} (hb:b∈fp) (e:h.get? b=some o):(b,o)∈pinsAt fp h:=List.mem_filterMap.mpr ⟨b,hb,by rw [e]; rfl⟩
theorem of_pinsAt {fp:List Addr} {h:Heap} {p:Addr×Obj} (hp:p∈pinsAt fp h):p.1∈fp∧h.get? p.1=some p.2:=by
  obtain ⟨b,hb,e⟩:=List.mem_filterMap.mp hp
  cases q:h.get? b with
  | none=>rw [q] at e; cases e
  | some o =>
    rw [q] at e
    have e':(b,o)=p:=Option.some.inj e
    subst e'
    exact ⟨hb,q⟩
theorem Inv.pinned {pins:List (Addr×Obj)} {σ:St} {H:Hp} {s:Shared} {fp:List Addr} (I:Inv X pins σ H s) (hf:∀ b∈fp,FpOk X pins H b) (ho:∀ b∈fp,∃ o,s.heap.get? b=some o∧∀ v,o.data≠.cell v):Inv X (pins++pinsAt fp s.heap) σ H s:=
  I.pins_of fun p hp=>(List.mem_append.mp hp).elim (fun z=>I.pin p (List.mem_append_right _ z)) fun z=>by
    obtain ⟨hb,e⟩:=of_pinsAt z
    obtain ⟨f0,f1,f2,_⟩:=hf p.1 hb
    obtain ⟨o,e',d⟩:=ho p.1 hb
    rw [e] at e'; cases e'
    exact ⟨e,f0,f1,f2,d⟩
theorem Inv.unpinned {pins pl:List (Addr×Obj)} {σ:St} {H:Hp} {s:Shared} (I:Inv X (pins++pl) σ H s):Inv X pins σ H s:=I.pins_of fun p hp=>I.pin p (List.mem_append_right _ (List.mem_append_left _ hp))
theorem ps_for {iter:Expr} {body:List Stmt} {wi:TI} {g:TG} {tb:TS} {pos:Pos} (hp:PassesOwn (model X.prog X.w) X.A X.env X.xe) (hc:X.calm=true) (hi:PI X tg iter wi) (hg:PG X tg g) (hb:PSs X body tb)
    (hs:∀ x,foldedSetIterable iter X.env x=pure x:=by intro _; rfl):PS X (.For tg iter body [] pos) (tFor wi g tb):=by
  intro pins s σ H D I h
  refine wpAny_For (thn (hi pins s σ H _ I h) fun v s1 h1=>thn h1 fun itv s2 h2=>?_) hs
  obtain ⟨it,fp,tn,J,H2,e,I2,T,st2,f2,W,⟨m0,w0⟩,turn⟩:=h2
  subst e
  -- what stays true of the iterator's objects through the loop
  have stat:∀ {H':Hp},(∀ b∈fp,H' b=none)→∀ b∈fp,FpOk X pins H' b:=fun hn b hb=>⟨hn b hb,(f2 b hb).2⟩
  refine codeAny_forLoop_any (fun n s'=>∃ i σ' H',Inv X pins σ' H' s'∧tn i s'.heap∧(∀ b∈fp,H' b=none)∧W i n σ' H') ?_ m0 ⟨0,σ,H2,I2,st2,fun b hb=>(f2 b hb).1,w0⟩
  rintro n s3 ⟨i,σ3,H3,I3,st3,fr3,w3⟩
  rcases turn i n σ3 H3 w3 with ⟨stop,qn⟩ | ⟨go,N,hN,step⟩
  · refine wpAny_passesOwn hp (thn (T.done X rfl rfl rfl hc i pins s3 σ3 H3 X.xe I3 (stat fr3) st3 stop) fun r s4 ⟨hr,I4⟩=>?_)
    subst hr
    exact wpAny_execs_nil ⟨σ3,H3,I4,qn⟩
  · refine wpAny_passesOwn hp (thn (T.item X rfl rfl rfl hc i pins s3 σ3 H3 X.xe I3 (stat fr3) st3 go) fun r s4 ⟨u,hr,h4⟩=>?_)
    subst hr
    refine wpAny_passesOwn hp (thn h4 fun _ s5 ⟨x,H5,I5,r5,y5,st5,fr5⟩=>?_)
    have I5':=I5.pinned (stat fr5) (T.obj _ _ st5)
    refine wpAny_passesOwn hp (thn (hg _ s5 σ3 H5 x u _ I5' r5 (step x H5 y5)) fun _ s6 ⟨σ6,H6,I6,q6⟩=>?_)
    refine wpAny_passesOwn hp (thn (hb _ s6 σ6 H6 _ I6 q6) fun f s7 q7=>?_)
    have again:∀ {σ7:St} {H7:Hp},Inv X (pins++pinsAt fp s5.heap) σ7 H7 s7→N σ7 H7→∃ m,m < n∧∃ i σ' H',Inv X pins σ' H' s7∧tn i s7.heap∧(∀ b∈fp,H' b=none)∧W i m σ' H':=fun {σ7 H7} I7 n7=>by
      obtain ⟨m',hm,w7⟩:=hN σ7 H7 n7
      refine ⟨m',hm,i + 1,σ7,H7,I7.unpinned,T.keep _ _ _ st5 fun b hb o e=>(I7.pin (b,o) (List.mem_append_right _ (List.mem_append_right _ (mem_pinsAt hb e)))).1,fun b hb=>?_,w7⟩
      obtain ⟨o,e,d⟩:=T.obj _ _ st5 b hb
      exact (I7.pin (b,o) (List.mem_append_right _ (List.mem_append_right _ (mem_pinsAt hb e)))).2.1
    cases f with
    | next=>obtain ⟨σ7,H7,I7,n7⟩:=q7; exact again I7 n7
    | cont=>obtain ⟨σ7,H7,I7,n7⟩:=q7; exact again I7 n7
    | brk=>obtain ⟨σ7,H7,I7,q7⟩:=q7; exact ⟨σ7,H7,I7.unpinned,q7⟩
    | ret v=>obtain ⟨x7,σ7,H7,I7,r7,q7⟩:=q7; exact ⟨x7,σ7,H7,I7.unpinned,r7,q7⟩
end
theorem for_list {K:PySem.W.Frag} {a:Addr} {xs:List V} {g:TG} {tb:TS} {D:Ends} {σ:St} {H:Hp} (Pv:Nat→St→Hp→Prop) (h0:Pv 0 σ H) (hl:∀ i σ H,i≤xs.length→Pv i σ H→SqL K H a xs)
    (hs:∀ i x σ H,xs[i]?=some x→Pv i σ H→g x σ H fun σ2 H2=>tb {D with nx:=Pv (i + 1),ct:=Pv (i + 1),bk:=D.nx} σ2 H2) (hd:∀ σ H,Pv xs.length σ H→D.nx σ H) :
    ∃ W:Nat→Nat→St→Hp→Prop,(∃ m,W 0 m σ H)∧∀ i m σ H,W i m σ H →
      ((Itl K a).stop i H∧D.nx σ H)∨((Itl K a).go i H∧∃ N:St→Hp→Prop,(∀ σ' H',N σ' H'→∃ m',m' < m∧W (i + 1) m' σ' H')∧∀ x H',(Itl K a).yld i H x H'→g x σ H' fun σ2 H2=>tb {D with nx:=N,ct:=N,bk:=D.nx} σ2 H2):=by
  refine ⟨fun i m σ H=>m=xs.length - i∧i≤xs.length∧Pv i σ H,⟨xs.length,by simp,Nat.zero_le _,h0⟩,?_⟩
  rintro i m σ H ⟨rfl,hi,p⟩
  have q:=hl i σ H hi p
  by_cases hlt:i < xs.length
  · refine .inr ⟨⟨xs,xs[i],q,by simp [hlt]⟩,Pv (i + 1),fun σ' H' p'=>⟨xs.length - (i + 1),by omega,rfl,hlt,p'⟩,fun x H' y=>?_⟩
    obtain ⟨e,y⟩:=y
    subst e
    exact hs i x σ _ (y xs q) p
  · have e:i=xs.length:=by omega
    subst e
    exact .inl ⟨⟨xs,q,Nat.le_refl _⟩,hd σ H p⟩
theorem for_range {lo:Int} {n:Nat} {g:TG} {tb:TS} {D:Ends} {σ:St} {H:Hp} (Pv:Nat→St→Hp→Prop) (h0:Pv 0 σ H)
    (hs:∀ i σ H,i < n→Pv i σ H→g (.int (lo + i)) σ H fun σ2 H2=>tb {D with nx:=Pv (i + 1),ct:=Pv (i + 1),bk:=D.nx} σ2 H2) (hd:∀ σ H,Pv n σ H→D.nx σ H) :
    ∃ W:Nat→Nat→St→Hp→Prop,(∃ m,W 0 m σ H)∧∀ i m σ H,W i m σ H →
      ((Itr lo n).stop i H∧D.nx σ H)∨((Itr lo n).go i H∧∃ N:St→Hp→Prop,(∀ σ' H',N σ' H'→∃ m',m' < m∧W (i + 1) m' σ' H')∧∀ x H',(Itr lo n).yld i H x H'→g x σ H' fun σ2 H2=>tb {D with nx:=N,ct:=N,bk:=D.nx} σ2 H2):=by
  refine ⟨fun i m σ H=>m=n - i∧i≤n∧Pv i σ H,⟨n,by simp,Nat.zero_le _,h0⟩,?_⟩
  rintro i m σ H ⟨rfl,hi,p⟩
  by_cases hlt:i < n
  · refine .inr ⟨hlt,Pv (i + 1),fun σ' H' p'=>⟨n - (i + 1),by omega,rfl,hlt,p'⟩,fun x H' y=>?_⟩
    obtain ⟨e,y⟩:=y
    subst e y
    exact hs i σ _ hlt p
  · have e:i=n:=by omega
    subst e
    exact .inl ⟨Nat.le_refl _,hd σ H p⟩
end L2
namespace L2
open PySem PySem.Spec PyProof.Rows
abbrev R2:=V→V→Hp→VK→Prop
def OpR (X:Cx) (f:Value→Value→Sem Value) (r:R2):Prop:=
  ∀ (pins:List (Addr×Obj)) (s:Shared) (σ:St) (H:Hp) (x y:V) (v u:Value) (Q:VK),Inv X pins σ H s→RelV x v→RelV y u→r x y H Q →
    wpAny (model X.prog X.w) X.A (f v u) (EP X pins σ Q) X.xe s
def UnR (X:Cx) (f:Value→Sem Value) (r:V→Hp→VK→Prop):Prop:=
  ∀ (pins:List (Addr×Obj)) (s:Shared) (σ:St) (H:Hp) (x:V) (v:Value) (Q:VK),Inv X pins σ H s→RelV x v→r x H Q →
    wpAny (model X.prog X.w) X.A (f v) (EP X pins σ Q) X.xe s
def CallR (X:Cx) (f:Value) (r:List V→Hp→VK→Prop):Prop:=
  ∀ (pins:List (Addr×Obj)) (s:Shared) (σ:St) (H:Hp) (xs:List V) (us:List Value) (Q:VK),Inv X pins σ H s→Vals xs us→r xs H Q →
    wpAny (model X.prog X.w) X.A (call f us) (EP X pins σ Q) X.xe s
def TruR (X:Cx) (r:V→Hp→(Bool→Hp→Prop)→Prop):Prop:=
  ∀ (pins:List (Addr×Obj)) (s:Shared) (σ:St) (H:Hp) (x:V) (v:Value) (Q:Bool→Hp→Prop),Inv X pins σ H s→RelV x v→r x H Q →
    wpAny (model X.prog X.w) X.A (truthy v) (TP X pins σ Q) X.xe s
def tOp (r:R2) (ta tb:TE):TE:=fun σ H Q=>ta σ H fun x H1=>tb σ H1 fun y H2=>r x y H2 Q
def tUn (r:V→Hp→VK→Prop) (ta:TE):TE:=fun σ H Q=>ta σ H fun x H1=>r x H1 Q
def rI (C:Int→Int→Prop) (g:Int→Int→V):R2:=fun x y H Q=>∃ i j,x=.int i∧y=.int j∧C i j∧Q (g i j) H
def rI0 (g:Int→Int→V):R2:=fun x y H Q=>∃ i j,x=.int i∧y=.int j∧Q (g i j) H
def rU (g:Int→V):V→Hp→VK→Prop:=fun x H Q=>∃ i,x=.int i∧Q (g i) H
section
variable {X:Cx} {a b c:Expr} {ta tb tc:TE} {pos:Pos}
theorem binT (ha:PE X a ta) (hb:PE X b tb) {pins:List (Addr×Obj)} {s:Shared} {σ:St} {H:Hp} {R:V→V→Hp→Prop} (I:Inv X pins σ H s)
    (h:ta σ H fun x H1=>tb σ H1 fun y H2=>R x y H2) {Q:Value→Shared→Prop} {f:Value→Value→Sem Value}
    (hf:∀ v u s2 x y H2,Inv X pins σ H2 s2→RelV x v→RelV y u→R x y H2→wpAny (model X.prog X.w) X.A (f v u) Q X.xe s2) :
    wpAny (model X.prog X.w) X.A (eval a X.env) (fun v s₁=>wpAny (model X.prog X.w) X.A (eval b X.env) (fun u s₂=>wpAny (model X.prog X.w) X.A (f v u) Q X.xe s₂) X.xe s₁) X.xe s:=by
  refine thn (ha pins s σ H _ I h) fun v s1 ⟨x,H1,I1,r1,q1⟩=>?_
  refine thn (hb pins s1 σ H1 _ I1 q1) fun u s2 ⟨y,H2,I2,r2,q2⟩=>?_
  exact hf v u s2 x y H2 I2 r1 r2 q2
theorem pe_op {op:Operator} {r:R2} (ho:OpR X (binaryOp op) r) (ha:PE X a ta) (hb:PE X b tb):PE X (.BinOp a op b pos) (tOp r ta tb):=by
  intro pins s σ H Q I h
  exact wpAny_BinOp (binT ha hb I h fun v u s2 x y H2 I2 rx ry q=>ho pins s2 σ H2 x y v u Q I2 rx ry q)
theorem pe_un {op:UnaryOp} {r:V→Hp→VK→Prop} (ho:UnR X (unaryOp op) r) (ha:PE X a ta):PE X (.UnaryOp op a pos) (tUn r ta):=by
  intro pins s σ H Q I h
  exact UnaryOp_ (thn (ha pins s σ H _ I h) fun v s1 ⟨x,H1,I1,r1,q1⟩=>ho pins s1 σ H1 x v Q I1 r1 q1)
theorem opI {f:Value→Value→Sem Value} {C:Int→Int→Prop} {g:Int→Int→Int}
    (rule:∀ (i j:Int) (t u:Tok) (s:Shared) (Q:Value→Shared→Prop) (E:Value→Shared→Prop),C i j→Q (.int (g i j) s.toks) {s with toks:=s.toks + 1}→wpAny (model X.prog X.w) X.A (f (.int i t) (.int j u)) Q E s) :
    OpR X f (rI C fun i j=>.int (g i j)):=by
  intro pins s σ H x y v u Q I rx ry h
  obtain ⟨i,j,rfl,rfl,hc,q⟩:=h
  obtain ⟨t,rfl⟩:=rx
  obtain ⟨t',rfl⟩:=ry
  exact rule i j t t' s _ _ hc ⟨.int (g i j),H,I.tok _,⟨_,rfl⟩,q⟩
theorem opI0 {f:Value→Value→Sem Value} {g:Int→Int→Int}
    (rule:∀ (i j:Int) (t u:Tok) (s:Shared) (Q:Value→Shared→Prop) (E:Value→Shared→Prop),Q (.int (g i j) s.toks) {s with toks:=s.toks + 1}→wpAny (model X.prog X.w) X.A (f (.int i t) (.int j u)) Q E s) :
    OpR X f (rI0 fun i j=>.int (g i j)):=by
  intro pins s σ H x y v u Q I rx ry h
  obtain ⟨i,j,rfl,rfl,q⟩:=h
  obtain ⟨t,rfl⟩:=rx
  obtain ⟨t',rfl⟩:=ry
  exact rule i j t t' s _ _ ⟨.int (g i j),H,I.tok _,⟨_,rfl⟩,q⟩
theorem opB0 {f:Value→Value→Sem Value} {g:Int→Int→Bool}
    (rule:∀ (i j:Int) (t u:Tok) (s:Shared) (Q:Value→Shared→Prop) (E:Value→Shared→Prop),Q (.bool (g i j)) s→wpAny (model X.prog X.w) X.A (f (.int i t) (.int j u)) Q E s) :
    OpR X f (rI0 fun i j=>.bl (g i j)):=by
  intro pins s σ H x y v u Q I rx ry h
  obtain ⟨i,j,rfl,rfl,q⟩:=h
  obtain ⟨t,rfl⟩:=rx
  obtain ⟨t',rfl⟩:=ry
  exact rule i j t t' s _ _ ⟨.bl (g i j),H,I,rfl,q⟩
def CDiv (i j:Int):Prop:=0 < j∧j < 1073741824
def CDivN (i j:Int):Prop:=j≠0∧j.natAbs < 1073741824
def CPow (i j:Int):Prop:=0≤j∧j≤1000000∧i.natAbs < 2 ^ 64
def CMul (i j:Int):Prop:=(-(2 ^ 64) < i∧i < 2 ^ 64)∨(-(2 ^ 64) < j∧j < 2 ^ 64)
theorem CMul.ok {i j:Int} (h:CMul i j):IntMulOk i j:=by
  rcases h with ⟨h1,h2⟩ | ⟨h1,h2⟩
  · exact .of_left (intBits_le_64 h1 h2)
  · exact .of_right (intBits_le_64 h1 h2)
theorem op_add:OpR X (binaryOp .Add) (rI0 fun i j=>.int (i + j)):=opI0 fun _ _ _ _ _ _ _ q=>add_int q
theorem op_sub:OpR X (binaryOp .Sub) (rI0 fun i j=>.int (i - j)):=opI0 fun _ _ _ _ _ _ _ q=>sub_int q
theorem op_mul:OpR X (binaryOp .Mult) (rI CMul fun i j=>.int (i * j)):=opI fun _ _ _ _ _ _ _ hc q=>mul_int q hc.ok
theorem op_mod:OpR X (binaryOp .Mod) (rI (fun _ j=>0 < j) fun i j=>.int (i % j)):=opI fun i j _ _ _ _ _ hc q=>by
  have h1:(0:Int) < j:=hc
  exact mod_int' (by omega) (by rw [Int.fmod_eq_emod_of_nonneg i (by omega)]; exact q)
theorem op_pow:OpR X (binaryOp .Pow) (rI CPow fun i j=>.int (i ^ j.toNat)):=opI fun _ _ _ _ _ _ _ hc q=>pow_int_small hc.1 hc.2.1 hc.2.2 q
theorem unI {f:Value→Sem Value} {g:Int→Int}
    (rule:∀ (i:Int) (t:Tok) (s:Shared) (Q:Value→Shared→Prop) (E:Value→Shared→Prop),Q (.int (g i) s.toks) {s with toks:=s.toks + 1}→wpAny (model X.prog X.w) X.A (f (.int i t)) Q E s) :
    UnR X f (rU fun i=>.int (g i)):=by
  intro pins s σ H x v Q I rx h
  obtain ⟨i,rfl,q⟩:=h
  obtain ⟨t,rfl⟩:=rx
  exact rule i t s _ _ ⟨.int (g i),H,I.tok _,⟨_,rfl⟩,q⟩
theorem un_neg:UnR X (unaryOp .USub) (rU fun i=>.int (-i)):=unI fun _ _ _ _ _ q=>neg_int q
end
def scal:V→V→Bool
  | .non,.non=>true | .non,.int _=>true | .int _,.non=>true | .non,.bl _=>true | .bl _,.non=>true | .non,.str _=>true | .str _,.non=>true
  | .int _,.int _=>true | .bl _,.bl _=>true | .str _,.str _=>true | .byt _,.byt _=>true
  | .int _,.str _=>true | .str _,.int _=>true | .bl _,.str _=>true | .str _,.bl _=>true
  | _,_=>false
def rEq:R2:=fun x y H Q=>scal x y=true∧Q (.bl (decide (x=y))) H
def rNe:R2:=fun x y H Q=>scal x y=true∧Q (.bl (!decide (x=y))) H
theorem dec_int {i j:Int}:decide (V.int i=V.int j)=(i == j):=by
  rw [Bool.eq_iff_iff]
  simp
theorem dec_bl {i j:Bool}:decide (V.bl i=V.bl j)=(i == j):=by
  rw [Bool.eq_iff_iff]
  simp
theorem dec_str {i j:Str}:decide (V.str i=V.str j)=(i == j):=by
  rw [Bool.eq_iff_iff]
  simp
theorem dec_byt {i j:Array UInt8}:decide (V.byt i=V.byt j)=(i.toList == j.toList):=by
  rw [Bool.eq_iff_iff]
  cases i
  cases j
  simp
section
variable {X:Cx} {a b c:Expr} {ta tb tc:TE} {pos:Pos}
theorem fin_bl {pins:List (Addr×Obj)} {σ:St} {H:Hp} {s:Shared} {Q:VK} {k k':Bool} (I:Inv X pins σ H s) (q:Q (.bl k) H) (e:k=k'):EP X pins σ Q (.bool k') s:=by
  subst e
  exact ⟨.bl k,H,I,rfl,q⟩
theorem op_eq:OpR X (compareOp .Eq) rEq:=by
  intro pins s σ H x y v u Q I rx ry h
  obtain ⟨hs,q⟩:=h
  cases x with
  | non =>
    cases rx
    cases y with
    | non=>cases ry; exact PySem.EqNone.eq_none_none (fin_bl I q (by simp))
    | bl j=>cases ry; exact PySem.EqNone.eq_none_bool (fin_bl I q (by simp))
    | int j=>obtain ⟨t',rfl⟩:=ry; exact PySem.EqNone.eq_none_int (fin_bl I q (by simp))
    | str j=>obtain ⟨t',rfl⟩:=ry; exact PySem.EqNone.eq_none_str (fin_bl I q (by simp))
    | _=>exact absurd (show false=true from hs) Bool.false_ne_true
  | bl i =>
    cases rx
    cases y with
    | non=>cases ry; exact PySem.EqNone.eq_bool_none (fin_bl I q (by simp))
    | bl j=>cases ry; exact eq_bool (fin_bl I q dec_bl)
    | str j=>obtain ⟨t',rfl⟩:=ry; exact PySem.EqMixed.eq_bool_str (fin_bl I q (by simp))
    | _=>exact absurd (show false=true from hs) Bool.false_ne_true
  | int i =>
    obtain ⟨t,rfl⟩:=rx
    cases y with
    | non=>cases ry; exact PySem.EqNone.eq_int_none (fin_bl I q (by simp))
    | int j=>obtain ⟨t',rfl⟩:=ry; exact eq_int (fin_bl I q dec_int)
    | str j=>obtain ⟨t',rfl⟩:=ry; exact PySem.EqMixed.eq_int_str (fin_bl I q (by simp))
    | _=>exact absurd (show false=true from hs) Bool.false_ne_true
  | str i =>
    obtain ⟨t,rfl⟩:=rx
    cases y with
    | non=>cases ry; exact PySem.EqNone.eq_str_none (fin_bl I q (by simp))
    | bl j=>cases ry; exact PySem.EqMixed.eq_str_bool (fin_bl I q (by simp))
    | int j=>obtain ⟨t',rfl⟩:=ry; exact PySem.EqMixed.eq_str_int (fin_bl I q (by simp))
    | str j=>obtain ⟨t',rfl⟩:=ry; exact eq_str (fin_bl I q dec_str)
    | _=>exact absurd (show false=true from hs) Bool.false_ne_true
  | byt i =>
    obtain ⟨t,rfl⟩:=rx
    cases y with
    | byt j=>obtain ⟨t',rfl⟩:=ry; exact PySem.W.eq_bytes (fin_bl I q dec_byt)
    | _=>exact absurd (show false=true from hs) Bool.false_ne_true
  | _=>cases y <;> exact absurd (show false=true from hs) Bool.false_ne_true
theorem op_ne:OpR X (compareOp .NotEq) rNe:=by
  intro pins s σ H x y v u Q I rx ry h
  obtain ⟨hs,q⟩:=h
  cases x with
  | non =>
    cases rx
    cases y with
    | non=>cases ry; exact PySem.EqNone.ne_none_none (fin_bl I q (by simp))
    | bl j=>cases ry; exact PySem.EqNone.ne_none_bool (fin_bl I q (by simp))
    | int j=>obtain ⟨t',rfl⟩:=ry; exact PySem.EqNone.ne_none_int (fin_bl I q (by simp))
    | str j=>obtain ⟨t',rfl⟩:=ry; exact PySem.EqNone.ne_none_str (fin_bl I q (by simp))
    | _=>exact absurd (show false=true from hs) Bool.false_ne_true
  | bl i =>
    cases rx
    cases y with
    | non=>cases ry; exact PySem.EqNone.ne_bool_none (fin_bl I q (by simp))
    | bl j=>cases ry; exact ne_bool (fin_bl I q (congrArg not dec_bl))
    | str j=>obtain ⟨t',rfl⟩:=ry; exact PySem.EqMixed.ne_bool_str (fin_bl I q (by simp))
    | _=>exact absurd (show false=true from hs) Bool.false_ne_true
  | int i =>
    obtain ⟨t,rfl⟩:=rx
    cases y with
    | non=>cases ry; exact PySem.EqNone.ne_int_none (fin_bl I q (by simp))
    | int j=>obtain ⟨t',rfl⟩:=ry; exact ne_int (fin_bl I q (congrArg not dec_int))
    | str j=>obtain ⟨t',rfl⟩:=ry; exact PySem.EqMixed.ne_int_str (fin_bl I q (by simp))
    | _=>exact absurd (show false=true from hs) Bool.false_ne_true
  | str i =>
    obtain ⟨t,rfl⟩:=rx
    cases y with
    | non=>cases ry; exact PySem.EqNone.ne_str_none (fin_bl I q (by simp))
    | bl j=>cases ry; exact PySem.EqMixed.ne_str_bool (fin_bl I q (by simp))
    | int j=>obtain ⟨t',rfl⟩:=ry; exact PySem.EqMixed.ne_str_int (fin_bl I q (by simp))
    | str j=>obtain ⟨t',rfl⟩:=ry; exact ne_str (fin_bl I q (congrArg not dec_str))
    | _=>exact absurd (show false=true from hs) Bool.false_ne_true
  | byt i =>
    obtain ⟨t,rfl⟩:=rx
    cases y with
    | byt j=>obtain ⟨t',rfl⟩:=ry; exact PySem.W.ne_bytes (fin_bl I q (congrArg not dec_byt))
    | _=>exact absurd (show false=true from hs) Bool.false_ne_true
  | _=>cases y <;> exact absurd (show false=true from hs) Bool.false_ne_true
theorem op_lt:OpR X (compareOp .Lt) (rI0 fun i j=>.bl (decide (i < j))):=opB0 fun _ _ _ _ _ _ _ q=>lt_int q
theorem op_le:OpR X (compareOp .LtE) (rI0 fun i j=>.bl (decide (i≤j))):=opB0 fun _ _ _ _ _ _ _ q=>le_int q
theorem op_gt:OpR X (compareOp .Gt) (rI0 fun i j=>.bl (decide (j < i))):=opB0 fun _ _ _ _ _ _ _ q=>gt_int q
theorem op_isN:OpR X (compareOp .Is) (fun x y H Q=>y=.non∧Q (.bl (decide (x=.non))) H):=by
  intro pins s σ H x y v u Q I rx ry h
  obtain ⟨rfl,q⟩:=h
  cases ry
  refine is_none_gen (fin_bl I q ?_)
  cases x <;> first
    | (cases rx; rfl)
    | (obtain ⟨t,rfl⟩:=rx; rfl)
theorem op_notN:OpR X (compareOp .IsNot) (fun x y H Q=>y=.non∧Q (.bl (!decide (x=.non))) H):=by
  intro pins s σ H x y v u Q I rx ry h
  obtain ⟨rfl,q⟩:=h
  cases ry
  refine isnot_none_gen (fin_bl I q ?_)
  cases x <;> first
    | (cases rx; rfl)
    | (obtain ⟨t,rfl⟩:=rx; rfl)
def isObj:HO→Bool
  | .lst _=>true
  | .ins _ _ _=>true
  | _=>false
theorem nomark (b:Expr) {op:CmpOp} (h:op≠.In:=by decide) (h2:op≠.NotIn:=by decide):behindInMarks op b=false:=by
  have e1:(op == CmpOp.In)=false:=by cases op <;> first | rfl | exact absurd rfl h
  have e2:(op == CmpOp.NotIn)=false:=by cases op <;> first | rfl | exact absurd rfl h2
  cases b <;> simp [behindInMarks,e1,e2]
theorem pe_cmpR {op:CmpOp} {r:R2} (ho:OpR X (compareOp op) r) (ha:PE X a ta) (hb:PE X b tb) (hm:behindInMarks op b=false):PE X (.Compare a [op] [b] pos) (tOp r ta tb):=by
  intro pins s σ H Q I h
  exact wpAny_Compare1 (binT ha hb I h fun v u s2 x y H2 I2 rx ry q=>ho pins s2 σ H2 x y v u Q I2 rx ry q) hm
def tTest (t:TE):TT:=fun σ H Q=>t σ H fun x H'=>∃ k,x=.bl k∧Q k H'
theorem pt_cmpR {op:CmpOp} {r:R2} (ho:OpR X (compareOp op) r) (ha:PE X a ta) (hb:PE X b tb) (hm:behindInMarks op b=false):PT X (.Compare a [op] [b] pos) (tTest (tOp r ta tb)):=by
  intro pins s σ H Q I h
  refine wpAny_isTrue_Compare1 (thn (ha pins s σ H _ I h) fun v s1 ⟨x,H1,I1,r1,q1⟩=>thn (hb pins s1 σ H1 _ I1 q1) fun u s2 ⟨y,H2,I2,r2,q2⟩ =>
    thn (ho pins s2 σ H2 x y v u _ I2 r1 r2 q2) fun c s3 ⟨z,H3,I3,r3,k,e,q3⟩=>?_) hm
  subst e
  cases r3
  exact wpAny_truthy_bool ⟨H3,I3,q3⟩
def tChain (r r':R2) (ta tb tc:TE):TE:=fun σ H Q=>ta σ H fun x H1=>tb σ H1 fun y H2=>r x y H2 fun z H3=>∃ k,z=.bl k ∧
  (if k=true then tc σ H3 fun w' H4=>r' y w' H4 Q else Q (.bl false) H3)
theorem pe_chain {op op':CmpOp} {r r':R2} (ho:OpR X (compareOp op) r) (ho':OpR X (compareOp op') r') (ha:PE X a ta) (hb:PE X b tb) (hc:PE X c tc)
    (hm:lastMarks [op,op'] [b,c]=false:=by with_unfolding_all rfl):PE X (.Compare a [op,op'] [b,c] pos) (tChain r r' ta tb tc):=by
  intro pins s σ H Q I h
  refine Compare_chain (thn (ha pins s σ H _ I h) fun v s1 ⟨x,H1,I1,r1,q1⟩=>chain_link (thn (hb pins s1 σ H1 _ I1 q1) fun u s2 ⟨y,H2,I2,r2,q2⟩ =>
    thn (ho pins s2 σ H2 x y v u _ I2 r1 r2 q2) fun d s3 ⟨z,H3,I3,r3,k,e,q3⟩=>?_)) hm
  subst e
  cases r3
  refine wpAny_truthy_bool ?_
  cases k with
  | false=>exact ite_ff ⟨.bl false,H3,I3,rfl,q3⟩
  | true=>exact ite_tt (chain_last (thn (hc pins s3 σ H3 _ I3 q3) fun w' s4 ⟨z',H4,I4,r4,q4⟩=>ho' pins s4 σ H4 y z' u w' Q I4 r2 r4 q4))
def TruV (K:PySem.W.Frag) (x:V) (H:Hp) (k:Bool):Prop:=
  match x with
  | .non=>k=false
  | .bl b=>k=b
  | .int i=>k=(i != 0)
  | .str y=>y.length≤sizeLine∧k=((y.length:Int) != 0)
  | .byt y=>y.size≤sizeLine∧k=((y.size:Int) != 0)
  | .ref p=>(∃ xs,SqL K H p xs∧k=!xs.isEmpty)∨(∃ xs,SqT K H p xs∧k=!xs.isEmpty)∨∃ kvs,H p=some (.dK kvs)∧k=!kvs.isEmpty
  | _=>False
theorem isEmpty_kv {κ:Type} {kvs:List (κ×V)} {vs:List (κ×Value)} (r:KV kvs vs):(!vs.isEmpty)=!kvs.isEmpty:=by
  cases r <;> rfl
theorem isEmpty_of {xs:List V} {its:List Value} (r:Vals xs its):(!its.toArray.isEmpty)=!xs.isEmpty:=by
  cases r <;> simp
theorem line63:(sizeLine:Nat) < 2 ^ 63:=by rw [sizeLine_eq]; decide
theorem tru_ok:TruR X (fun x H Q=>∃ k,TruV X.K x H k∧Q k H):=by
  intro pins s σ H x v Q I rx h
  obtain ⟨k,e,q⟩:=h
  have hl:=line63
  have hs:sizeLine=16777216:=sizeLine_eq
  cases x with
  | non =>
    cases rx
    have e':k=false:=e
    subst e'
    exact truthy_none ⟨H,I,q⟩
  | bl b =>
    cases rx
    have e':k=b:=e
    subst e'
    exact wpAny_truthy_bool ⟨H,I,q⟩
  | int i =>
    obtain ⟨t,rfl⟩:=rx
    have e':k=(i != 0):=e
    subst e'
    exact PySem.P.truthy_int ⟨H,I,q⟩
  | str y =>
    obtain ⟨t,rfl⟩:=rx
    obtain ⟨hy,e'⟩:y.length≤sizeLine∧k=((y.length:Int) != 0):=e
    subst e'
    exact PySem.P.truthy_str (by omega) ⟨H,I.tok _,q⟩
  | byt y =>
    obtain ⟨t,rfl⟩:=rx
    obtain ⟨hy,e'⟩:y.size≤sizeLine∧k=((y.size:Int) != 0):=e
    subst e'
    exact PySem.W.truthy_bytes (by omega) ⟨H,I.tok _,q⟩
  | ref p =>
    cases rx
    have e':(∃ xs,SqL X.K H p xs∧k=!xs.isEmpty)∨(∃ xs,SqT X.K H p xs∧k=!xs.isEmpty)∨∃ kvs,H p=some (.dK kvs)∧k=!kvs.isEmpty:=e
    rcases e' with ⟨xs,hx,e'⟩ | ⟨xs,hx,e'⟩ | ⟨kvs,hx,e'⟩
    · subst e'
      obtain ⟨its,r,pl,hz⟩:=I.list hx
      have hlen:=r.length
      exact wpAny_truthy_list pl.isList (by simp only [List.size_toArray]; omega) ⟨H,I.tok _,by rw [isEmpty_of r]; exact q⟩
    · subst e'
      obtain ⟨its,r,pl,hz⟩:=I.tuple hx
      have hlen:=r.length
      exact truthy_tuple pl (by simp only [List.size_toArray]; omega) ⟨H,I.tok _,by rw [isEmpty_of r]; exact q⟩
    · subst e'
      obtain ⟨hz,hS,vs,r,m⟩:kvs.length≤sizeLine∧(p == sysModules)=false∧∃ vs,KV kvs vs∧s.heap.DictOf (mixKind X.prog X.w) p vs:=I.hok p _ hx
      have hlen:kvs.length=vs.length:=Paired.length r
      exact wpAny_truthy_dict hS m (by omega) ⟨H,I.tok _,by rw [isEmpty_kv r]; exact q⟩
  | _=>exact (show False from e).elim
theorem pt_truth (ha:PE X a ta) (he:∀ whole,isTrue a X.env whole=(do let v ← whole; standAt a.pos; holding [v] (truthy v))) :
    PT X a (fun σ H Q=>ta σ H fun x H'=>∃ k,TruV X.K x H' k∧Q k H'):=by
  intro pins s σ H Q I h
  exact isTrue_plain (thn (ha pins s σ H _ I h) fun v s1 ⟨x,H1,I1,r1,q1⟩=>tru_ok pins s1 σ H1 x v Q I1 r1 q1) (he _)
theorem op_add_str:OpR X (binaryOp .Add) (fun x y H Q=>∃ i j,x=.str i∧y=.str j∧i.length + j.length≤sizeLine∧Q (.str (i++j)) H):=by
  intro pins s σ H x y v u Q I rx ry h
  obtain ⟨i,j,rfl,rfl,hz,q⟩:=h
  obtain ⟨t,rfl⟩:=rx
  obtain ⟨t',rfl⟩:=ry
  exact add_str (fun t' tk=>⟨.str (i++j),H,I.tok _,⟨_,rfl⟩,q⟩) hz
def PlainIxT (b:Expr):Prop:=∀ o i,subscripted b false o i=operate [o,i] (getItem o i)
theorem vals1 {x:V} {us:List Value} (r:Vals [x] us):∃ u,us=[u]∧RelV x u:=by
  cases r with
  | cons r1 r2=>cases r2; exact ⟨_,rfl,r1⟩
theorem vals2 {x y:V} {us:List Value} (r:Vals [x,y] us):∃ u w',us=[u,w']∧RelV x u∧RelV y w':=by
  cases r with
  | cons r1 r2 =>
    cases r2 with
    | cons r3 r4=>cases r4; exact ⟨_,_,rfl,r1,r3⟩
theorem call_abs:CallR X (.builtin "abs") (fun xs H Q=>∃ i,xs=[.int i]∧Q (.int (if i < 0 then -i else i)) H):=by
  intro pins s σ H xs us Q I r h
  obtain ⟨i,rfl,q⟩:=h
  obtain ⟨u,rfl,t,rfl⟩:=vals1 r
  exact call_abs_int fun u tk=>⟨.int (if i < 0 then -i else i),H,I.tok _,⟨_,rfl⟩,q⟩
theorem call_int1:CallR X (.type "int") (fun xs H Q=>(∃ i,xs=[.int i]∧Q (.int i) H)∨∃ k,xs=[.bl k]∧Q (.int (if k then 1 else 0)) H):=by
  intro pins s σ H xs us Q I r h
  rcases h with ⟨i,rfl,q⟩ | ⟨k,rfl,q⟩
  · obtain ⟨u,rfl,t,rfl⟩:=vals1 r
    exact call_int_int ⟨.int i,H,I,⟨_,rfl⟩,q⟩
  · obtain ⟨u,rfl,r1⟩:=vals1 r
    cases r1
    exact call_int_bool ⟨.int (if k then 1 else 0),H,I.tok _,⟨_,rfl⟩,q⟩
theorem call_str_int:CallR X (.type "str") (fun xs H Q=>∃ i,xs=[.int i]∧i.natAbs.log2 < 1920∧Q (.str (toString i)) H):=by
  intro pins s σ H xs us Q I r h
  obtain ⟨i,rfl,hz,q⟩:=h
  obtain ⟨u,rfl,t,rfl⟩:=vals1 r
  exact PySem.P.str_of_int hz ⟨.str _,H,I.tok _,⟨_,rfl⟩,q⟩
def LenV (K:PySem.W.Frag) (x:V) (H:Hp) (n:Nat):Prop:=
  match x with
  | .str y=>y.length≤sizeLine∧n=y.length
  | .byt y=>y.size≤sizeLine∧n=y.size
  | .ref p=>(∃ xs,SqL K H p xs∧n=xs.length)∨∃ xs,SqT K H p xs∧n=xs.length
  | _=>False
end
end L2
namespace L2
open PySem PySem.Spec PyProof.Rows
structure ObjM (h:Heap) (x dx C:Addr) (mA:Str→Option Value):Prop where
  obj:h.get? x=some (PySem.W.instObj C dx)
  ns:h.Ns1 dx mA
  ne:dx≠x
theorem lookIn_ns {h:Heap} {dx:Addr} {mA:Str→Option Value} (n:h.Ns1 dx mA):∃ od,h.get? dx=some od∧∀ name,PySem.W.lookIn name od=some (mA name):=by
  obtain ⟨o,es,ep,ho,hd,hk,_,hm⟩:=n
  refine ⟨o,ho,fun name=>?_⟩
  have e:=hm name
  unfold nsFind findBy at e
  rw [← Array.find?_toList] at e
  unfold PySem.W.lookIn
  rw [hd]
  dsimp only
  split
  · rename_i y q
    rw [q] at e
    exact congrArg some e
  · rename_i q
    rw [q] at e
    have a:es.toList.any (·.refKey)=false:=by
      rw [List.any_eq_false]
      intro y hy
      obtain ⟨z,t,hkey⟩:=hk y (Array.mem_toList_iff.mp hy)
      simp [DictEntry.refKey,hkey]
    have a':¬ es.toList.any (·.refKey)=true:=by rw [a]; exact Bool.false_ne_true
    rw [if_neg a']
    exact congrArg some e
theorem ObjM.look {h:Heap} {x dx C:Addr} {mA:Str→Option Value} (I:ObjM h x dx C mA):∃ od,PySem.W.InstAt h x (PySem.W.instObj C dx) C (some od)∧∀ name,PySem.W.lookIn name od=some (mA name):=
  let ⟨od,ho,hl⟩:=lookIn_ns I.ns
  ⟨od,⟨I.obj,rfl,rfl,ho⟩,hl⟩
section
variable {prog:Program} {w:World} {A:Around} {E:Value→Shared→Prop} {s:Shared} {K:PySem.W.Frag} {x dx C f:Addr} {mA:Str→Option Value} {name:Str} {v:Value}
end
def putF (f:Str) (v:V):List (Str×V)→List (Str×V)
  | []=>[(f,v)]
  | (g,x) :: r=>if g=f then (g,v) :: r else (g,x) :: putF f v r
theorem handed_of {v:V} {u:Value} (r:RelV v u):PySem.W.handedIn u=true:=by
  cases v with
  | non=>cases (show u=Value.none from r); rfl
  | bl b=>cases (show u=Value.bool b from r); rfl
  | int i=>obtain ⟨t,e⟩:=(show ∃ t,u=Value.int i t from r); cases e; rfl
  | str x=>obtain ⟨t,e⟩:=(show ∃ t,u=Value.str x t from r); cases e; rfl
  | byt b=>obtain ⟨t,e⟩:=(show ∃ t,u=Value.bytes b t from r); cases e; rfl
  | flt b=>obtain ⟨t,e⟩:=(show ∃ t,u=Value.float b t from r); cases e; rfl
  | ref a=>cases (show u=Value.ref a from r); rfl
  | ty n=>cases (show u=Value.type n from r); rfl
section
variable {P:Program} {w:World} {H H':Hp} {h h':Heap} {a C dx:Addr} {fs fs':List (Str×V)}
theorem ins_get (hok:HOk P w H h) (e:H a=some (.ins C dx fs)):∃ mA,ObjM h a dx C mA∧(∀ f,RelO (fs.lookup f) (mA f))∧PySem.Within mA (fs.map (·.1))∧fs.length≤1000∧H dx=some (.own a):=by
  obtain ⟨d,z,ne,ob,mA,n,r,q⟩:=(show ObjOk P w H h a (.ins C dx fs) from hok a _ e)
  exact ⟨mA,⟨ob,n,ne⟩,r,q,z,d⟩
end
structure Cls (K:PySem.W.Frag) (C:Addr):Prop where
  pg:PySem.W.plainGet K C Str.empty=true
  hd:PySem.W.hasDictIn K C=true
  po:PySem.W.plainOver K C=true
  sa:PySem.W.findIn K (.ref C) "__setattr__"=some (some (.builtin "object.__setattr__"))
theorem Cls.get {K:PySem.W.Frag} {C:Addr} (c:Cls K C) (f:Str):PySem.W.plainGet K C f=true:=c.pg
def NoAttr (K:PySem.W.Frag) (C:Addr) (f:Str):Prop:=PySem.W.findIn K (.ref C) f=some none
structure Con (K:PySem.W.Frag) (C:Addr) (f:Str) (v:V) (u:Value):Prop where
  at_:PySem.W.findIn K (.ref C) f=some (some u)
  rel:RelV v u
  get:PySem.W.specialIn K u "__get__"=some none
  cp:PySem.W.copiedNames.contains f=false
structure Meth (K:PySem.W.Frag) (C:Addr) (m:Str) (f:Addr):Prop where
  at_:PySem.W.findIn K (.ref C) m=some (some (.ref f))
  fn:PySem.W.isFn K (.ref f)=true
  kp:PySem.W.keepIn K (.ref f)=true
section
variable {X:Cx} {pins:List (Addr×Obj)} {σ:St} {H:Hp} {s:Shared} {a C dx:Addr} {fs:List (Str×V)} {f:Str} {v:V} {A:Around} {E:Value→Shared→Prop}
theorem attr_of {prog:Program} {w:World} {env:Env} {e:Expr} {f:Str} {pos:Pos} {s:Shared} {Q:Value→Shared→Prop} (hb:attributeBase e f env (eval e env)=eval e env)
    (h:wpAny (model prog w) A (eval e env) (fun o s₁=>wpAny (model prog w) A (getAttr o f true) Q E s₁) E s):wpAny (model prog w) A (eval (.Attribute e f pos) env) Q E s:=
  Attribute_any_ h (by rw [arm_eval_Attribute,hb])
end
def tFld (K:PySem.W.Frag) (ta:TE) (f:Str):TE:=fun σ H Q=>ta σ H fun x H1=>∃ a C dx fs v,x=.ref a∧H1 a=some (.ins C dx fs)∧Cls K C∧NoAttr K C f∧fs.lookup f=some v∧Q v H1
def tCon (K:PySem.W.Frag) (ta:TE) (f:Str):TE:=fun σ H Q=>ta σ H fun x H1=>∃ a C dx fs v u,x=.ref a∧H1 a=some (.ins C dx fs)∧Cls K C∧Con K C f v u∧fs.lookup f=none∧Q v H1
def sFld (K:PySem.W.Frag) (ta tv:TE) (f:Str):TS:=fun D σ H=>tv σ H fun y H1=>ta σ H1 fun x H2=>∃ a C dx fs,x=.ref a∧H2 a=some (.ins C dx fs)∧Cls K C∧NoAttr K C f∧fs.length < 1000 ∧
  D.nx σ (upd H2 a (.ins C dx (putF f y fs)))
def InOp (X:Cx) (op:Operator) (rd:V→V→Hp→VK→Prop):Prop:=
  ∀ (pins:List (Addr×Obj)) (s:Shared) (σ:St) (H:Hp) (x y:V) (u v:Value) (Q:VK),Inv X pins σ H s→RelV x u→RelV y v→rd x y H Q→wpAny (model X.prog X.w) X.A (inplaceOp op u v) (EP X pins σ Q) X.xe s
def sFldAug (K:PySem.W.Frag) (ta tv:TE) (rd:V→V→Hp→VK→Prop) (f:Str):TS:=fun D σ H=>ta σ H fun x H1=>∃ a C dx fs v,x=.ref a∧H1 a=some (.ins C dx fs)∧Cls K C∧NoAttr K C f∧fs.lookup f=some v ∧
  tv σ H1 fun y H2=>rd v y H2 fun z H3=>∃ dx' fs',H3 a=some (.ins C dx' fs')∧fs'.length < 1000∧D.nx σ (upd H3 a (.ins C dx' (putF f z fs')))
section
variable {X:Cx} {o e value:Expr} {f:Str} {pos pos' tpos:Pos} {ta tv:TE}
def rAdd:V→V→Hp→VK→Prop:=fun x y H Q=>∃ i j,x=.int i∧y=.int j∧Q (.int (i + j)) H
def rSub:V→V→Hp→VK→Prop:=fun x y H Q=>∃ i j,x=.int i∧y=.int j∧Q (.int (i - j)) H
end
section
variable {X:Cx} {pins:List (Addr×Obj)} {σ:St} {H:Hp} {s:Shared} {A:Around} {E:Value→Shared→Prop} {Q:Value→Shared→Prop} {c:Value} {b:Bool}
inductive TyOf (K:PySem.W.Frag) (H:Hp):V→Value→Prop where
  | non:TyOf K H .non (.type "NoneType")
  | bl (x:Bool):TyOf K H (.bl x) (.type "bool")
  | int (i:Int):TyOf K H (.int i) (.type "int")
  | str (x:Str):TyOf K H (.str x) (.type "str")
  | flt (x:UInt64):TyOf K H (.flt x) (.type "float")
  | lst {a:Addr} {xs:List V} (e:H a=some (.lst xs)):TyOf K H (.ref a) (.type "list")
  | frz {a:Addr} {o:Obj} {xs:List V} (e:H a=some (.frz o (.lst xs))):TyOf K H (.ref a) (.type "list")
  | tup {a:Addr} {xs:List V} (e:H a=some (.tup xs)):TyOf K H (.ref a) (.type "tuple")
  | dK {a:Addr} {kvs:List (Key×V)} (e:H a=some (.dK kvs)):TyOf K H (.ref a) (.type "dict")
  | dT {a:Addr} {kvs:List (List Key×V)} (e:H a=some (.dT kvs)):TyOf K H (.ref a) (.type "dict")
  | ins {a C dx:Addr} {fs:List (Str×V)} (e:H a=some (.ins C dx fs)) (cl:Cls K C) (ha:PySem.W.findIn K (.ref C) "__class__"=some (some (.builtin "object.__class__")))
      (hn:PySem.W.specialIn K (.builtin "object.__class__") "__get__"=some (some (.builtin "getset_descriptor.__get__"))) (htk:PySem.W.takesIn K (.builtin "object.__class__")=some true)
      (hm:PySem.W.mroIn K C (.type "object")=some true):TyOf K H (.ref a) (.ref C)
theorem isinst_ok {x:V} {u t:Value} (I:Inv X pins σ H s) (rx:RelV x u) (ty:TyOf X.K H x t) (e:PySem.W.kitOne X.K t c=some b) (h:∀ tk,Q (.bool b) {s with toks:=tk}) :
    wpAny (model X.prog X.w) A (call (.builtin "isinstance") [u,c]) Q E s:=by
  cases ty with
  | non=>cases (show u=Value.none from rx); exact PySem.W.kia_one PySem.W.kitx_none I.kIn True.intro e (fun z=>nomatch z) h
  | bl y=>cases (show u=Value.bool y from rx); exact PySem.W.kia_one PySem.W.kitx_bool I.kIn True.intro e (fun z=>nomatch z) h
  | int i=>obtain ⟨t,q⟩:=(show ∃ t,u=Value.int i t from rx); cases q; exact PySem.W.kia_one PySem.W.kitx_int I.kIn True.intro e (fun z=>nomatch z) h
  | str y=>obtain ⟨t,q⟩:=(show ∃ t,u=Value.str y t from rx); cases q; exact PySem.W.kia_one PySem.W.kitx_str I.kIn True.intro e (fun z=>nomatch z) h
  | flt y=>obtain ⟨t,q⟩:=(show ∃ t,u=Value.float y t from rx); cases q; exact PySem.W.kia_one PySem.W.kitx_float I.kIn True.intro e (fun z=>nomatch z) h
  | @lst a xs ea =>
    cases (show u=Value.ref a from rx)
    obtain ⟨_,_,n,_,h1⟩:=(show ObjOk X.prog X.w H s.heap a (.lst xs) from I.hok a _ ea)
    exact PySem.W.kia_one PySem.W.kitx_list I.kIn ⟨_,h1,rfl⟩ e (fun z=>nomatch z) h
  | @frz a ob xs ea =>
    cases (show u=Value.ref a from rx)
    obtain ⟨_,_,_,n,_,h1⟩:=(show ObjOk X.prog X.w H s.heap a (.frz ob (.lst xs)) from I.hok a _ ea)
    exact PySem.W.kia_one PySem.W.kitx_list I.kIn ⟨_,h1,rfl⟩ e (fun z=>nomatch z) h
  | @tup a xs ea =>
    cases (show u=Value.ref a from rx)
    obtain ⟨_,_,_,p⟩:=(show ObjOk X.prog X.w H s.heap a (.tup xs) from I.hok a _ ea)
    obtain ⟨o,h1,h2,_⟩:=p
    exact PySem.W.kia_one PySem.W.kitx_tuple I.kIn ⟨o,h1,h2⟩ e (fun z=>nomatch z) h
  | @dK a kvs ea =>
    cases (show u=Value.ref a from rx)
    obtain ⟨_,_,vs,_,p⟩:=(show ObjOk X.prog X.w H s.heap a (.dK kvs) from I.hok a _ ea)
    obtain ⟨o,es,ep,h1,h2,_⟩:=p
    exact PySem.W.kia_one PySem.W.kitx_dict I.kIn ⟨o,h1,h2.1⟩ e (fun z=>nomatch z) h
  | @dT a kvs ea =>
    cases (show u=Value.ref a from rx)
    obtain ⟨_,_,xs,_,o,es,ep,h1,h2,_⟩:=(show ObjOk X.prog X.w H s.heap a (.dT kvs) from I.hok a _ ea)
    exact PySem.W.kia_one PySem.W.kitx_dict I.kIn ⟨o,h1,h2.1⟩ e (fun z=>nomatch z) h
  | @ins a C dx fs ea cl ha hn htk hm =>
    cases (show u=Value.ref a from rx)
    obtain ⟨mA,O,_⟩:=ins_get I.hok ea
    obtain ⟨od,J,_⟩:=O.look
    exact PySem.W.kia_one (PySem.W.kitx_own (cl.get _) cl.hd ha hn htk hm) I.kIn J e (fun z=>nomatch z) h
end
end L2
namespace L2
open PySem PySem.Spec PyProof.Rows
structure Room (k:Nat) (A:Around):Prop where
  hd:A.handled=none
  dp:A.depth + 3 * k + 5 < recursionLimit
  un:A.units + 16 * k + 200 < cLine
theorem Room.mono {j k:Nat} {A:Around} (r:Room k A) (h:j≤k):Room j A:=⟨r.hd,by have:=r.dp; omega,by have:=r.un; omega⟩
theorem Room.deeper {k:Nat} {A:Around} (r:Room (k + 1) A) (env:Env):Room k (A.deeper env):=
  ⟨r.hd,by have:=r.dp; show A.depth + 1 + 3 * k + 5 < _; omega,by have:=r.un; show A.units + 3 + 16 * k + 200 < _; omega⟩
theorem make_depth {A:Around} {C:Addr} {us:List Value} {kw:List (Str×Value)}:(A.under (.builtin "type.__call__" ⟨.ref C :: us,kw⟩)).depth=A.depth + 1:=by
  first | rfl | simp [Around.under,Code.weight,Code.isCreation,Code.isGuard,Code.isCaller,Code.frames,Code.isFrame,guardIds]
theorem make_units {A:Around} {C:Addr} {us:List Value} {kw:List (Str×Value)}:(A.under (.builtin "type.__call__" ⟨.ref C :: us,kw⟩)).units=A.units + 1:=by
  first | rfl | simp [Around.under,Code.cUnits,Code.frames,Code.isFrame]
theorem Room.make {k:Nat} {A:Around} (r:Room (k + 1) A) (C:Addr) (us:List Value) (kw:List (Str×Value)):Room k (A.under (.builtin "type.__call__" ⟨.ref C :: us,kw⟩)):=
  ⟨r.hd,by have:=r.dp; rw [make_depth]; omega,by have:=r.un; rw [make_units]; omega⟩
theorem Room.depth {k:Nat} {A:Around} (r:Room k A):A.depth < recursionLimit:=by have:=r.dp; omega
def tNil:TA:=fun _ H Q=>Q [] H
def tCons (ta:TE) (tr:TA):TA:=fun σ H Q=>ta σ H fun x H1=>tr σ H1 fun xs H2=>Q (x :: xs) H2
section
variable {X:Cx} {e:Expr} {es:List Expr} {te:TE} {t:TA} {pos:Pos}
theorem pa_nil:PA X [] tNil:=fun _ _ _ _ H Q I h=>Calls.spliced_nil ⟨[],H,I,.nil,h⟩
theorem pa_cons (ha:PE X e te) (hr:PA X es t) (hs:starEach (e :: es) X.env=(false,eval e X.env) :: starEach es X.env:=by rfl):PA X (e :: es) (tCons te t):=by
  intro pos pins s σ H Q I h
  rw [hs]
  show wpAny _ _ (spliced ((false,eval e X.env) :: backTo pos (starEach es X.env))) _ _ s
  refine Calls.spliced_cons (thn (ha pins s σ H _ I h) fun u s1 ⟨x,H1,I1,r1,q1⟩=>?_)
  exact thn (hr pos pins s1 σ H1 _ I1 q1) fun us s2 ⟨xs,H2,I2,r2,q2⟩=>⟨x :: xs,H2,I2,.cons r1 r2,q2⟩
def tTup (t:TA):TE:=fun σ H Q=>t σ H fun xs H1=>xs.length≤sizeLine∧∀ p,H1 p=none→Q (.ref p) (upd H1 p (.tup xs))
def tLst (t:TA):TE:=fun σ H Q=>t σ H fun xs H1=>xs.length≤sizeLine∧∀ p,H1 p=none→Q (.ref p) (upd H1 p (.lst xs))
theorem pe_tup {x1} (h:PA X es t):PE X (.Tuple es x1 pos) (tTup t):=by
  intro pins s σ H Q I hq
  refine wpAny_Tuple_spliced (thn (h pos pins s σ H _ I hq) fun us s1 ⟨xs,H1,I1,r,z,q⟩=>⟨by rw [← r.length]; exact z,?_⟩)
  have hf:H1 s1.heap.objs.size=none:=I1.hok.fresh (Nat.le_refl _)
  refine ⟨.ref s1.heap.objs.size,upd H1 s1.heap.objs.size (.tup xs),I1.laid (t':=s1.toks) (fun b u e=>Heap.get?_push_of_some _ e) (Nat.le_refl _) ?_,rfl,q _ hf⟩
  exact ⟨z,us,r,⟨_,Heap.get?_push_size _ rfl,rfl,_,rfl⟩⟩
theorem pe_lst (h:PA X es t):PE X (.List es pos) (tLst t):=by
  intro pins s σ H Q I hq
  refine wpAny_List_spliced (thn (h pos pins s σ H _ I hq) fun us s1 ⟨xs,H1,I1,r,z,q⟩=>⟨by rw [← r.length]; exact z,?_⟩)
  have hf:H1 s1.heap.objs.size=none:=I1.hok.fresh (Nat.le_refl _)
  refine ⟨.ref s1.heap.objs.size,upd H1 s1.heap.objs.size (.lst xs),I1.laid (t':=s1.toks) (fun b u e=>Heap.get?_push_of_some _ e) (Nat.le_refl _) ?_,rfl,q _ hf⟩
  exact ⟨z,us,0,r,Heap.get?_push_size _ rfl⟩
end
abbrev Sp:=List V→Hp→VK→XK→Prop
abbrev CXT:=List Env→Hp→Shared→XK→Value→Shared→Prop
structure Env0 (P:Program) (w:World) (K:PySem.W.Frag) (mg:Str→Option Value) (base:Heap) (A:Around) (outer:List Env) (s:Shared) (H:Hp):Prop where
  frames:A.frames=some outer
  mod:Mod K mg base
  bs:∀ b o,base.get? b=some o→s.heap.get? b=some o∧H b=none
  bsz:base.objs.size≤s.heap.objs.size
  funs:s.heap.FunFrames base outer
  frf:∀ b∈frs outer,H b=none
  hok:HOk P w H s.heap
  bare:AllBare s.gens
def CE (outer:List Env) (P:Program) (w:World) (H:Hp) (s:Shared) (Q:VK) (u:Value) (s':Shared):Prop:=
  ∃ v H',s'.os=s.os∧AllBare s'.gens∧Un (frs outer) [] H H' s.heap s'.heap∧HOk P w H' s'.heap∧RelV v u∧Q v H'
def CR (CX:CXT) (outer:List Env) (P:Program) (w:World) (H:Hp) (s:Shared) (Q:VK) (E:XK) (r:Result) (s':Shared):Prop:=
  match r with
  | .ok (.ret u)=>CE outer P w H s Q u s'
  | .ok _=>False
  | .error e=>CX outer H s E e s'
structure FnOk (P:Program) (w:World) (K:PySem.W.Frag) (mg:Str→Option Value) (base:Heap) (CX:CXT) (k:Nat) (f:Addr) (fd:FuncData) (ps:List Str) (sp:Sp):Prop where
  len:∀ vs H Q E,sp vs H Q E→vs.length=ps.length
  run:∀ (A:Around) (outer:List Env) (s:Shared) (H:Hp) (args:Args) (us:List Value) (vs:List V) (Q:VK) (E:XK),Room k A→Env0 P w K mg base A outer s H→BindsTo s fd args (ps.zip us)→Vals vs us→sp vs H Q E →
    codeAny (model P w) A (.call (.ref f) args) (CR CX outer P w H s Q E) s
theorem FnOk.mono {P:Program} {w:World} {K:PySem.W.Frag} {mg:Str→Option Value} {base:Heap} {CX:CXT} {j k:Nat} {f:Addr} {fd:FuncData} {ps:List Str} {sp:Sp} (F:FnOk P w K mg base CX j f fd ps sp) (h:j≤k) :
    FnOk P w K mg base CX k f fd ps sp:=⟨F.len,fun A outer s H args us vs Q E hr=>F.run A outer s H args us vs Q E (hr.mono h)⟩
theorem Env0.make {P:Program} {w:World} {K:PySem.W.Frag} {mg:Str→Option Value} {base:Heap} {A:Around} {outer:List Env} {s:Shared} {H:Hp} (e:Env0 P w K mg base A outer s H) (C:Addr) (us:List Value) (kw:List (Str×Value)) :
    Env0 P w K mg base (A.under (.builtin "type.__call__" ⟨.ref C :: us,kw⟩)) outer s H:=⟨by first | exact e.frames | (simpa [Around.under,Code.envs,Code.isFrame,pushEnvs] using e.frames),e.mod,e.bs,e.bsz,e.funs,e.frf,e.hok,e.bare⟩
section
variable {X:Cx} {pins:List (Addr×Obj)} {σ:St} {H:Hp} {s s':Shared}
theorem Inv.env0 (I:Inv X pins σ H s):Env0 X.prog X.w X.K X.mg X.base X.A X.stack s H:=
  ⟨I.ok.frames,I.ok.mod,I.bs,Nat.le_trans I.ok.bsz I.sz,I.stack,I.stkFree,I.hok,I.bare⟩
theorem Inv.after {Q:VK} {u:Value} (I:Inv X pins σ H s) (h:CE X.stack X.prog X.w H s Q u s'):EP X pins σ Q u s':=by
  obtain ⟨v,H',os,bare,un,hok,r,q⟩:=h
  obtain ⟨hh,g,d,t,os'⟩:=s'
  obtain rfl:os'=s.os:=os
  exact ⟨v,H',I.call (h':=hh) (g':=g) (d':=d) (t':=t) (ch:=[]) un hok bare (fun b z=>absurd z (by simp)),r,q⟩
end
def tCall (sp:Sp) (dvs:List V) (E:XK) (t:TA):TE:=fun σ H Q=>t σ H fun vs H1=>sp (vs++dvs) H1 Q E
def tMeth (C:Addr) (m:Str) (sp:Sp) (dvs:List V) (E:XK) (ta:TE) (t:TA):TE:=fun σ H Q=>ta σ H fun x H1=>∃ a dx fs,x=.ref a∧H1 a=some (.ins C dx fs)∧fs.lookup m=none ∧
  t σ H1 fun vs H2=>sp (x :: (vs++dvs)) H2 Q E
def tMake (C:Addr) (sp:Sp) (dvs:List V) (E:XK) (t:TA):TE:=fun σ H Q=>t σ H fun vs H1=>∀ x dx,H1 x=none→H1 dx=none→dx≠x →
  sp (.ref x :: (vs++dvs)) (upd (upd H1 dx (.own x)) x (.ins C dx [])) (fun v H2=>v=.non∧Q (.ref x) H2) E
def Binds (K:PySem.W.Frag) (fd:FuncData) (ps:List Str) (ds:List Value):Prop:=
  ∀ (s:Shared) (us:List Value),K.In s.heap→(us++ds).length=ps.length→BindsTo s fd ⟨us,[]⟩ (ps.zip (us++ds))
theorem Binds.all {K:PySem.W.Frag} {fd:FuncData} {ps:List Str} (h:∀ us:List Value,us.length=ps.length→bindArgs fd ⟨us,[]⟩=pure (ps.zip us)):Binds K fd ps []:=fun s us _ hl=>by
  rw [List.append_nil] at hl ⊢
  exact .of_eq (h us hl)
def Passes (CX:CXT) (X:Cx) (E:XK):Prop:=∀ (pins:List (Addr×Obj)) (σ:St) (H:Hp) (s:Shared) (e:Value) (s':Shared),Inv X pins σ H s→CX X.stack H s E e s'→X.xe e s'
section
variable {X:Cx} {CX:CXT} {k:Nat} {f C:Addr} {fd:FuncData} {ps:List Str} {sp:Sp} {dvs:List V} {ds:List Value} {E:XK} {x m:Str} {p pos apos:Pos} {e o:Expr} {es:List Expr} {ta:TE} {t:TA}
theorem run_fn {pins:List (Addr×Obj)} {σ:St} {H:Hp} {s:Shared} {Q:VK} {us:List Value} {vs:List V} (F:FnOk X.prog X.w X.K X.mg X.base CX k f fd ps sp) (hr:Room k X.A) (hb:Binds X.K fd ps ds) (hd:Vals dvs ds) (hx:Passes CX X E)
    (I:Inv X pins σ H s) (r:Vals vs us) (h:sp (vs++dvs) H Q E):wpAny (model X.prog X.w) X.A (call (.ref f) us) (EP X pins σ Q) X.xe s:=by
  have r2:Vals (vs++dvs) (us++ds):=r.append hd
  have hl:(us++ds).length=ps.length:=by rw [← r2.length]; exact F.len _ _ _ _ h
  refine wpAny_call (codeAny_mono (F.run X.A X.stack s H ⟨us,[]⟩ (us++ds) (vs++dvs) Q E hr I.env0 (hb s us I.kIn hl) r2 h) fun r s' hq=>?_)
  cases r with
  | error e=>exact hx pins σ H s e s' I hq
  | ok fl =>
    cases fl with
    | ret u=>exact I.after hq
    | next=>exact False.elim hq
    | brk=>exact False.elim hq
    | cont=>exact False.elim hq
theorem pe_call (F:FnOk X.prog X.w X.K X.mg X.base CX k f fd ps sp) (hr:Room k X.A) (hg:Gl X x) (hm:X.mg x=some (.ref f)) (hk:PySem.W.keepIn X.K (.ref f)=true) (hb:Binds X.K fd ps ds) (hd:Vals dvs ds) (hx:Passes CX X E)
    (ha:PA X (e :: es) t) (hdb:(x == ("__debug__":Str))=false:=by decide) (he:starEach (e :: es) X.env=(false,eval e X.env) :: starEach es X.env:=by rfl) (hpl:(backTo pos (starEach es X.env)).any (·.1)=false:=by rfl) :
    PE X (.Call (.Name x p) (e :: es) [] pos) (tCall sp dvs E t):=by
  intro pins s σ H Q I h
  refine wpAny_Call_Name_kw (ld_glob I hg hm ?_ hdb)
  refine PySem.W.callWith_K (h₀:=X.base) I.ok.mod.kin hk (thn (ha pos pins s σ H _ I h) fun us s1 ⟨vs,H1,I1,r,q⟩=>⟨I1.kIn,?_⟩) he hpl
  exact run_fn F hr hb hd hx I1 r q
structure Mk (K:PySem.W.Frag) (C f:Addr):Prop where
  makes:PySem.W.makesIn K C=true
  init:PySem.W.findIn K (.ref C) "__init__"=some (some (.ref f))
  fn:PySem.W.isFn K (.ref f)=true
  kp:PySem.W.keepIn K (.ref C)=true
end
def PK (X:Cx) (kws:List Keyword) (t:TA):Prop:=
  ∀ (pos:Pos) (pins:List (Addr×Obj)) (s:Shared) (σ:St) (H:Hp) (Q:List V→Hp→Prop),Inv X pins σ H s→t σ H Q→wpAny (model X.prog X.w) X.A (evalAll ((backToKw pos (keywordEach kws X.env)).map (·.2))) (AP X pins σ Q) X.xe s
section
variable {X:Cx} {CX:CXT} {k:Nat} {f C:Addr} {fd:FuncData} {ps ks:List Str} {sp:Sp} {E:XK} {x m:Str} {p pos apos kpos:Pos} {e o:Expr} {es:List Expr} {kws:List Keyword} {te ta:TE} {t tk:TA} {nm:Option Str}
structure KBinds (K:PySem.W.Frag) (fd:FuncData) (ps ks:List Str) (g:List Value→List Value→List Value) (gV:List V→List V→List V):Prop where
  to:∀ (s:Shared) (us ws:List Value),K.In s.heap→(g us ws).length=ps.length→BindsTo s fd ⟨us,ks.zip ws⟩ (ps.zip (g us ws))
  rel:∀ {vs:List V} {us:List Value} {zs:List V} {ws:List Value},Vals vs us→Vals zs ws→Vals (gV vs zs) (g us ws)
def tCallK (sp:Sp) (gV:List V→List V→List V) (E:XK) (t tk:TA):TE:=fun σ H Q=>t σ H fun vs H1=>tk σ H1 fun zs H2=>sp (gV vs zs) H2 Q E
variable {g:List Value→List Value→List Value} {gV:List V→List V→List V}
end
structure FnScope (N P:List Str) (sc:Scope):Prop where
  kind:sc.kind=.function
  co:sc.isCoroutine=false
  gen:sc.isGenerator=false
  nd:N.Nodup
  pre:N.take P.length=P
  par:∀ x∈P,sc.names.lookup x=some .local∨sc.names.lookup x=some .cell
  nofree:∀ y∈sc.names,y.2≠.free
theorem bindL_out {kindOf:Str→Option NameKind} {x:Str}:∀ {binds:List (Str×Value)} {m:Str→Option Value},(∀ v,(x,v)∉binds)→bindL kindOf binds m x=m x
  | [],_,_=>rfl
  | (n,v) :: r,m,h=>by
    unfold bindL
    rw [bindL_out fun w hw=>h w (List.mem_cons_of_mem _ hw)]
    split
    · have:x≠n:=by rintro rfl; exact h v List.mem_cons_self
      simp [this]
    · rfl
theorem bindC_out {kindOf:Str→Option NameKind} {x:Str}:∀ {binds:List (Str×Value)} {m:Str→Option Value},(∀ v,(x,v)∉binds)→bindC kindOf binds m x=m x
  | [],_,_=>rfl
  | (n,v) :: r,m,h=>by
    unfold bindC
    rw [bindC_out fun w hw=>h w (List.mem_cons_of_mem _ hw)]
    split
    · rfl
    · have:x≠n:=by rintro rfl; exact h v List.mem_cons_self
      simp [this]
theorem bindL_get {kindOf:Str→Option NameKind} {x:Str} {v:Value}:∀ {P:List Str} {vs:List Value} {i:Nat} {m:Str→Option Value},P.Nodup→P[i]?=some x→vs[i]?=some v→kindOf x=some .local →
    bindL kindOf (P.zip vs) m x=some v
  | [],_,_,_,_,h,_,_=>by simp at h
  | _ :: _,[],_,_,_,_,h,_=>by simp at h
  | p :: P,w :: vs,0,m,nd,h1,h2,hk=>by
    simp at h1 h2; subst h1; subst h2
    show bindL kindOf ((p,w) :: P.zip vs) m p=_
    unfold bindL
    rw [bindL_out fun v hv=>(List.nodup_cons.mp nd).1 (List.of_mem_zip hv).1,if_pos hk]
    simp
  | p :: P,w :: vs,i + 1,m,nd,h1,h2,hk=>by
    show bindL kindOf ((p,w) :: P.zip vs) m x=_
    unfold bindL
    exact bindL_get (i:=i) (List.nodup_cons.mp nd).2 (by simpa using h1) (by simpa using h2) hk
theorem bindC_get {kindOf:Str→Option NameKind} {x:Str} {v:Value}:∀ {P:List Str} {vs:List Value} {i:Nat} {m:Str→Option Value},P.Nodup→P[i]?=some x→vs[i]?=some v→kindOf x≠some .local →
    bindC kindOf (P.zip vs) m x=some v
  | [],_,_,_,_,h,_,_=>by simp at h
  | _ :: _,[],_,_,_,_,h,_=>by simp at h
  | p :: P,w :: vs,0,m,nd,h1,h2,hk=>by
    simp at h1 h2; subst h1; subst h2
    show bindC kindOf ((p,w) :: P.zip vs) m p=_
    unfold bindC
    rw [bindC_out fun v hv=>(List.nodup_cons.mp nd).1 (List.of_mem_zip hv).1,if_neg hk]
    simp
  | p :: P,w :: vs,i + 1,m,nd,h1,h2,hk=>by
    show bindC kindOf ((p,w) :: P.zip vs) m x=_
    unfold bindC
    exact bindC_get (i:=i) (List.nodup_cons.mp nd).2 (by simpa using h1) (by simpa using h2) hk
def start (N:List Str) (vs:List V):St:=vs.map some++List.replicate (N.length - vs.length) none
def cxOf (CX:CXT) (P:Program) (w:World) (K:PySem.W.Frag) (mg:Str→Option Value) (base:Heap) (N:List Str) (qual:Str) (scope:Scope) (f:Addr) (cd:Value) (A:Around) (outer:List Env) (s:Shared) (H:Hp) (E:XK):Cx where
  prog:=P
  w:=w
  K:=K
  mg:=mg
  base:=base
  A:=A.deeper (envOfC qual scope s.heap.objs.size f cd)
  N:=N
  s₀:=s
  H₀:=H
  env:=envOfC qual scope s.heap.objs.size f cd
  outer:=outer
  stack:=envOfC qual scope s.heap.objs.size f cd :: outer
  ex:=[]
  calm:=true
  fn:=fun _=>true
  pn:=[]
  xe:=fun e s'=>wpAny (model P w) (A.deeper (envOfC qual scope s.heap.objs.size f cd)) (leaving (envOfC qual scope s.heap.objs.size f cd) e) (fun _ s''=>CX outer H s E e s'') (fun e' s''=>CX outer H s E e' s'') s'
theorem cell_has {sc:Scope} {n:Nat} {x:Str} (h:sc.names.lookup x=some .cell):∃ c,(cellsFrom n sc.names []).lookup x=some c:=by
  have q:=PySem.W.cellsFrom_some sc.names n [] (.inl h)
  exact Option.isSome_iff_exists.mp q
theorem inv_start {CX:CXT} {P:Program} {w:World} {K:PySem.W.Frag} {mg:Str→Option Value} {base:Heap} {N ps:List Str} {qual:Str} {scope:Scope} {f:Addr} {cd:Value} {A:Around} {outer:List Env} {s s1:Shared} {H:Hp} {E:XK} {us:List Value} {vs:List V}
    (S:FnScope N ps scope) (hd:A.handled=none) (e0:Env0 P w K mg base A outer s H) (hl:vs.length=ps.length) (r:Vals vs us)
    (x:InCallC s s.heap.objs.size (bindL (envOfC qual scope s.heap.objs.size f cd).kindOf (ps.zip us) fun _=>none) (cellsFrom (s.heap.objs.size + 1) scope.names []) (bindC (envOfC qual scope s.heap.objs.size f cd).kindOf (ps.zip us) fun _=>none) s1) :
    Inv (cxOf CX P w K mg base N qual scope f cd A outer s H E) [] (start N vs) H s1:=by
  have hpl:ps.length≤N.length:=by have:=congrArg List.length S.pre; rw [List.length_take] at this; omega
  obtain ⟨h1,tk,rfl,hk⟩:=x.done
  have noA:∀ b:Addr,b∉(cxOf CX P w K mg base N qual scope f cd A outer s H E).ex:=fun b z=>absurd (show b∈([]:List Addr) from z) (by simp)
  refine ⟨⟨e0.mod,S.kind,rfl,rfl,Nat.le_refl _,fun y z c h1 h2=>?_,fun y hy=>?_,fun y c _ h=>?_,fun _=>hd,Around.frames_deeper e0.frames,.inr ⟨rfl,rfl⟩,fun b z=>absurd z (noA b),e0.bs,e0.bsz,fun b _ _=>noA b,fun b z=>absurd z (noA b),e0.funs,e0.frf⟩,
    rfl,e0.bare,Un.kept hk,⟨_,x.toInCall.ns,fun i y v h1 h2 h3=>?_⟩,fun y c h=>⟨_,x.cell y c h⟩,e0.hok.fresh (Nat.le_refl _),fun y c h=>?_,fun p hp=>absurd (show p∈([]:List (Addr×Obj)) from hp) (by simp),e0.hok.kept hk,?_⟩
  · exact name_of_addr x.apart (PySem.mem_of_lookup h1) (PySem.mem_of_lookup h2)
  · have hy:scope.names.lookup y=some .cell∨scope.names.lookup y=some .free:=hy
    rcases hy with hy | hy
    · exact cell_has hy
    · exact absurd rfl (S.nofree _ (PySem.mem_of_lookup hy))
  · exact Nat.le_of_lt (x.above y c (PySem.mem_of_lookup h))
  · have hi:i < vs.length:=by
      unfold start at h2
      by_cases hi:i < vs.length
      · exact hi
      · rw [List.getElem?_append_right (by simpa using hi)] at h2
        rw [List.getElem?_replicate] at h2
        split at h2 <;> cases h2
    have ha:vs[i]?=some v:=by
      unfold start at h2
      rw [List.getElem?_append_left (by simpa using hi),List.getElem?_map] at h2
      cases e:vs[i]? with
      | none=>rw [e] at h2; cases h2
      | some a=>rw [e] at h2; cases h2; rfl
    obtain ⟨u,hu,rv⟩:=r.get ha
    have hp:ps[i]?=some y:=by
      rw [← S.pre,List.getElem?_take_of_lt (by omega)]; exact h1
    have ndP:ps.Nodup:=by rw [← S.pre]; exact S.nd.sublist (List.take_sublist _ _)
    refine ⟨u,rv,?_⟩
    rcases S.par y (List.mem_of_getElem? hp) with k | k
    · exact .inl ⟨k,bindL_get ndP hp hu k⟩
    · obtain ⟨c,e⟩:=cell_has (n:=s.heap.objs.size + 1) k
      refine .inr ⟨.inl k,c,e,?_⟩
      have q:=x.cell y c e
      rw [bindC_get ndP hp hu (by show scope.names.lookup y≠_; rw [k]; decide)] at q
      exact q
  · exact e0.hok.fresh (Nat.le_of_lt (x.above y c (PySem.mem_of_lookup h)))
  · unfold start
    show _=N.length
    rw [List.length_append,List.length_map,List.length_replicate]
    omega
theorem fn_of {CX:CXT} {P:Program} {w:World} {K:PySem.W.Frag} {mg:Str→Option Value} {base:Heap} {k:Nat} {f:Addr} {name qual:Str} {params:Arguments} {body:List Stmt} {scope:Scope} {dV kV doc pm cdv ct oc:Value} {an od:Option Addr}
    {osl:Array (Option Value)} {N ps:List Str} {sp:Sp} (lk:K.lookup f=some ⟨oc,od,.func (PySem.W.fnOf name qual params body scope dV kV doc pm an cdv ct),osl⟩) (hcd:PySem.W.codeIn K cdv qual=true) (S:FnScope N ps scope)
    (len:∀ vs H Q E,sp vs H Q E→vs.length=ps.length)
    (hbody:∀ (A:Around) (outer:List Env) (s:Shared) (H:Hp) (vs:List V) (Q:VK) (E:XK),Room k (A.deeper (envOfC qual scope s.heap.objs.size f cdv))→sp vs H Q E →
      ∃ t,PSs (cxOf CX P w K mg base N qual scope f cdv A outer s H E) body t∧t {nx:=fun _ H'=>Q .non H',rt:=Q} (start N vs) H) :
    FnOk P w K mg base CX (k + 1) f (PySem.W.fnOf name qual params body scope dV kV doc pm an cdv ct) ps sp:=by
  refine ⟨len,fun A outer s H args us vs Q E hr e0 hb r hsp=>?_⟩
  have hl:=len _ _ _ _ hsp
  have KX:K.In s.heap:=e0.mod.kin.keeps fun b o e=>(e0.bs b o e).1
  have lim:s.heap.NoLimit:=e0.mod.nolimit.keeps fun b o e=>(e0.bs b o e).1
  have hkind:∀ y∈ps.zip us,scope.names.lookup y.1=some .local∨(scope.names.lookup y.1=some .cell∧((cellsFrom (s.heap.objs.size + 1) scope.names []).lookup y.1).isSome=true):=fun ⟨n,v⟩ hy=>by
    rcases S.par n (List.of_mem_zip hy).1 with q | q
    · exact .inl q
    · exact .inr ⟨q,PySem.W.cellsFrom_some _ _ _ (.inl q)⟩
  refine codeAny_call_function hr.depth (KX _ _ lk) rfl S.co S.gen rfl (PySem.W.codeRec_of KX hcd) (hb _ _ _ _ ?_)
  refine wpAny_newFunctionEnv_cells S.kind hkind fun env he s1 x=>?_
  subst he
  refine ⟨lim.keeps x.toInCall.keep,codeAny_func ?_⟩
  obtain ⟨t,ht,hq⟩:=hbody A outer s H vs Q E (hr.deeper _) hsp
  have I:Inv (cxOf CX P w K mg base N qual scope f cdv A outer s H E) [] (start N vs) H s1:=inv_start S hr.hd e0 hl r x
  refine wpAny_mono (ht [] s1 (start N vs) H _ I hq) (fun fl s' hs=>?_) fun e s' hs=>hs
  have fin:∀ {σ':St} {H':Hp} {v:V} {u:Value},Inv (cxOf CX P w K mg base N qual scope f cdv A outer s H E) [] σ' H' s'→RelV v u→Q v H'→CE outer P w H s Q u s':=
    fun {σ' H' v u} J rv q=>⟨v,H',J.os,J.bare,J.base,J.hok,rv,q⟩
  cases fl with
  | ret u =>
    obtain ⟨v,σ',H',J,rv,q⟩:=hs
    exact fin J rv q
  | next =>
    obtain ⟨σ',H',J,q⟩:=hs
    exact fin (v:=V.non) (u:=Value.none) J rfl q
  | brk =>
    obtain ⟨_,_,_,q⟩:=hs
    exact False.elim q
  | cont =>
    obtain ⟨_,_,_,q⟩:=hs
    exact False.elim q
end L2
namespace L2
open PySem PySem.Spec PyProof.Rows
section
variable {X:Cx} {x:Str} {p pos:Pos} {e:Expr} {es:List Expr} {t:TA} {id T:String} {r:List V→Hp→VK→Prop}
def tCB (r:List V→Hp→VK→Prop) (t:TA):TE:=fun σ H Q=>t σ H fun vs H1=>r vs H1 Q
theorem pe_callB (hc:CallR X (.builtin id) r) (hg:Gl X x) (hm:X.mg x=none) (hv:bootBuiltins x=some (.builtin id)) (ha:PA X (e :: es) t) (hn:x≠"__name__":=by decide) (hdb:(x == ("__debug__":Str))=false:=by decide)
    (he:starEach (e :: es) X.env=(false,eval e X.env) :: starEach es X.env:=by rfl) (hpl:(backTo pos (starEach es X.env)).any (·.1)=false:=by rfl):PE X (.Call (.Name x p) (e :: es) [] pos) (tCB r t):=by
  intro pins s σ H Q I h
  refine wpAny_Call_Name_kw (ld_blt I hg hm hv ?_ hn hdb)
  exact PyProof.Rows.callWith_builtin1 (thn (ha pos pins s σ H _ I h) fun us s1 ⟨vs,H1,I1,r1,q1⟩=>hc pins s1 σ H1 vs us Q I1 r1 q1) he hpl
theorem pe_callTy (hc:CallR X (.type T) r) (hg:Gl X x) (hm:X.mg x=none) (hv:bootBuiltins x=some (.type T)) (ha:PA X (e :: es) t) (hn:x≠"__name__":=by decide) (hdb:(x == ("__debug__":Str))=false:=by decide)
    (he:starEach (e :: es) X.env=(false,eval e X.env) :: starEach es X.env:=by rfl) (hpl:(backTo pos (starEach es X.env)).any (·.1)=false:=by rfl):PE X (.Call (.Name x p) (e :: es) [] pos) (tCB r t):=by
  intro pins s σ H Q I h
  refine wpAny_Call_Name_kw (ld_blt I hg hm hv ?_ hn hdb)
  exact PyProof.Rows.callWith_type1 (thn (ha pos pins s σ H _ I h) fun us s1 ⟨vs,H1,I1,r1,q1⟩=>hc pins s1 σ H1 vs us Q I1 r1 q1) he hpl
end
end L2
namespace HT
open PySem PyProof.Rows
def lexLt:List Int→List Int→Bool
  | [],[]=>false
  | [],_ :: _=>true
  | _ :: _,[]=>false
  | x :: xs,y :: ys=>if x=y then lexLt xs ys else decide (x < y)
section
open PySem.SeqAt
open PySem.AutoSeq1 (wpAny_loadPart')
open PySem.MeetsSeq PySem.MeetsSeq2 PySem.MeetsSeq3
end
section
variable {prog:Program} {w:World} {A:Around} {E:Value→Shared→Prop} {s:Shared}
theorem cat_tup {t b:Addr} {vs ws:List Value} {Q:Value→Shared→Prop} (ht:IsTup s.heap t vs.toArray) (hb:IsTup s.heap b ws.toArray) (hv:vs≠[])
    (h1:ws=[]→Q (.ref t) s) (h2:ws≠[]→Q (.ref s.heap.objs.size) {s with heap:=s.heap.push {cls:=.type "tuple",data:=.seq (vs++ws).toArray}})
    (hsz:vs.length + ws.length≤sizeLine):wpAny (model prog w) A (binaryOp .Add (.ref t) (.ref b)) Q E s:=by
  obtain ⟨⟨cls,dd,data,sl⟩,ho,hc,n,hd⟩:=id ht
  obtain ⟨⟨cls2,dd2,data2,sl2⟩,ho2,hc2,n2,hd2⟩:=id hb
  simp only at hc hd hc2 hd2
  subst hc hd hc2 hd2
  have e:vs.toArray++ws.toArray=(vs++ws).toArray:=by simp
  by_cases hw:ws=[]
  · exact concat_meets ⟨_,ho,rfl⟩ ⟨_,ho2,rfl⟩ noFill_tuple_add seq_tuple_add PySem.F.slot_tuple_add PySem.F.entry_tuple_add (PySem.F.args_tuple_add_2 _ _)
      (tuple_addW1 t b vs.toArray ws.toArray n n2 dd dd2 sl sl2 (by simpa using hv) (by simp [hw])) ⟨ho,ho2,h1 hw⟩
  · refine concat_meets ⟨_,ho,rfl⟩ ⟨_,ho2,rfl⟩ noFill_tuple_add seq_tuple_add PySem.F.slot_tuple_add PySem.F.entry_tuple_add (PySem.F.args_tuple_add_2 _ _)
      (tuple_addW2 t b vs.toArray ws.toArray n n2 dd dd2 sl sl2 (by simpa using hv) (by simpa using hw) (by rw [List.size_toArray,List.size_toArray]; exact hsz)) ⟨ho,ho2,?_⟩
    rw [e]
    exact h2 hw
def sIx (n d:Nat):Option Int→Nat
  | none=>d
  | some v=>if v < 0 then (v + (n:Int)).toNat else min v.toNat n
theorem sIx_none (n d:Nat):sIx n d none=d:=rfl
theorem sIx_nat (n d k:Nat):sIx n d (some (k:Int))=min k n:=by
  show (if (k:Int) < 0 then ((k:Int) + (n:Int)).toNat else min (k:Int).toNat n)=min k n
  rw [if_neg (by omega),Int.toNat_natCast]
theorem sIx_le (n d:Nat) (hd:d≤n) (o:Option Int):sIx n d o≤n:=by
  cases o with
  | none=>exact hd
  | some v =>
    show (if v < 0 then (v + (n:Int)).toNat else min v.toNat n)≤n
    by_cases hv:v < 0
    · rw [if_pos hv]; omega
    · rw [if_neg hv]; exact Nat.min_le_right _ _
theorem clip_eq (v:Int) (n d:Nat):(if v < 0 then max (v + (n:Int)) 0 else min v (n:Int))=((sIx n d (some v):Nat):Int):=by
  show (if v < 0 then max (v + (n:Int)) 0 else min v (n:Int))=(((if v < 0 then (v + (n:Int)).toNat else min v.toNat n):Nat):Int)
  by_cases hv:v < 0
  · simp only [if_pos hv]; omega
  · simp only [if_neg hv]; omega
theorem adjust_gen (lo hi:Option Int) (n:Nat):Builtin.Slice.sliceAdjust lo hi 1 (n:Int)=(((sIx n 0 lo:Nat):Int),((sIx n n hi:Nat):Int)):=by
  have h1:¬ ((1:Int) < 0):=by omega
  unfold Builtin.Slice.sliceAdjust
  simp only [h1,if_false]
  refine Prod.ext ?_ ?_
  · cases lo with
    | none=>rfl
    | some v=>exact clip_eq v n 0
  · cases hi with
    | none=>rfl
    | some v=>exact clip_eq v n n
theorem places_gen (i j:Nat):Builtin.Slice.slicePlaces (i:Int) (j:Int) 1=j - i:=by
  unfold Builtin.Slice.slicePlaces
  have h1:(1:Int) > 0:=by omega
  simp only [h1,if_true,Int.ediv_one]
  split <;> omega
theorem slicePart_ {v:Value} {o:Option Int} {Q:Option Int→Shared→Prop} (p:IsPart v o) (h:Q o s):wpAny (model prog w) A (Builtin.Slice.slicePartIndex v) Q E s:=by
  cases p with
  | none=>exact slicePart_none h
  | int i t=>exact slicePart_int h
theorem sliceApplied_gen {sl:Addr} {vl vu:Value} {lo hi:Option Int} {n:Nat} {Q:Int×Int×Nat→Shared→Prop} (hs:s.heap.IsSliceOf sl vl vu .none) (pl:IsPart vl lo) (pu:IsPart vu hi)
    (h:Q (((sIx n 0 lo:Nat):Int),1,sIx n n hi - sIx n 0 lo) s):wpAny (model prog w) A (Builtin.Slice.sliceApplied (.ref sl) (pure (n:Int))) Q E s:=by
  obtain ⟨os,hos,hcs,hds⟩:=id hs
  unfold Builtin.Slice.sliceApplied Builtin.Slice.sliceFields
  refine wpAny_bind (wpAny_bind (wpAny_field hos hds (x:=vl) rfl (wpAny_bind (wpAny_field hos hds (x:=vu) rfl (wpAny_bind (wpAny_field hos hds (x:=.none) rfl (wpAny_pure ?_)))))))
  refine wpAny_bind (slicePart_none ?_)
  show wpAny _ _ (if ((1:Int) == 0)=true then _ else _) _ _ s
  rw [if_neg (by decide)]
  refine wpAny_bind (slicePart_ pl (wpAny_bind (slicePart_ pu (wpAny_bind (wpAny_pure ?_)))))
  show wpAny _ _ (match Builtin.Slice.sliceAdjust lo hi 1 (n:Int) with | (lo,hi)=>pure (lo,(1:Int),Builtin.Slice.slicePlaces lo hi 1)) _ _ s
  rw [adjust_gen lo hi n]
  show wpAny _ _ (pure (((sIx n 0 lo:Nat):Int),(1:Int),Builtin.Slice.slicePlaces ((sIx n 0 lo:Nat):Int) ((sIx n n hi:Nat):Int) 1)) _ _ s
  rw [places_gen]
  exact wpAny_pure h
theorem pick_gen (xs:Array Value) (i k:Nat):((List.range k).filterMap fun (m:Nat)=>xs[((i:Int) + (m:Int) * 1).toNat]?).toArray=((xs.toList.drop i).take k).toArray:=by
  have e:(fun (m:Nat)=>xs[((i:Int) + (m:Int) * 1).toNat]?)=fun m=>xs[i + m]?:=by
    funext m
    have:((i:Int) + (m:Int) * 1).toNat=i + m:=by omega
    rw [this]
  rw [e]
  have:=pick_run xs i k
  rw [List.filterMap_map] at this
  have e2:((fun x=>xs[x]?) ∘ fun x=>i + x)=fun m=>xs[i + m]?:=rfl
  rw [e2] at this
  rw [this]
theorem getItem_tuple_cut {t sl:Addr} {items:Array Value} {vl vu:Value} {lo hi:Option Int} {Q:Value→Shared→Prop} (ht:IsTup s.heap t items) (hs:s.heap.IsSliceOf sl vl vu .none) (pl:IsPart vl lo) (pu:IsPart vu hi)
    (hw:¬ (sIx items.size 0 lo=0∧sIx items.size items.size hi=items.size))
    (h:Q (.ref s.heap.objs.size) {s with heap:=s.heap.push {cls:=.type "tuple",data:=.seq ((items.toList.drop (sIx items.size 0 lo)).take (sIx items.size items.size hi - sIx items.size 0 lo)).toArray}})
    (hsz:items.size≤sizeLine):wpAny (model prog w) A (getItem (.ref t) (.ref sl)) Q E s:=by
  have htake:sizeOk (.seq ((items.toList.drop (sIx items.size 0 lo)).take (sIx items.size items.size hi - sIx items.size 0 lo)).toArray):=by
    show ((items.toList.drop (sIx items.size 0 lo)).take (sIx items.size items.size hi - sIx items.size 0 lo)).toArray.size≤sizeLine
    rw [List.size_toArray,List.length_take,List.length_drop,Array.length_toList]
    omega
  have hj:sIx items.size items.size hi≤items.size:=sIx_le _ _ (Nat.le_refl _) hi
  obtain ⟨os,hos,hcs,hds⟩:=id hs
  have hTs:s.TypeIs (.ref sl) "slice":=⟨os,hos,hcs⟩
  unfold getItem
  try with_reducible refine wpAny_holding ?_
  first | refine wpAny_bind (wpAny_pure ?_) | skip
  refine wpAny_bind (wpAny_sequenceKey ht.typeIs (by decide) ?_)
  refine wpAny_bind (wpAny_callSpecial?_slot (name:=Str.ofString "__getitem__") ht.typeIs PyProof.Rows.slot_tuple_getitem
    (wpAny_call_entry PyProof.Rows.slot_tuple_getitem ht.typeIs entry_tuple_getitem ?_ (args_tuple_getitem _ _)))
  show wpAny _ _ (Builtin.Tuple.tupleItemsOf (.ref t) >>= _) _ _ s
  refine wpAny_bind (tupleItemsOf_ ht ?_)
  refine wpAny_bind (wpAny_typeOf hTs ?_)
  rw [if_pos (by decide)]
  refine wpAny_bind (sliceApplied_gen hs pl pu ?_)
  have hno:¬ ((((sIx items.size 0 lo:Nat):Int) == 0 && (1:Int) == 1 && (sIx items.size items.size hi - sIx items.size 0 lo) == items.size)=true):=by
    intro q
    rw [Bool.and_eq_true,Bool.and_eq_true] at q
    have q1:((sIx items.size 0 lo:Nat):Int)=0:=eq_of_beq q.1.1
    have q2:sIx items.size items.size hi - sIx items.size 0 lo=items.size:=eq_of_beq q.2
    exact hw ⟨by omega,by omega⟩
  show wpAny _ _ (if (((sIx items.size 0 lo:Nat):Int) == 0 && (1:Int) == 1 && (sIx items.size items.size hi - sIx items.size 0 lo) == items.size)=true then _ else _) _ _ s
  rw [if_neg hno,pick_gen]
  first
    | exact wpAny_bind (m:=Builtin.Tuple.tupleExact _) (wpAny_newObj_type (wpAny_pure ⟨_,rfl,wpAny_pure h⟩) htake)
    | exact wpAny_bind (m:=Builtin.Tuple.tupleExact _) (wpAny_newObj_type (wpAny_bind (wpAny_pure (wpAny_pure ⟨_,rfl,wpAny_pure h⟩))) htake)
    | exact wpAny_bind (wpAny_bind (m:=Builtin.Tuple.tupleExact _) (wpAny_newObj_type (wpAny_pure (wpAny_pure ⟨_,rfl,wpAny_pure h⟩)) htake))
    | exact wpAny_bind (wpAny_bind (m:=Builtin.Tuple.tupleExact _) (wpAny_newObj_type (wpAny_pure ⟨_,rfl,wpAny_pure h⟩) htake))
end
end HT
namespace L2
open PySem PySem.Spec PyProof.Rows
abbrev TO:=St→Hp→(Option Int→Hp→Prop)→Prop
def PO (X:Cx) (e:Option Expr) (t:TO):Prop:=
  ∀ (pins:List (Addr×Obj)) (s:Shared) (σ:St) (H:Hp) (Q:Option Int→Hp→Prop),Inv X pins σ H s→t σ H Q →
    wpAny (model X.prog X.w) X.A (evalPart e X.env) (fun u s'=>∃ o H',Inv X pins σ H' s'∧IsPart u o∧Q o H') X.xe s
def tNoPart:TO:=fun _ H Q=>Q none H
def tPart (t:TE):TO:=fun σ H Q=>t σ H fun x H1=>∃ i,x=.int i∧Q (some i) H1
section
variable {X:Cx} {e:Expr} {te:TE} {lo hi:Option Expr} {tl th:TO} {pos p2:Pos}
theorem po_none:PO X none tNoPart:=by
  intro pins s σ H Q I h
  rw [evalPart_none]
  exact wpAny_pure ⟨none,H,I,.none,h⟩
theorem po_some (h:PE X e te):PO X (some e) (tPart te):=by
  intro pins s σ H Q I hw
  rw [evalPart_some]
  refine thn (h pins s σ H _ I hw) fun u s1 ⟨x,H1,I1,r1,q1⟩=>?_
  obtain ⟨i,rfl,q⟩:=q1
  obtain ⟨t,rfl⟩:=r1
  exact ⟨some i,H1,I1,.int i t,q⟩
def SlR (X:Cx) (r:V→Option Int→Option Int→Hp→VK→Prop):Prop:=
  ∀ (pins:List (Addr×Obj)) (s:Shared) (σ:St) (H:Hp) (x:V) (v vl vu:Value) (lo hi:Option Int) (sl:Addr) (Q:VK),Inv X pins σ H s→RelV x v→s.heap.IsSliceOf sl vl vu .none→IsPart vl lo→IsPart vu hi→r x lo hi H Q →
    ∃ T id,typeLookup (.type T) "__getitem__"=pure (some (.builtin id))∧s.TypeIs v T∧wpAny (model X.prog X.w) X.A (getItem v (.ref sl)) (EP X pins σ Q) X.xe s
def tSl (r:V→Option Int→Option Int→Hp→VK→Prop) (te:TE) (tl th:TO):TE:=fun σ H Q=>te σ H fun x H1=>tl σ H1 fun l H2=>th σ H2 fun u H3=>r x l u H3 Q
theorem pe_slice {r:V→Option Int→Option Int→Hp→VK→Prop} (hr:SlR X r) (he:PE X e te) (hl:PO X lo tl) (hu:PO X hi th):PE X (.Subscript e (.Slice lo hi none p2) pos) (tSl r te tl th):=by
  intro pins s σ H Q I h
  refine Subscript_ (thn (he pins s σ H _ I h) fun v s1 ⟨x,H1,I1,r1,q1⟩=>?_)
  refine wpAny_Slice (thn (hl pins s1 σ H1 _ I1 q1) fun vl s2 ⟨l,H2,I2,pl,q2⟩=>thn (hu pins s2 σ H2 _ I2 q2) fun vu s3 ⟨u,H3,I3,pu,q3⟩=>?_)
  rw [evalPart_none]
  refine wpAny_pure ?_
  have I4:Inv X pins σ H3 {s3 with heap:=s3.heap.push {cls:=.type "slice",data:=.fields #[vl,vu,.none]}}:=I3.kept (t':=s3.toks) fun b ob q=>Heap.get?_push_of_some _ q
  obtain ⟨T,id,hT,ht,hg⟩:=hr pins {s3 with heap:=s3.heap.push {cls:=.type "slice",data:=.fields #[vl,vu,.none]}} σ H3 x v vl vu l u s3.heap.objs.size Q I4 r1 (Heap.IsSliceOf.new ..) pl pu q3
  show wpAny (model X.prog X.w) X.A (subscriptTail e (.Slice lo hi none p2) v (.ref s3.heap.objs.size)) (EP X pins σ Q) X.xe {s3 with heap:=s3.heap.push {cls:=.type "slice",data:=.fields #[vl,vu,.none]}}
  exact tail_any (ops:=[.ref s3.heap.objs.size,v]) ht hT hg (by with_unfolding_all rfl)
def cutV (xs:List V) (lo hi:Option Int):List V:=(xs.drop (HT.sIx xs.length 0 lo)).take (HT.sIx xs.length xs.length hi - HT.sIx xs.length 0 lo)
theorem cutV_length (xs:List V) (lo hi:Option Int):(cutV xs lo hi).length≤xs.length:=by
  unfold cutV
  rw [List.length_take,List.length_drop]
  omega
def rSlT (K:PySem.W.Frag):V→Option Int→Option Int→Hp→VK→Prop:=fun x lo hi H Q=>∃ a xs,x=.ref a∧SqT K H a xs ∧
  ¬ (HT.sIx xs.length 0 lo=0∧HT.sIx xs.length xs.length hi=xs.length)∧∀ p,H p=none→Q (.ref p) (upd H p (.tup (cutV xs lo hi)))
theorem sl_tup:SlR X (rSlT X.K):=by
  intro pins s σ H x v vl vu lo hi sl Q I rx hs pl pu h
  obtain ⟨a,xs,rfl,hx,hw,q⟩:=h
  cases rx
  obtain ⟨its,r,ht,hz⟩:=I.tuple hx
  have hlen:its.toArray.size=xs.length:=by rw [List.size_toArray]; exact r.length.symm
  refine ⟨"tuple",_,PyProof.Rows.slot_tuple_getitem.lookup,ht.typeIs,?_⟩
  refine HT.getItem_tuple_cut ht hs pl pu (by rw [hlen]; exact hw) ?_ (by rw [hlen]; exact hz)
  rw [hlen]
  refine ⟨.ref s.heap.objs.size,_,I.laid (t':=s.toks) (o:=.tup (cutV xs lo hi)) (fun b ob q=>Heap.get?_push_of_some _ q) (Nat.le_refl _) ?_,rfl,q _ (I.hok.fresh (Nat.le_refl _))⟩
  exact ⟨Nat.le_trans (cutV_length xs lo hi) hz,_,(r.drop (HT.sIx xs.length 0 lo)).take (HT.sIx xs.length xs.length hi - HT.sIx xs.length 0 lo),IsTup.new _ _⟩
def rLtT (K:PySem.W.Frag):R2:=fun x y H Q=>∃ a b ns ms,x=.ref a∧y=.ref b∧SqT K H a (ns.map V.int)∧SqT K H b (ms.map V.int)∧Q (.bl (HT.lexLt ns ms)) H
def rCatT (K:PySem.W.Frag):R2:=fun x y H Q=>∃ a b xs ys,x=.ref a∧y=.ref b∧SqT K H a xs∧SqT K H b ys∧xs≠[]∧xs.length + ys.length≤sizeLine ∧
  (ys=[]→Q (.ref a) H)∧(ys≠[]→∀ p,H p=none→Q (.ref p) (upd H p (.tup (xs++ys))))
theorem Vals.nil_iff {xs:List V} {us:List Value} (r:Vals xs us):us=[]↔xs=[]:=by
  cases r with
  | nil=>simp
  | cons _ _=>simp
theorem op_catT:OpR X (binaryOp .Add) (rCatT X.K):=by
  intro pins s σ H x y v u Q I rx ry h
  obtain ⟨a,b,xs,ys,rfl,rfl,ha,hb,hx,hz,q1,q2⟩:=h
  cases rx
  cases ry
  obtain ⟨its,r1,p1,_⟩:=I.tuple ha
  obtain ⟨its2,r2,p2,_⟩:=I.tuple hb
  refine HT.cat_tup p1 p2 (fun z=>hx (r1.nil_iff.mp z)) (fun z=>⟨.ref a,H,I,rfl,q1 (r2.nil_iff.mp z)⟩) (fun z=>?_) (by rw [← r1.length,← r2.length]; exact hz)
  refine ⟨.ref s.heap.objs.size,_,I.laid (t':=s.toks) (o:=.tup (xs++ys)) (fun b ob q=>Heap.get?_push_of_some _ q) (Nat.le_refl _) ?_,rfl,q2 (fun w=>z (r2.nil_iff.mpr w)) _ (I.hok.fresh (Nat.le_refl _))⟩
  exact ⟨by rw [List.length_append]; exact hz,_,r1.append r2,IsTup.new _ _⟩
end
end L2
namespace L2
open PySem PySem.Spec PyProof.Rows
def ixN (n:Nat) (i:Int):Option Nat:=if 0≤i then (if i < n then some i.toNat else none) else if -(n:Int)≤i then some (i + n).toNat else none
def atI {α:Type} (xs:List α) (i:Int):Option α:=(ixN xs.length i).bind fun j=>xs[j]?
theorem ixN_seq {n:Nat} {i:Int} {j:Nat} (h:ixN n i=some j):seqIndex? i n=some j∧j < n∧-(n:Int)≤i∧i < n:=by
  unfold ixN at h
  by_cases h0:0≤i
  · rw [if_pos h0] at h
    by_cases h1:i < n
    · rw [if_pos h1] at h
      have e:i.toNat=j:=Option.some.inj h
      exact ⟨by rw [seqIndex_of h0 h1,e],by omega,by omega,h1⟩
    · rw [if_neg h1] at h; cases h
  · rw [if_neg h0] at h
    by_cases h1:-(n:Int)≤i
    · rw [if_pos h1] at h
      have e:(i + n).toNat=j:=Option.some.inj h
      exact ⟨by rw [seqIndex_neg (by omega) h1,e],by omega,h1,by omega⟩
    · rw [if_neg h1] at h; cases h
theorem atI_get {α:Type} {xs:List α} {i:Int} {v:α} (h:atI xs i=some v):∃ j,seqIndex? i xs.length=some j∧xs[j]?=some v∧j < xs.length∧-(xs.length:Int)≤i∧i < xs.length:=by
  unfold atI at h
  cases e:ixN xs.length i with
  | none=>rw [e] at h; cases h
  | some j =>
    rw [e] at h
    obtain ⟨h1,h2,h3,h4⟩:=ixN_seq e
    exact ⟨j,h1,h,h2,h3,h4⟩
theorem atI_nat {α:Type} {xs:List α} {j:Nat} {v:α} (h:xs[j]?=some v):atI xs (j:Int)=some v:=by
  have hj:j < xs.length:=(List.getElem?_eq_some_iff.mp h).1
  have e:ixN xs.length (j:Int)=some j:=by
    unfold ixN
    rw [if_pos (by omega),if_pos (by omega)]; simp
  unfold atI; rw [e]; exact h
theorem atI_last {α:Type} (xs:List α) (v:α):atI (xs++[v]) (-1)=some v:=by
  have hl:(xs++[v]).length=xs.length + 1:=by simp
  have e:ixN (xs++[v]).length (-1)=some xs.length:=by
    unfold ixN
    rw [hl,if_neg (by decide),if_pos (by omega)]
    congr 1
    omega
  unfold atI
  rw [e]
  show (xs++[v])[xs.length]?=some v
  simp
def PlainIx (b:Expr):Prop:=∀ o i,subscripted b false o i=operate [o,i] (getItem o i)
def IxR (X:Cx) (r:R2):Prop:=
  ∀ (value slice:Expr) (pins:List (Addr×Obj)) (s:Shared) (σ:St) (H:Hp) (x y:V) (v u:Value) (Q:VK),Inv X pins σ H s→RelV x v→RelV y u→r x y H Q →
    subscripted slice false v u=operate [v,u] (getItem v u)→wpAny (model X.prog X.w) X.A (subscriptTail value slice v u) (EP X pins σ Q) X.xe s
def MtR (X:Cx) (id:String) (r:V→List V→Hp→VK→Prop):Prop:=
  ∀ (pins:List (Addr×Obj)) (s:Shared) (σ:St) (H:Hp) (x:V) (xs:List V) (v:Value) (us:List Value) (Q:VK),Inv X pins σ H s→RelV x v→Vals xs us→r x xs H Q →
    wpAny (model X.prog X.w) X.A (call (.builtin id) (v :: us)) (EP X pins σ Q) X.xe s
section
variable {X:Cx} {a b:Expr} {ta tb:TE} {pos:Pos}
theorem pe_ix {r:R2} (hr:IxR X r) (ha:PE X a ta) (hb:PE X b tb) (hs:PlainIx b):PE X (.Subscript a b pos) (tOp r ta tb):=by
  intro pins s σ H Q I h
  exact Subscript_ (binT ha hb I h fun v u s2 x y H2 I2 rx ry q=>hr a b pins s2 σ H2 x y v u Q I2 rx ry q (hs _ _))
def rIxL (K:PySem.W.Frag):R2:=fun x y H Q=>∃ p xs i v,x=.ref p∧y=.int i∧SqL K H p xs∧atI xs i=some v∧Q v H
def rIxT (K:PySem.W.Frag):R2:=fun x y H Q=>∃ p xs i v,x=.ref p∧y=.int i∧SqT K H p xs∧atI xs i=some v∧Q v H
def rIxS:R2:=fun x y H Q=>∃ z i c,x=.str z∧y=.int i∧z.length≤sizeLine∧atI z.cps.toList i=some c∧Q (.str ⟨#[c]⟩) H
theorem ix_list:IxR X (rIxL X.K):=by
  intro value slice pins s σ H x y v u Q I rx ry h hs
  obtain ⟨p,xs,i,z,rfl,rfl,hq,he,q⟩:=h
  cases rx
  obtain ⟨t,rfl⟩:=ry
  obtain ⟨its,r,pl,hz⟩:=I.list hq
  obtain ⟨j,h1,h2,h3,h4,h5⟩:=atI_get he
  obtain ⟨w,ew,rw'⟩:=r.get h2
  have hl:=r.length
  have hn:=line63
  have fin:EP X pins σ Q w s:=⟨z,H,I,rw',q⟩
  by_cases h0:0≤i
  · have hj:i.toNat=j:=by
      rw [seqIndex_of h0 h5] at h1
      exact Option.some.inj h1
    exact item_listR pl.isList h0 (by omega) (by rw [hj]; simpa using ew) fin hs
  · have hj:(i + (its.toArray.size:Int)).toNat=j:=by
      rw [seqIndex_neg (by omega) h4] at h1
      rw [List.size_toArray,← hl]
      exact Option.some.inj h1
    exact subscriptTail_builtinR (x:=w) pl.isList.typeIs slot_list_getitem.lookup
      (wpAny_getItem_list_neg (Q:=fun r s'=>r=w∧EP X pins σ Q r s') pl.isList (by omega) (by rw [List.size_toArray] <;> omega) (by omega) (by rw [hj]; simpa using ew) ⟨rfl,fin⟩) hs
theorem ix_tup:IxR X (rIxT X.K):=by
  intro value slice pins s σ H x y v u Q I rx ry h hs
  obtain ⟨p,xs,i,z,rfl,rfl,hq,he,q⟩:=h
  cases rx
  obtain ⟨t,rfl⟩:=ry
  obtain ⟨its,r,pl,hz⟩:=I.tuple hq
  obtain ⟨j,h1,h2,h3,h4,h5⟩:=atI_get he
  obtain ⟨w,ew,rw'⟩:=r.get h2
  have hl:=r.length
  have hn:=line63
  have fin:EP X pins σ Q w s:=⟨z,H,I,rw',q⟩
  exact subscriptTail_builtinR (x:=w) pl.typeIs slot_tuple_getitem.lookup
    (getItem_tuple (j:=j) (Q:=fun r s'=>r=w∧EP X pins σ Q r s') pl (by omega) (by omega) (by rw [List.size_toArray,← hl]; exact h1) (by simpa using ew) ⟨rfl,fin⟩) hs
theorem ix_str:IxR X rIxS:=by
  intro value slice pins s σ H x y v u Q I rx ry h hs
  obtain ⟨z,i,c,rfl,rfl,hz,he,q⟩:=h
  obtain ⟨t,rfl⟩:=rx
  obtain ⟨t',rfl⟩:=ry
  obtain ⟨j,h1,h2,h3,h4,h5⟩:=atI_get he
  have hl:z.cps.toList.length=z.length:=by simp [Str.length]
  rw [hl] at h1 h4 h5
  have hn:=line63
  exact tail_any (typeIs_str s z t) slot_str_getitem.lookup (getItem_str (c:=c) (by
    have e1:decide (i < -(2 ^ 63:Int))=false:=decide_eq_false (by omega)
    have e2:decide (i ≥ 2 ^ 63)=false:=decide_eq_false (by omega)
    rw [e1,e2,Bool.or_false]) (by rw [h1]; simpa using h2) ⟨.str ⟨#[c]⟩,H,I.tok _,⟨_,rfl⟩,q⟩) hs
def rIx (K:PySem.W.Frag):R2:=fun x y H Q=>rIxL K x y H Q∨rIxT K x y H Q∨rIxS x y H Q
theorem mapSeq_set (its:List Value) (n j:Nat) (u:Value):Obj.mapSeq (·.setIfInBounds j u) {cls:=.type "list",data:=.seq its.toArray n}={cls:=.type "list",data:=.seq (its.set j u).toArray n}:=by
  simp [Obj.mapSeq]
theorem Inv.lst {pins:List (Addr×Obj)} {σ:St} {H:Hp} {s:Shared} {p:Addr} {xs:List V} (I:Inv X pins σ H s) (h:H p=some (.lst xs)) :
    ∃ (its:List Value) (n:Nat),Vals xs its∧s.heap.get? p=some {cls:=.type "list",data:=.seq its.toArray n}∧xs.length≤sizeLine:=by
  obtain ⟨z,its,n,r,e⟩:=I.hok p _ h
  exact ⟨its,n,r,e,z⟩
theorem Inv.lstUpd {pins:List (Addr×Obj)} {σ:St} {H:Hp} {s:Shared} {p:Addr} {xs ys:List V} {its its':List Value} {n n':Nat} {f:Obj→Obj} (I:Inv X pins σ H s) (h:H p=some (.lst xs))
    (ho:s.heap.get? p=some {cls:=.type "list",data:=.seq its.toArray n}) (hf:f {cls:=.type "list",data:=.seq its.toArray n}={cls:=.type "list",data:=.seq its'.toArray n'}) (r:Vals ys its') (hz:ys.length≤sizeLine) (t:Nat) :
    Inv X pins σ (upd H p (.lst ys)) {s with heap:=s.heap.update p f,toks:=t}:=by
  have e:(s.heap.update p f).get? p=some {cls:=.type "list",data:=.seq its'.toArray n'}:=by
    rw [Heap.get?_update_self f ho (by rw [hf] <;> rfl),hf]
  refine I.write (x:=p) (e:=p) (by rw [h]; trivial) (.inl rfl) (fun b u hb q=>(Heap.get?_update_other _ _ (Ne.symm hb)).trans q) ⟨_,e⟩ ?_
  exact ⟨hz,its',n',r,e⟩
def rSetL:V→V→V→Hp→(Hp→Prop)→Prop:=fun o i v H Q=>∃ p xs k j,o=.ref p∧i=.int k∧H p=some (.lst xs)∧ixN xs.length k=some j∧Q (upd H p (.lst (xs.set j v)))
theorem set_list:PSet X rSetL:=by
  intro pins s σ H o i v ov iv u Q I ro ri rv h
  obtain ⟨p,xs,k,j,rfl,rfl,hp,hj,q⟩:=h
  cases ro
  obtain ⟨t,rfl⟩:=ri
  obtain ⟨its,n,r,ho,hz⟩:=I.lst hp
  obtain ⟨h1,h2,h3,h4⟩:=ixN_seq hj
  have hl:=r.length
  have hn:=line63
  have I':Inv X pins σ (upd H p (.lst (xs.set j v))) {s with heap:=s.heap.update p (Obj.mapSeq (·.setIfInBounds j u))}:=
    I.lstUpd hp ho (mapSeq_set its n j u) (r.set rv j) (by rw [List.length_set]; exact hz) s.toks
  by_cases h0:0≤k
  · have hk:k.toNat=j:=by
      rw [seqIndex_of h0 h4] at h1
      exact Option.some.inj h1
    exact PySem.W.ki_setAt ho h0 (by omega) (by rw [List.size_toArray,← hl]; exact h4) (by rw [hk]; exact ⟨_,I',q⟩)
  · have hk:(k + (its.toArray.size:Int)).toNat=j:=by
      rw [seqIndex_neg (by omega) h3] at h1
      rw [List.size_toArray,← hl]
      exact Option.some.inj h1
    exact PySem.W.ki_setBack ho (by omega) (by rw [List.size_toArray,← hl]; exact h3) (by omega) (by rw [hk]; exact ⟨_,I',q⟩)
theorem slice_bounds (lo hi:Option Int) (n:Nat):(sliceBounds lo hi none n).1=((HT.sIx n 0 lo:Nat):Int)∧(sliceBounds lo hi none n).2.1=((HT.sIx n n hi:Nat):Int)∧(sliceBounds lo hi none n).2.2=1:=by
  refine ⟨?_,?_,rfl⟩
  · cases lo with
    | none=>simp [sliceBounds,HT.sIx]
    | some i =>
      simp only [sliceBounds,HT.sIx,Option.getD_none,show (1:Int) > 0 by decide,if_true]
      by_cases h:i < 0
      · simp only [h,if_true] <;> omega
      · simp only [h,if_false] <;> omega
  · cases hi with
    | none=>simp [sliceBounds,HT.sIx]
    | some i =>
      simp only [sliceBounds,HT.sIx,Option.getD_none,show (1:Int) > 0 by decide,if_true]
      by_cases h:i < 0
      · simp only [h,if_true] <;> omega
      · simp only [h,if_false] <;> omega
theorem slicePick_cut (its:List Value) (lo hi:Option Int):slicePick its.toArray lo hi none=((its.drop (HT.sIx its.length 0 lo)).take (HT.sIx its.length its.length hi - HT.sIx its.length 0 lo)).toArray:=by
  obtain ⟨h1,h2,h3⟩:=slice_bounds lo hi its.toArray.size
  unfold slicePick
  rw [h1,h2,h3]
  simp only [sliceRange_one,pick_run,List.size_toArray] <;> rfl
def rSlL (K:PySem.W.Frag):V→Option Int→Option Int→Hp→VK→Prop:=fun x lo hi H Q=>∃ a xs,x=.ref a∧SqL K H a xs∧∀ p,H p=none→Q (.ref p) (upd H p (.lst (cutV xs lo hi)))
theorem sl_list:SlR X (rSlL X.K):=by
  intro pins s σ H x v vl vu lo hi sl Q I rx hs pl pu h
  obtain ⟨a,xs,rfl,hx,q⟩:=h
  cases rx
  obtain ⟨its,r,ht,hz⟩:=I.list hx
  have hlen:=r.length
  refine ⟨"list",_,slot_list_getitem.lookup,ht.isList.typeIs,?_⟩
  refine wpAny_getItem_list_slice ht.isList hs pl pu .none (by simp) ?_ (by rw [List.size_toArray] <;> omega)
  rw [slicePick_cut,← hlen]
  refine ⟨.ref s.heap.objs.size,_,I.laid (t':=s.toks) (o:=.lst (cutV xs lo hi)) (fun b ob q=>Heap.get?_push_of_some _ q) (Nat.le_refl _) ?_,rfl,q _ (I.hok.fresh (Nat.le_refl _))⟩
  exact ⟨Nat.le_trans (cutV_length xs lo hi) hz,_,0,(r.drop (HT.sIx xs.length 0 lo)).take (HT.sIx xs.length xs.length hi - HT.sIx xs.length 0 lo),Heap.get?_push_size _ rfl⟩
def flatV:V→Bool
  | .non=>true
  | .bl _=>true
  | .int _=>true
  | .str _=>true
  | _=>false
def eqV:V→V→Bool
  | .non,.non=>true
  | .bl a,.bl b=>a == b
  | .bl a,.int b=>(if a then 1 else 0) == b
  | .int a,.bl b=>a == (if b then 1 else 0)
  | .int a,.int b=>a == b
  | .str a,.str b=>a == b
  | _,_=>false
theorem eqAt_V {A:Around} {s:Shared} {y x:V} {u v:Value} (ry:RelV y u) (rx:RelV x v) (fy:flatV y=true) (fx:flatV x=true):SeqAt.EqAt A s u v (eqV y x):=by
  cases y with
  | non =>
    cases ry
    cases x with
    | non=>cases rx; exact SeqAt.EqAt.same _
    | bl b=>cases rx; exact SeqAt.EqAt.none_bool b
    | int b=>obtain ⟨t,rfl⟩:=rx; exact SeqAt.EqAt.none_int b t
    | str b=>obtain ⟨t,rfl⟩:=rx; exact SeqAt.EqAt.none_str b t
    | _=>exact absurd (show false=true from fx) Bool.false_ne_true
  | bl a =>
    cases ry
    cases x with
    | non=>cases rx; exact SeqAt.EqAt.bool_none a
    | bl b=>cases rx; exact SeqAt.EqAt.bool_bool a b
    | int b=>obtain ⟨t,rfl⟩:=rx; exact SeqAt.EqAt.bool_int a b t
    | str b=>obtain ⟨t,rfl⟩:=rx; exact SeqAt.EqAt.bool_str a b t
    | _=>exact absurd (show false=true from fx) Bool.false_ne_true
  | int a =>
    obtain ⟨t',rfl⟩:=ry
    cases x with
    | non=>cases rx; exact SeqAt.EqAt.int_none a t'
    | bl b=>cases rx; exact SeqAt.EqAt.int_bool a t' b
    | int b=>obtain ⟨t,rfl⟩:=rx; exact SeqAt.EqAt.int_int a t' b t
    | str b=>obtain ⟨t,rfl⟩:=rx; exact SeqAt.EqAt.int_str a t' b t
    | _=>exact absurd (show false=true from fx) Bool.false_ne_true
  | str a =>
    obtain ⟨t',rfl⟩:=ry
    cases x with
    | non=>cases rx; exact SeqAt.EqAt.str_none a t'
    | bl b=>cases rx; exact SeqAt.EqAt.str_bool a t' b
    | int b=>obtain ⟨t,rfl⟩:=rx; exact SeqAt.EqAt.str_int a t' b t
    | str b=>obtain ⟨t,rfl⟩:=rx; exact SeqAt.EqAt.str_str a t' b t
    | _=>exact absurd (show false=true from fx) Bool.false_ne_true
  | _=>exact absurd (show false=true from fy) Bool.false_ne_true
def eqU (x:V) (u:Value):Bool:=match u with
  | .none=>eqV .non x
  | .bool b=>eqV (.bl b) x
  | .int i _=>eqV (.int i) x
  | .str z _=>eqV (.str z) x
  | _=>false
theorem eqU_of {x y:V} {u:Value} (r:RelV y u) (f:flatV y=true):eqU x u=eqV y x:=by
  cases y with
  | non=>cases r; rfl
  | bl b=>cases r; rfl
  | int i=>obtain ⟨t,rfl⟩:=r; rfl
  | str z=>obtain ⟨t,rfl⟩:=r; rfl
  | _=>exact absurd (show false=true from f) Bool.false_ne_true
theorem any_eqU {x:V}:∀ {xs:List V} {us:List Value},Vals xs us→xs.all flatV=true→us.any (eqU x)=xs.any fun y=>eqV y x
  | _,_,.nil,_=>rfl
  | y :: xs,u :: us,.cons r t,f=>by
    rw [List.all_cons,Bool.and_eq_true] at f
    rw [List.any_cons,List.any_cons,eqU_of r f.1,any_eqU t f.2]
theorem mem_eqAt {A:Around} {s:Shared} {x:V} {v:Value} (rx:RelV x v) (fx:flatV x=true):∀ {xs:List V} {us:List Value},Vals xs us→xs.all flatV=true→∀ u∈us,SeqAt.EqAt A s u v (eqU x u)
  | _,_,.nil,_=>fun u hu=>by cases hu
  | y :: xs,u :: us,.cons r t,f=>fun u' hu=>by
    rw [List.all_cons,Bool.and_eq_true] at f
    rcases List.mem_cons.mp hu with rfl | hu
    · rw [eqU_of r f.1]; exact eqAt_V r rx f.1 fx
    · exact mem_eqAt rx fx t f.2 u' hu
def inV (x:V) (xs:List V):Bool:=xs.any fun y=>eqV y x
def rIn (K:PySem.W.Frag) (neg:Bool):R2:=fun x y H Q=>∃ p xs,y=.ref p∧(SqL K H p xs∨SqT K H p xs)∧flatV x=true∧xs.all flatV=true∧Q (.bl (if neg then !inV x xs else inV x xs)) H
theorem op_in_seq:OpR X (compareOp .In) (rIn X.K false):=by
  intro pins s σ H x y v u Q I rx ry h
  obtain ⟨p,xs,rfl,hq,fx,fs,q⟩:=h
  cases ry
  rcases hq with hq | hq
  · obtain ⟨its,r,pl,hz⟩:=I.list hq
    refine SeqAt.in_listAt (eqU x) pl.isList (fun w hw=>mem_eqAt rx fx r fs w (by simpa using hw)) ⟨.bl _,H,I,rfl,?_⟩
    rw [show its.toArray.any (eqU x)=its.any (eqU x) by simp,any_eqU r fs]
    exact q
  · obtain ⟨its,r,pl,hz⟩:=I.tuple hq
    refine SeqAt.in_tupleAt (eqU x) pl (fun w hw=>mem_eqAt rx fx r fs w (by simpa using hw)) ⟨.bl _,H,I,rfl,?_⟩
    rw [show its.toArray.any (eqU x)=its.any (eqU x) by simp,any_eqU r fs]
    exact q
theorem call_len_seq:CallR X (.builtin "len") (fun xs H Q=>∃ p ys,xs=[.ref p]∧(SqL X.K H p ys∨SqT X.K H p ys)∧Q (.int ys.length) H):=by
  intro pins s σ H xs us Q I r h
  obtain ⟨p,ys,rfl,hq,q⟩:=h
  obtain ⟨u,rfl,rx⟩:=vals1 r
  cases rx
  have hn:=line63
  rcases hq with hq | hq
  · obtain ⟨its,r',pl,hz⟩:=I.list hq
    have hlen:=r'.length
    exact Calls.call_len_list pl.isList (by simp only [List.size_toArray] <;> omega) ⟨.int ys.length,H,I.tok _,⟨s.toks + 1,by rw [List.size_toArray,hlen]⟩,q⟩
  · obtain ⟨its,r',pl,hz⟩:=I.tuple hq
    have hlen:=r'.length
    exact len_tuple pl (by simp only [List.size_toArray] <;> omega) ⟨.int ys.length,H,I.tok _,⟨s.toks + 1,by rw [List.size_toArray,hlen]⟩,q⟩
theorem call_len_str:CallR X (.builtin "len") (fun xs H Q=>∃ z,xs=[.str z]∧z.length≤sizeLine∧Q (.int z.length) H):=by
  intro pins s σ H xs us Q I r h
  obtain ⟨z,rfl,hz,q⟩:=h
  obtain ⟨u,rfl,t,rfl⟩:=vals1 r
  have hn:=line63
  exact len_str (by omega) ⟨.int z.length,H,I.tok _,⟨_,rfl⟩,q⟩
theorem call_list_of:CallR X (.type "list") (fun xs H Q=>∃ p ys,xs=[.ref p]∧(SqL X.K H p ys∨SqT X.K H p ys)∧∀ l,H l=none→Q (.ref l) (upd H l (.lst ys))):=by
  intro pins s σ H xs us Q I r h
  obtain ⟨p,ys,rfl,hq,q⟩:=h
  obtain ⟨u,rfl,rx⟩:=vals1 r
  cases rx
  have fin:∀ (its:List Value),Vals ys its→ys.length≤sizeLine→∀ (h':Heap) (c':Nat),(∀ b o',s.heap.get? b=some o'→h'.get? b=some o') →
      h'.get? s.heap.objs.size=some {cls:=.type "list",dict:=none,data:=.seq its.toArray c',slots:=#[]}→EP X pins σ Q (.ref s.heap.objs.size) {s with heap:=h'}:=fun its r' hz h' c' kp e =>
    ⟨.ref s.heap.objs.size,_,I.laid (t':=s.toks) kp (Nat.le_refl _) (show ObjOk X.prog X.w _ h' _ (.lst ys) from ⟨hz,its,c',r',e⟩),rfl,q _ (I.hok.fresh (Nat.le_refl _))⟩
  rcases hq with hq | hq
  · obtain ⟨its,r',pl,hz⟩:=I.list hq
    have hlen:=r'.length
    obtain ⟨o,ho,hc,n,hd⟩:=pl.isList
    exact call_list_seq p (.inl rfl) ho hc hd (fun h' c' kp e=>fin its r' hz h' c' kp e) (by simp only [List.size_toArray] <;> omega)
  · obtain ⟨its,r',pl,hz⟩:=I.tuple hq
    have hlen:=r'.length
    obtain ⟨o,ho,hc,n,hd⟩:=pl
    exact call_list_seq p (.inr rfl) ho hc hd (fun h' c' kp e=>fin its r' hz h' c' kp e) (by simp only [List.size_toArray] <;> omega)
theorem call_tuple_of:CallR X (.type "tuple") (fun xs H Q=>∃ p ys,xs=[.ref p]∧((SqL X.K H p ys∧∀ l,H l=none→Q (.ref l) (upd H l (.tup ys)))∨(SqT X.K H p ys∧Q (.ref p) H))):=by
  intro pins s σ H xs us Q I r h
  obtain ⟨p,ys,rfl,h⟩:=h
  obtain ⟨u,rfl,rx⟩:=vals1 r
  cases rx
  rcases h with ⟨hq,q⟩ | ⟨hq,q⟩
  · obtain ⟨its,r',pl,hz⟩:=I.list hq
    have hlen:=r'.length
    refine call_tuple_list pl.isList (fun h' kp=>?_) (by simp only [List.size_toArray] <;> omega)
    have I1:Inv X pins σ H {s with heap:=h'}:=I.kept (t':=s.toks) kp
    have I2:Inv X pins σ (upd H h'.objs.size (.tup ys)) {s with heap:=h'.push {cls:=.type "tuple",data:=.seq its.toArray}}:=
      I1.laid (t':=s.toks) (fun b o e=>Heap.get?_push_of_some _ e) (Nat.le_refl _) (show ObjOk X.prog X.w _ _ _ (.tup ys) from ⟨hz,its,r',IsTup.new _ _⟩)
    exact ⟨.ref h'.objs.size,_,I2,rfl,q _ (I1.hok.fresh (Nat.le_refl _))⟩
  · obtain ⟨its,r',pl,hz⟩:=I.tuple hq
    exact call_tuple_same pl ⟨.ref p,H,I,rfl,q⟩
def tyV (K:PySem.W.Frag) (T:String) (x:V) (H:Hp):Prop:=match x with
  | .str _=>T="str"
  | .int _=>T="int"
  | .ref p=>(T="list"∧∃ xs,SqL K H p xs)∨(T="tuple"∧∃ o,K.lookup p=some o∧o.cls=.type "tuple"∧o.dict=none) ∨
      (T="dict"∧((∃ kvs,H p=some (.dK kvs))∨∃ kvs,H p=some (.dT kvs)))∨(T="set"∧∃ S n,H p=some (.set S n))
  | _=>False
theorem tyV_is {pins:List (Addr×Obj)} {σ:St} {H:Hp} {s:Shared} {T:String} {x:V} {v:Value} (I:Inv X pins σ H s) (r:RelV x v) (ty:tyV X.K T x H) :
    s.TypeIs v T∧∀ a,v=.ref a→∃ ob,s.heap.get? a=some ob∧ob.dict=none:=by
  cases x with
  | str z =>
    obtain ⟨t,rfl⟩:=r
    cases (show T="str" from ty)
    exact ⟨typeIs_str s z t,fun _ e=>nomatch e⟩
  | int i =>
    obtain ⟨t,rfl⟩:=r
    cases (show T="int" from ty)
    exact ⟨typeIs_int s i t,fun _ e=>nomatch e⟩
  | ref p =>
    cases r
    rcases ty with ⟨rfl,xs,hq⟩ | ⟨rfl,o,hk,hc,hd⟩ | ⟨rfl,hk⟩ | ⟨rfl,S,n,hk⟩
    · obtain ⟨its,_,pl,_⟩:=I.list hq
      refine ⟨pl.isList.typeIs,fun a e=>?_⟩
      cases e
      obtain ⟨o,n,e,c,hd,_⟩:=pl
      exact ⟨o,e,hd⟩
    · refine ⟨⟨o,I.kIn p o hk,hc⟩,fun a e=>?_⟩
      cases e
      exact ⟨o,I.kIn _ o hk,hd⟩
    · have z:∃ o,s.heap.get? p=some o∧o.ExactDict:=by
        rcases hk with ⟨kvs,hk⟩ | ⟨kvs,hk⟩
        · obtain ⟨_,_,_,_,o,_,_,e,ex,_⟩:=I.hok p _ hk
          exact ⟨o,e,ex⟩
        · obtain ⟨_,_,_,_,o,_,_,e,ex,_⟩:=I.hok p _ hk
          exact ⟨o,e,ex⟩
      obtain ⟨o,e,ex⟩:=z
      refine ⟨⟨o,e,ex.1⟩,fun a e2=>?_⟩
      cases e2
      exact ⟨o,e,ex.2.1⟩
    · obtain ⟨o,_,_,_,e,ex,_⟩:=I.hok p _ hk
      refine ⟨⟨o,e,ex.1⟩,fun a e2=>?_⟩
      cases e2
      exact ⟨o,e,ex.2.1⟩
  | _=>exact False.elim ty
def tBM0 (K:PySem.W.Frag) (T:String) (r:V→List V→Hp→VK→Prop) (to:TE):TE:=fun σ H Q=>to σ H fun x H1=>tyV K T x H1∧r x [] H1 Q
def tBM (K:PySem.W.Frag) (T:String) (r:V→List V→Hp→VK→Prop) (to:TE) (t:TA):TE:=fun σ H Q=>to σ H fun x H1=>tyV K T x H1∧t σ H1 fun xs H2=>r x xs H2 Q
variable {o e:Expr} {es:List Expr} {to:TE} {t:TA} {name:Str} {apos cpos:Pos} {T id:String} {r:V→List V→Hp→VK→Prop}
theorem pe_bm (pa:PlainAttrs T) (slot:Slot T name id) (hty:typeOf (.builtin id)=pure (.type "method_descriptor")) (hm:MtR X id r) (ho:PE X o to) (ha:PA X (e :: es) t)
    (hbase:attributeBase o name X.env (eval o X.env)=eval o X.env:=by rfl)
    (hfew:((backTo cpos (starEach (e :: es) X.env)).all (fun x=>!x.1) && (backToKw cpos (keywordEach [] X.env)).all (fun x=>x.1.isSome)
      && decide ((e :: es).length + ([]:List Keyword).length + (if ([]:List Keyword).isEmpty then 0 else 1) < 30))=true:=by rfl)
    (hline:(apos.endLine == cpos.line)=true:=by rfl) (hs:starEach (e :: es) X.env=(false,eval e X.env) :: starEach es X.env:=by rfl) (hplain:(backTo cpos (starEach es X.env)).any (·.1)=false:=by rfl) :
    PE X (.Call (.Attribute o name apos) (e :: es) [] cpos) (tBM X.K T r to t):=by
  intro pins s σ H Q I h
  refine wpAny_Call_method_late hbase hfew hline rfl (thn (ho pins s σ H _ I h) fun v s1 ⟨x,H1,I1,r1,ty,q1⟩=>?_)
  obtain ⟨h1,h2⟩:=tyV_is I1 r1 ty
  refine ⟨T,id,pa,slot,hty,h1,h2,?_⟩
  have hA:=ha cpos pins s1 σ H1 _ I1 q1
  rw [hs] at hA ⊢
  refine Calls.callWith_builtin (by show (false || (backTo cpos (starEach es X.env)).any (·.1))=false; rw [hplain] <;> rfl) (Calls.evalArgs_plain ?_)
  exact thn hA fun us s2 ⟨vs,H2,I2,r2,q2⟩=>hm pins s2 σ H2 x vs v us Q I2 r1 r2 q2
end
end L2
namespace L2
open PySem PySem.Spec PyProof.Rows
def MtM (X:Cx) (id:String) (r:V→List V→Hp→VK→Prop):Prop:=
  ∀ (pins:List (Addr×Obj)) (s:Shared) (σ:St) (H:Hp) (x:V) (xs:List V) (v:Value) (us:List Value) (Q:VK),Inv X pins σ H s→RelV x v→Vals xs us→r x xs H Q →
    wpAny (model X.prog X.w) X.A (call (.builtin id) (v :: us)) (EP X pins σ Q) X.xe s
theorem Vals.one:∀ {x:V} {us:List Value},Vals [x] us→∃ u,us=[u]∧RelV x u
  | _,_,.cons r .nil=>⟨_,rfl,r⟩
section
variable {X:Cx} {pins:List (Addr×Obj)} {σ:St} {H:Hp} {s:Shared} {l b:Addr} {xs ys zs:List V}
theorem Inv.lset {its its':List Value} {n:Nat} {f:Array Value→Array Value} {t':Nat} (I:Inv X pins σ H s) (hH:H l=some (.lst xs))
    (e:s.heap.get? l=some {cls:=.type "list",data:=.seq its.toArray n}) (hf:f its.toArray=its'.toArray) (hv:Vals ys its') (hz:ys.length≤sizeLine) :
    Inv X pins σ (upd H l (.lst ys)) {s with heap:=s.heap.update l (Obj.mapSeq f),toks:=t'}:=by
  have q:=PySem.IsL.update e f
  rw [hf] at q
  refine I.write (x:=l) (e:=l) (by rw [hH]; exact trivial) (.inl rfl) (fun b' u hb hu=>(Heap.get?_update_other s.heap (Obj.mapSeq f) (Ne.symm hb)).trans hu) ⟨_,q⟩ ?_
  exact ⟨hz,its',_,hv,q⟩
theorem Inv.lnew {its:List Value} {t':Nat} (I:Inv X pins σ H s) (hv:Vals ys its) (hz:ys.length≤sizeLine) :
    Inv X pins σ (upd H s.heap.objs.size (.lst ys)) {s with heap:=s.heap.push {cls:=.type "list",data:=.seq its.toArray},toks:=t'}:=
  I.laid (fun _ _ q=>Heap.get?_push_of_some _ q) (Nat.le_refl _) ⟨hz,its,0,hv,Heap.get?_push_size _ rfl⟩
theorem Inv.fresh (I:Inv X pins σ H s):H s.heap.objs.size=none:=I.hok.fresh (Nat.le_refl _)
theorem Inv.lstM (I:Inv X pins σ H s) (hH:H l=some (.lst xs)):xs.length≤sizeLine∧∃ (its:List Value) (n:Nat),Vals xs its∧xs.length=its.length∧s.heap.get? l=some {cls:=.type "list",data:=.seq its.toArray n}:=by
  obtain ⟨z,its,n,r,e⟩:=I.hok l _ hH
  exact ⟨z,its,n,r,r.length,e⟩
theorem notLongL {n:Nat} (h:n≤sizeLine):Builtin.List.listTooLong n=false:=by
  unfold Builtin.List.listTooLong
  exact decide_eq_false (by omega)
end
section
variable {X:Cx}
def rAppend:V→List V→Hp→VK→Prop:=fun x vs H Q=>∃ l xs y,x=.ref l∧vs=[y]∧H l=some (.lst xs)∧xs.length < sizeLine∧Q .non (upd H l (.lst (xs++[y])))
theorem mt_append:MtM X "list.append" rAppend:=by
  intro pins s σ H x vs v us Q I rx rv h
  obtain ⟨l,xs,y,rfl,rfl,hH,hz,q⟩:=h
  cases rx
  obtain ⟨u,rfl,ru⟩:=rv.one
  obtain ⟨z,its,n,r,hl,e⟩:=I.lstM hH
  refine call_meets F.slot_list_append ⟨_,e,rfl⟩ F.entry_list_append (F.args_list_append_2 _ _) (PySem.list_append l its.toArray n u (by rw [List.size_toArray]; omega)) ⟨e,?_⟩
  refine ⟨.non,_,I.lset (its':=its++[u]) hH e (by simp) (r.append (.cons ru .nil)) ?_,rfl,q⟩
  rw [List.length_append,List.length_singleton]
  omega
def rExtend:V→List V→Hp→VK→Prop:=fun x vs H Q=>∃ l b xs zs,x=.ref l∧vs=[.ref b]∧H l=some (.lst xs)∧H b=some (.lst zs)∧xs.length + zs.length≤sizeLine∧Q .non (upd H l (.lst (xs++zs)))
theorem mt_extend:MtM X "list.extend" rExtend:=by
  intro pins s σ H x vs v us Q I rx rv h
  obtain ⟨l,b,xs,zs,rfl,rfl,hH,hB,hz,q⟩:=h
  cases rx
  obtain ⟨u,rfl,ru⟩:=rv.one
  cases ru
  obtain ⟨z,its,n,r,hl,e⟩:=I.lstM hH
  obtain ⟨z2,its2,n2,r2,hl2,e2⟩:=I.lstM hB
  have hsz:its.toArray.size + its2.toArray.size≤sizeLine:=by rw [List.size_toArray,List.size_toArray]; omega
  have hlong:¬ (!its.toArray.isEmpty && Builtin.List.listTooLong (its.toArray.size + its2.toArray.size))=true:=by
    rw [notLongL hsz,Bool.and_false]
    exact Bool.false_ne_true
  refine call_meets F.slot_list_extend ⟨_,e,rfl⟩ F.entry_list_extend (F.args_list_extend_2 _ _)
    (AutoSeq1.list_extend_list_list_0 l its.toArray n b its2.toArray n2 hlong (by rw [List.size_toArray]; omega) (by omega)) ⟨e,e2,?_⟩
  refine ⟨.non,_,I.lset (its':=its++its2) hH e (by simp) (r.append r2) ?_,rfl,q⟩
  rw [List.length_append]
  omega
def rPop:V→List V→Hp→VK→Prop:=fun x vs H Q=>∃ l xs y,x=.ref l∧vs=[]∧H l=some (.lst xs)∧xs[xs.length - 1]?=some y∧Q y (upd H l (.lst xs.dropLast))
def rPopAt:V→List V→Hp→VK→Prop:=fun x vs H Q=>∃ l xs i k y,x=.ref l∧vs=[.int i]∧H l=some (.lst xs)∧-(2 ^ 63)≤i∧i < 2 ^ 63∧seqIndex? i xs.length=some k∧xs[k]?=some y∧Q y (upd H l (.lst (xs.eraseIdx k)))
def rReverse:V→List V→Hp→VK→Prop:=fun x vs H Q=>∃ l xs,x=.ref l∧vs=[]∧H l=some (.lst xs)∧Q .non (upd H l (.lst xs.reverse))
def rClear:V→List V→Hp→VK→Prop:=fun x vs H Q=>∃ l xs,x=.ref l∧vs=[]∧H l=some (.lst xs)∧Q .non (upd H l (.lst []))
def rCat:R2:=fun x y H Q=>∃ l b xs zs,x=.ref l∧y=.ref b∧H l=some (.lst xs)∧H b=some (.lst zs)∧xs.length + zs.length≤sizeLine∧∀ p,H p=none→Q (.ref p) (upd H p (.lst (xs++zs)))
theorem op_cat:OpR X (binaryOp .Add) rCat:=by
  intro pins s σ H x y v u Q I rx ry h
  obtain ⟨l,b,xs,zs,rfl,rfl,hH,hB,hz,q⟩:=h
  cases rx
  cases ry
  obtain ⟨z,its,n,r,hl,e⟩:=I.lstM hH
  obtain ⟨z2,its2,n2,r2,hl2,e2⟩:=I.lstM hB
  refine PySem.P.add_list e e2 ?_ (by rw [List.size_toArray,List.size_toArray]; omega)
  have ea:its.toArray++its2.toArray=(its++its2).toArray:=by simp
  rw [ea]
  exact ⟨.ref _,_,I.lnew (t':=s.toks) (r.append r2) (by rw [List.length_append]; omega),rfl,q _ I.fresh⟩
def rRep:R2:=fun x y H Q=>∃ l k xs,x=.ref l∧y=.int k∧H l=some (.lst xs)∧-(2 ^ 63)≤k∧k < 2 ^ 63∧xs.length * k.toNat≤sizeLine ∧
  ∀ p,H p=none→Q (.ref p) (upd H p (.lst (List.replicate k.toNat xs).flatten))
end
section
variable {prog:Program} {w:World} {A:Around} {E:Value→Shared→Prop} {s:Shared}
end
section
variable {X:Cx}
end
end L2
namespace Att
open PySem PySem.W PySem.Calls PyProof.Rows
theorem ints_of_wellAll {P:Params} {h:Heap}:∀ (ns:List Int) (vs:List Value),WellAll P h vs (ns.map WData.int)→IntsAre vs ns:=by
  intro ns
  induction ns with
  | nil =>
    intro vs w
    rw [List.map_nil] at w
    cases w
    exact .nil
  | cons n ns ih =>
    intro vs w
    rw [List.map_cons] at w
    cases w with
    | cons a b =>
      cases a
      exact .cons _ _ (ih _ b)
theorem script_of {l:OpenLaw} {n:Nat} (hn:l.most=some n) {P:Params} {h:Heap} {args:List WData} {vals:List Value}
    (hpre:l.row.toRowW.claim.pre args=true) (hwl:WellAll P h vals args) :
    ∃ a vs ns,vals=[Value.ref a]∧args=[WData.list (ns.map WData.int)]∧h.get? a=some {cls:=.type "list",data:=.seq vs.toArray}∧IntsAre vs ns∧ns.length≤n:=by
  have hsh:WShape.hasAll [] args [.list .int]=true:=(pre_splitW hpre).1
  have hc:l.pre.holds [] {args:=args}=true:=(pre_splitW hpre).2
  obtain ⟨d,r,rfl,h1,h2⟩:=hasAllW_cons hsh
  obtain rfl:=hasAllW_nil h2
  obtain ⟨xs,rfl,h3⟩:=hasW_list h1
  obtain ⟨ns,rfl⟩:=items_int h3
  have hlen:ns.length≤n:=by
    unfold OpenLaw.pre at hc
    have h4:(WTm.not (.lt (.lit (.int (n:Int))) (.len (.arg 0)))).holds [] {args:=[.list (ns.map .int)]}=true:=by
      have h4:=(holds_andW hc).1
      rw [hn] at h4
      exact h4
    have h5:=condW_of h4 (w_not (w_lt w_lit (w_len_list (w_arg rfl))))
    rw [List.length_map] at h5
    refine Nat.le_of_not_lt fun q=>?_
    have q':(n:Int) < ((ns.length:Nat):Int):=by omega
    first
      | (rw [decide_eq_true q'] at h5; exact absurd h5 (by decide))
      | (simp at h5; omega)
  cases hwl with
  | cons w1 w2 =>
    cases w2
    cases w1 with
    | list ho hall=>exact ⟨_,_,ns,rfl,rfl,ho,ints_of_wellAll ns _ hall,hlen⟩
theorem post_true (l:OpenLaw) (args:List WData):l.row.toRowW.claim.post args (.bool true) args=true:=
  postW_of (r:=l.row.toRowW) (X:=(true == true))
    (show WShape.has [] (.bool true) .bool=true by first | rfl | decide | simp [WShape.has,WShape.arms,WShape.armsAll])
    (show (WTm.eq .res (.lit (.bool true))).value [] {args:=args,res:=some (.bool true),after:=args}=some (.bool (true == true)) from w_eq_bool (w_res rfl) w_lit) rfl
section
variable {prog:Program} {w:World} {A:Around} {E:Value→Shared→Prop} {s:Shared} {K:Frag}
def noObjs (h:Heap):Heap:={h with objs:=#[]}
def ledger (h:Heap) (L d:Addr):List (Addr×Obj):=(List.range h.objs.size).filterMap fun a=>if a=L∨a=d then none else (h.get? a).map fun o=>(a,o)
end
end Att
namespace L2
open PySem PySem.Spec PyProof.Rows
theorem vals_ints:∀ {vs:List Value} {ns:List Int},IntsAre vs ns→Vals (ns.map V.int) vs
  | _,_,.nil=>.nil
  | _,_,.cons n t h=>.cons ⟨t,rfl⟩ (vals_ints h)
def Only (H:Hp):Prop:=∀ b,H b=none∨∃ o xs,H b=some (.frz o (.lst xs))
end L2
namespace L2
open PySem PySem.Spec PyProof.Rows
abbrev KOf {K:PySem.W.Frag} {h:Heap} (_:K.In h):PySem.W.Frag:=K
end L2
namespace L2
open PySem PySem.Spec PyProof.Rows
def inClass (s:Stmt) (j:Nat):Stmt:=match s with
  | .ClassDef _ _ _ body _ _ _ _ _ _ _=>body.getD j (.Pass ⟨0,0,0,0⟩)
  | _=>.Pass ⟨0,0,0,0⟩
def defArgs (s:Stmt):Arguments:=match s with
  | .FunctionDef _ a _ _ _ _ _ _ _ _=>a
  | _=>{posonlyargs:=[],args:=[],vararg:=none,kwonlyargs:=[],kw_defaults:=[],kwarg:=none,defaults:=[]}
def defBody (s:Stmt):List Stmt:=match s with
  | .FunctionDef _ _ b _ _ _ _ _ _ _=>b
  | _=>[]
def defScope (s:Stmt):Scope:=match s with
  | .FunctionDef _ _ _ _ _ _ sc _ _ _=>sc
  | _=>{kind:=.function,names:=[],isGenerator:=false,isCoroutine:=false}
abbrev CX0:CXT:=fun _ _ _ _ _ _=>False
abbrev E0:XK:=fun _ _ _=>False
theorem pass0 {X:Cx}:Passes CX0 X E0:=fun _ _ _ _ _ _ _ h=>h.elim
structure Fun (K:PySem.W.Frag) (x qual:Str) (st:Stmt) (f:Addr) (fd:FuncData):Prop where
  ex:∃ (oc:Value) (od:Option Addr) (kV doc pm:Value) (an:Option Addr) (cdv ct:Value) (osl:Array (Option Value)),
    fd=PySem.W.fnOf x qual (defArgs st) (defBody st) (defScope st) .none kV doc pm an cdv ct∧K.lookup f=some ⟨oc,od,.func fd,osl⟩∧PySem.W.codeIn K cdv qual=true
  kp:PySem.W.keepIn K (.ref f)=true
section
variable {P:Program} {w:World} {K:PySem.W.Frag} {mg:Str→Option Value} {base:Heap}
theorem Fun.ok {x qual:Str} {st:Stmt} {f:Addr} {fd:FuncData} {N ps:List Str} {k:Nat} {sp:Sp} (F:Fun K x qual st f fd) (S:FnScope N ps (defScope st)) (len:∀ vs H Q E,sp vs H Q E→vs.length=ps.length)
    (hbody:∀ (cdv:Value) (A:Around) (outer:List Env) (s:Shared) (H:Hp) (vs:List V) (Q:VK) (E:XK),Room k (A.deeper (envOfC qual (defScope st) s.heap.objs.size f cdv))→sp vs H Q E →
      ∃ t,PSs (cxOf CX0 P w K mg base N qual (defScope st) f cdv A outer s H E).nox (defBody st) t∧t {nx:=fun _ H'=>Q .non H',rt:=Q} (start N vs) H):FnOk P w K mg base CX0 (k + 1) f fd ps sp:=by
  obtain ⟨oc,od,kV,doc,pm,an,cdv,ct,osl,rfl,lk,hcd⟩:=F.ex
  refine fn_of lk hcd S len fun A outer s H vs Q E hr hsp=>?_
  obtain ⟨t,h,q⟩:=hbody cdv A outer s H vs Q E hr hsp
  exact ⟨t,h.nox,q⟩
theorem Fun.binds {x qual:Str} {st:Stmt} {f:Addr} {fd:FuncData} {ps:List Str} (F:Fun K x qual st f fd)
    (h:∀ (kV doc pm:Value) (an:Option Addr) (cdv ct:Value) (us:List Value),us.length=ps.length→bindArgs (PySem.W.fnOf x qual (defArgs st) (defBody st) (defScope st) .none kV doc pm an cdv ct) ⟨us,[]⟩=pure (ps.zip us)):Binds K fd ps []:=by
  obtain ⟨oc,od,kV,doc,pm,an,cdv,ct,osl,rfl,lk,hcd⟩:=F.ex
  exact .all (h kV doc pm an cdv ct)
theorem fun_mk {x qual:Str} {st:Stmt} {f:Addr} {oc:Value} {od an:Option Addr} {osl:Array (Option Value)} {kV doc pm cdv ct:Value} (l:K.lookup f=some ⟨oc,od,.func (PySem.W.fnOf x qual (defArgs st) (defBody st) (defScope st) .none kV doc pm an cdv ct),osl⟩)
    (c:PySem.W.codeIn K cdv qual=true) (k:PySem.W.keepIn K (.ref f)=true):Fun K x qual st f (PySem.W.fnOf x qual (defArgs st) (defBody st) (defScope st) .none kV doc pm an cdv ct):=⟨⟨oc,od,kV,doc,pm,an,cdv,ct,osl,rfl,l,c⟩,k⟩
end
section
variable {X:Cx}
theorem pv (i:Nat) {x:Str} {pos:Pos} (hN:X.N[i]?=some x:=by rfl) (hv:Vis X.env.scope x:=by first | exact Or.inl rfl | exact Or.inr (Or.inl rfl) | exact Or.inr (Or.inr rfl)) (hd:(x == ("__debug__":Str))=false:=by decide)
    (hcd:(x == ("__classdict__":Str))=false:=by decide):PE X (.Name x pos) (tVar i):=pe_var hN hv hd hcd
end
theorem iteF {A B:Prop} (h:B):if false=true then A else B:=by
  rw [if_neg Bool.false_ne_true]
  exact h
theorem iteT {A B:Prop} (h:A):if true=true then A else B:=by
  rw [if_pos rfl]
  exact h
theorem ite2 {c A B:Prop} [Decidable c] (h1:c→A) (h2:¬ c→B):if c then A else B:=by
  by_cases h:c
  · rw [if_pos h]
    exact h1 h
  · rw [if_neg h]
    exact h2 h
def Same (H H':Hp):Prop:=∀ b o,H b=some o→H' b=some o
theorem Same.refl (H:Hp):Same H H:=fun _ _ h=>h
theorem Same.trans {H H1 H2:Hp} (a:Same H H1) (b:Same H1 H2):Same H H2:=fun c o h=>b c o (a c o h)
theorem Same.free {H H':Hp} (e:Same H H') {l:Addr} (h:H' l=Option.none):H l=Option.none:=by
  cases q:H l with
  | none=>rfl
  | some o =>
    rw [e l o q] at h
    cases h
end L2
namespace L2
open PySem PySem.Spec PyProof.Rows
section
variable {κ:Type} [DecidableEq κ]
def valV (kvs:List (κ×V)) (k:κ):Option V:=(kvs.find? fun kv=>decide (kv.1=k)).map (·.2)
def putK (kvs:List (κ×V)) (k:κ) (v:V):List (κ×V):=
  if (kvs.any fun kv=>decide (kv.1=k))=true then kvs.map (fun kv=>if kv.1=k then (kv.1,v) else kv) else kvs++[(k,v)]
def dropK (kvs:List (κ×V)) (k:κ):List (κ×V):=kvs.filter fun kv=>decide (kv.1≠k)
end
abbrev KT (H:Hp):List (List Key×V)→List (List Key×Addr×Value)→Prop:=Paired fun p q=>p.1=q.1∧H q.2.1=some (.tup (p.1.map kV))∧RelV p.2 q.2.2
section
variable {P:Program} {w:World} {H:Hp} {h:Heap} {a:Addr}
end
def DGet (H:Hp) (a:Addr) (y:V) (r:Option V):Prop:=
  (∃ kvs k,Rd H a (.dK kvs)∧y=kV k∧r=valV kvs k)∨∃ kvs k b,Rd H a (.dT kvs)∧y=.ref b∧H b=some (.tup (k.map kV))∧r=valV kvs k
def DPut (H:Hp) (a:Addr) (y v:V) (H':Hp):Prop:=
  (∃ kvs k,H a=some (.dK kvs)∧y=kV k∧kvs.length < sizeLine∧H'=upd H a (.dK (putK kvs k v))) ∨
  ∃ kvs k b,H a=some (.dT kvs)∧y=.ref b∧H b=some (.tup (k.map kV))∧kvs.length < sizeLine∧H'=upd H a (.dT (putK kvs k v))
section
variable {X:Cx} {pins:List (Addr×Obj)} {σ:St} {H:Hp} {s:Shared} {a:Addr} {y v:V} {u r:Value} {o:Option V} {A:Around} {E:Value→Shared→Prop}
end
section
variable {X:Cx} {pins:List (Addr×Obj)} {σ:St} {H:Hp} {s:Shared} {a:Addr} {kvs:List (Key×V)} {k:Key} {u:Value} {A:Around} {E:Value→Shared→Prop}
end
def NoSl (i:Expr):Prop:=∀ ov iv,subscripted i false ov iv=operate [ov,iv] (getItem ov iv)
def tDGet (td ty:TE):TE:=fun σ H Q=>td σ H fun x H1=>ty σ H1 fun y H2=>∃ a v,x=.ref a∧DGet H2 a y (some v)∧Q v H2
def tDIn (ty td:TE):TE:=fun σ H Q=>ty σ H fun y H1=>td σ H1 fun x H2=>∃ a o,x=.ref a∧DGet H2 a y o∧Q (.bl o.isSome) H2
def tDNotIn (ty td:TE):TE:=fun σ H Q=>ty σ H fun y H1=>td σ H1 fun x H2=>∃ a o,x=.ref a∧DGet H2 a y o∧Q (.bl (!o.isSome)) H2
def sDPut (td ty tv:TE):TS:=fun D σ H=>tv σ H fun v H1=>td σ H1 fun x H2=>ty σ H2 fun y H3=>∃ a H4,x=.ref a∧DPut H3 a y v H4∧D.nx σ H4
def sDAug (td ty tv:TE) (rd:V→V→Hp→VK→Prop):TS:=fun D σ H=>td σ H fun x H1=>ty σ H1 fun y H2=>∃ a v,x=.ref a∧DGet H2 a y (some v) ∧
  tv σ H2 fun y2 H3=>rd v y2 H3 fun z H4=>∃ H5,DPut H4 a y z H5∧D.nx σ H5
def sDDel (td ty:TE):TS:=fun D σ H=>td σ H fun x H1=>ty σ H1 fun y H2=>∃ a kvs k,x=.ref a∧H2 a=some (.dK kvs)∧y=kV k∧(valV kvs k).isSome=true∧D.nx σ (upd H2 a (.dK (dropK kvs k)))
section
variable {X:Cx} {o i e value:Expr} {pos pos' tpos:Pos} {td ty tv:TE}
end
def tDNewK:TE:=fun _ H Q=>∀ p,H p=none→Q (.ref p) (upd H p (.dK []))
def tDNewT:TE:=fun _ H Q=>∀ p,H p=none→Q (.ref p) (upd H p (.dT []))
section
variable {X:Cx} {pos:Pos}
end
def tPairs:List (TE×TE)→St→Hp→(List (V×V)→Hp→Prop)→Prop
  | [],_,H,Q=>Q [] H
  | (tk,tv) :: r,σ,H,Q=>tk σ H fun x H1=>tv σ H1 fun y H2=>tPairs r σ H2 fun ps H3=>Q ((x,y) :: ps) H3
abbrev VV:List (V×V)→List (Value×Value)→Prop:=Paired fun p q=>RelV p.1 q.1∧RelV p.2 q.2
def PPs (X:Cx) (pos:Pos) (keys:List (Option Expr)) (values:List Expr) (trs:List (TE×TE)):Prop:=
  ∀ (pins:List (Addr×Obj)) (s:Shared) (σ:St) (H:Hp) (Q:List (V×V)→Hp→Prop),Inv X pins σ H s→tPairs trs σ H Q →
    wpAny (model X.prog X.w) X.A (evalPairs (pairTrees keys values X.env pos)) (fun vs s'=>∃ ps H',Inv X pins σ H' s'∧VV ps vs∧Q ps H') X.xe s
def mergeK (kvs more:List (Key×V)):List (Key×V):=more.foldl (fun acc kv=>putK acc kv.1 kv.2) kvs
def tDisp (trs:List (TE×TE)):TE:=fun σ H Q=>∀ p,H p=none→tPairs trs σ (upd H p (.dK [])) fun ps H2=>H2 p=some (.dK [])∧∃ kvs:List (Key×V),ps=kvs.map (fun kv=>(kV kv.1,kv.2))∧kvs.length≤15∧Q (.ref p) (upd H2 p (.dK (mergeK [] kvs)))
structure M1 (X:Cx) (o:Expr) (m:Str) (apos:Pos) (e:Expr) (cpos:Pos):Prop where
  base:attributeBase o m X.env (eval o X.env)=eval o X.env
  few:((backTo cpos (starEach [e] X.env)).all (fun x=>!x.1) && (backToKw cpos (keywordEach [] X.env)).all (fun x=>x.1.isSome)
    && decide (([e]:List Expr).length + ([]:List Keyword).length + (if ([]:List Keyword).isEmpty then 0 else 1) < 30))=true
  line:(apos.endLine == cpos.line)=true
  trees:backTo cpos (starEach [e] X.env)=[(false,eval e X.env)]
structure M2 (X:Cx) (o:Expr) (m:Str) (apos:Pos) (e f:Expr) (cpos:Pos):Prop where
  base:attributeBase o m X.env (eval o X.env)=eval o X.env
  few:((backTo cpos (starEach [e,f] X.env)).all (fun x=>!x.1) && (backToKw cpos (keywordEach [] X.env)).all (fun x=>x.1.isSome)
    && decide (([e,f]:List Expr).length + ([]:List Keyword).length + (if ([]:List Keyword).isEmpty then 0 else 1) < 30))=true
  line:(apos.endLine == cpos.line)=true
  trees:backTo cpos (starEach [e,f] X.env)=[(false,eval e X.env),(false,eval f X.env)]
def IsD (H:Hp) (a:Addr):Prop:=(∃ kvs,Rd H a (.dK kvs))∨∃ kvs,Rd H a (.dT kvs)
section
variable {X:Cx} {pins:List (Addr×Obj)} {σ:St} {H:Hp} {s:Shared} {a:Addr} {y d:V} {u r:Value} {o:Option V} {A:Around} {E:Value→Shared→Prop}
end
def tDGet1 (td ty:TE):TE:=fun σ H Q=>td σ H fun x H1=>∃ a,x=.ref a∧IsD H1 a∧ty σ H1 fun y H2=>∃ o,DGet H2 a y o∧Q (o.getD .non) H2
def tDGet2 (td ty tx:TE):TE:=fun σ H Q=>td σ H fun x H1=>∃ a,x=.ref a∧IsD H1 a∧ty σ H1 fun y H2=>tx σ H2 fun z H3=>∃ o,DGet H3 a y o∧Q (o.getD z) H3
def tDPop1 (td ty:TE):TE:=fun σ H Q=>td σ H fun x H1=>∃ a,x=.ref a∧IsD H1 a∧ty σ H1 fun y H2=>∃ kvs k v,H2 a=some (.dK kvs)∧y=kV k∧valV kvs k=some v∧Q v (upd H2 a (.dK (dropK kvs k)))
def tDPop2 (td ty tx:TE):TE:=fun σ H Q=>td σ H fun x H1=>∃ a,x=.ref a∧IsD H1 a∧ty σ H1 fun y H2=>tx σ H2 fun z H3=>∃ kvs k,H3 a=some (.dK kvs)∧y=kV k ∧
  (∀ v,valV kvs k=some v→Q v (upd H3 a (.dK (dropK kvs k))))∧(valV kvs k=none→Q z H3)
section
variable {X:Cx} {o e f:Expr} {apos cpos:Pos} {td ty tx:TE}
end
section
variable {X:Cx} {pins:List (Addr×Obj)} {σ:St} {H:Hp} {s:Shared} {a:Addr} {kvs:List (Key×V)} {A:Around} {E:Value→Shared→Prop}
end
section
variable {X:Cx} {pins:List (Addr×Obj)} {σ:St} {H:Hp} {s:Shared} {a:Addr} {y:V} {u:Value} {A:Around} {E:Value→Shared→Prop}
end
end L2
namespace L2
open PySem PySem.Spec PyProof.Rows
section
variable {X:Cx}
end
section
variable {κ:Type} [DecidableEq κ]
end
end L2
set_option maxHeartbeats 4000000
namespace L2
open PySem PySem.Spec PyProof.Rows
theorem ObjOk.has {P:Program} {w:World} {H:Hp} {h:Heap} {a:Addr} {o:HO} (x:ObjOk P w H h a o):∃ ob,h.get? a=some ob:=by
  cases o with
  | lst xs=>obtain ⟨_,_,_,_,e⟩:=x; exact ⟨_,e⟩
  | tup xs=>obtain ⟨_,_,_,ob,e,_⟩:=x; exact ⟨_,e⟩
  | dK kvs=>obtain ⟨_,_,_,_,o,_,_,e,_⟩:=x; exact ⟨_,e⟩
  | dT kvs=>obtain ⟨_,_,_,_,o,_,_,e,_⟩:=x; exact ⟨_,e⟩
  | set S n=>obtain ⟨o,_,_,_,e,_⟩:=x; exact ⟨_,e⟩
  | ins C dx fs=>obtain ⟨_,_,_,e,_⟩:=x; exact ⟨_,e⟩
  | own y=>exact x
  | xd fs=>obtain ⟨_,⟨_,_,_,e,_⟩,_⟩:=x; exact ⟨_,e⟩
  | rng lo hi=>obtain ⟨_,_,_,e⟩:=x; exact ⟨_,e⟩
  | frz ob u=>obtain ⟨e,_⟩:=x; exact ⟨_,e⟩
  | tbl ps=>exact ⟨_,(show h.get? a=some _ from x)⟩
  | met f y=>exact ⟨_,(show h.get? a=some _ from x)⟩
  | ext φ=>obtain ⟨_,e,_⟩:=x; exact e
theorem HOk.has {P:Program} {w:World} {H:Hp} {h:Heap} (x:HOk P w H h) {b:Addr} (n:H b≠none):∃ ob,h.get? b=some ob:=by
  cases z:H b with
  | none=>exact absurd z n
  | some u=>exact (x b u z).has
def FlD (B:Heap) (l:List Env) (e:Addr) (cls fl:Value) (h:Heap):Prop:=
  B.StaysIn h∧B.get? e=none∧h.FunFrames B l∧∃ oe vs T oT ts,h.get? e=some oe∧oe.cls=cls∧oe.dict=none∧oe.data=.fields vs∧vs[1]?=some (.ref T)∧B.get? T=none∧T≠e∧h.get? T=some oT∧oT.data=.fields ts∧ts[3]?=some fl
theorem dict_mapF (o:Obj) (f:Array Value→Array Value):(o.mapFields f).dict=o.dict:=by
  obtain ⟨c,d,dt,sl⟩:=o
  cases dt <;> rfl
section
variable {M:Model} {A:Around} {E:Value→Shared→Prop} {s:Shared} {B:Heap} {env:Env} {outer l:List Env} {L e:Addr} {cls fl:Value} {Q:Unit→Shared→Prop}
theorem fl_entry {oe:Obj} {vs:Array Value} {head:Value} {nx:Bool} (hfr:A.frames=some (env :: outer)) (hl:s.heap.FunFrames B (env :: outer)) (hf:env.frame=some L) (he:s.heap.get? e=some oe) (hB:B.StaysIn s.heap) (hn:B.get? e=none)
    (hd:oe.data=.fields vs) (hz:1 < vs.size) (hdc:oe.dict=none) (k:∀ h',FlD B (env :: outer) e oe.cls (rawInt L) h'→s.heap.UpToSlots h'→Q () {s with heap:=h'}) :
    wpAny M A (do let a ← frameOf env; let pl ← entryPlaceOf L nx; let b ← EntryCells.newEntry head a .none (rawInt L) .none pl; setField (.ref e) 1 b) Q E s:=by
  have ef:e∉(env :: outer).filterMap (·.frame):=fun hm=>by
    obtain ⟨_,o,ho,q⟩:=hl.mem hm
    rw [he] at ho
    cases ho
    exact q vs hd
  refine wpAny_bind (wpAny_frameOf_fun hfr hl hf fun h1 g1=>wpAny_bind (wpAny_entryPlaceOf fun pl hpl=>?_))
  unfold EntryCells.newEntry newFields
  refine wpAny_bind (wpAny_newObj_type ?_ (hpl.sizeOk5 _ _ _ _ _))
  have e1:h1.get? e=some oe:=(g1.2.1 e ef).trans he
  have b1:B.StaysIn h1:=fun b o z=>(g1.2.1 b fun hm=>by rw [(hl.mem hm).1] at z; cases z).trans (hB b o z)
  have ne:h1.objs.size≠e:=Nat.ne_of_gt (Heap.lt_size e1)
  generalize hob:({cls:=.type "traceback",dict:=none,data:=.fields ([head,.ref L,.none,rawInt L,.none]++(if pl.isEmpty then List.replicate 6 Value.none else pl)).toArray}:Obj)=ob
  have e2:(h1.push ob).get? e=some oe:=Heap.get?_push_of_some _ e1
  have t2:(h1.push ob).get? h1.objs.size=some ob:=Heap.get?_push_size h1 (by rw [← hob]; rfl)
  refine wpAny_setField e2 hd hz (k _ ?_ ?_)
  · have d3:=Obj.data_mapFields hd (·.setIfInBounds 1 (Value.ref h1.objs.size))
    have keep:∀ b o,b≠e→h1.get? b=some o→((h1.push ob).update e (Obj.mapFields (·.setIfInBounds 1 (Value.ref h1.objs.size)))).get? b=some o:=fun b o q z=>by
      rw [Heap.get?_update_other _ _ (Ne.symm q)]
      exact Heap.get?_push_of_some _ z
    refine ⟨fun b o z=>keep b o (fun q=>by rw [q,hn] at z; cases z) (b1 b o z),hn,hl.of_keeps fun b o z q=>?_,_,_,h1.objs.size,ob,_,Heap.get?_update_self _ e2 (Obj.isFreed_of_fields d3),Obj.cls_mapFields _ _,(dict_mapF _ _).trans hdc,d3,by simp [hz],b1.fresh,ne,?_,by rw [← hob],?_⟩
    · obtain ⟨sl,w⟩:=g1.2.2 b o z
      exact ⟨_,keep b _ (fun y=>by rw [y,he] at z; cases z; exact q vs hd) w,rfl⟩
    · rw [Heap.get?_update_other _ _ (Ne.symm ne)]
      exact t2
    · first | (simp; done) | (rcases hpl with rfl | ⟨_,_,_,_,_,_,_,rfl⟩ <;> simp)
  · intro b o z q
    obtain ⟨sl,w⟩:=g1.2.2 b o z
    refine ⟨sl,?_⟩
    rw [Heap.get?_update_other _ _ (fun y=>by rw [← y,he] at z; cases z; exact q vs hd)]
    exact Heap.get?_push_of_some _ w
theorem fl_notT {T:Addr} {oT:Obj} {ts:Array Value} {h:Heap} (hT:h.get? T=some oT) (hdT:oT.data=.fields ts) {b:Addr} {o:Obj} (hb:h.get? b=some o) (q:∀ vs,o.data≠.fields vs):b≠T:=fun y=>by
  rw [y,hT] at hb
  cases hb
  exact q ts hdT
theorem fl_lands (x:FlD B l e cls fl s.heap) (k:∀ h',FlD B l e cls .none h'→s.heap.UpToSlots h'→Q () {s with heap:=h'}):wpAny M A (setFlight (.ref e) none) Q E s:=by
  obtain ⟨hB,hn,hl,oe,vs,T,oT,ts,he,hc,hdc,hd,h1,nT,Te,hT,dT,h3⟩:=x
  have z3:3 < ts.size:=(Array.getElem?_eq_some_iff.mp h3).1
  have ot:∀ b,b≠T→(s.heap.update T (Obj.mapFields (·.setIfInBounds 3 ((none:Option Addr).elim Value.none fun f=>rawInt f)))).get? b=s.heap.get? b:=fun b hb=>Heap.get?_update_other _ _ (Ne.symm hb)
  unfold setFlight
  refine wpAny_bind (wpAny_field he hd h1 ?_)
  rw [if_pos (show (Value.ref T != Value.none)=true from by simp)]
  refine wpAny_setField hT dT z3 (k _ ⟨fun b o z=>(ot b fun y=>by rw [y,nT] at z; cases z).trans (hB b o z),hn,hl.of_keeps fun b o z q=>⟨o,(ot b (fl_notT hT dT z q)).trans z,rfl⟩,oe,vs,T,_,_,(ot e (Ne.symm Te)).trans he,hc,hdc,hd,h1,nT,Te,Heap.get?_update_self _ hT (Obj.isFreed_of_fields (Obj.data_mapFields dT _)),Obj.data_mapFields dT _,by simp [z3]⟩
    fun b o z q=>⟨o.slots,(ot b (fl_notT hT dT z q)).trans z⟩)
theorem FlD.there {h:Heap} (x:FlD B l e cls fl h):∃ ob,h.get? e=some ob∧ob.cls=cls:=by
  obtain ⟨_,_,_,oe,_,_,_,_,he,hc,_⟩:=x
  exact ⟨oe,he,hc⟩
end
def Fly (B:Heap) (stk:List Env) (ea C:Addr) (h:Heap):Prop:=FlD B stk ea (.ref C) .none h
def CXo (P:Program) (w:World):CXT:=fun outer H s E e s' =>
  ∃ (ea C:Addr) (H':Hp) (B:Heap),e=.ref ea∧E (.ref C) none H'∧s'.os=s.os∧AllBare s'.gens∧Un (frs outer) [] H H' s.heap s'.heap∧HOk P w H' s'.heap∧Fly B outer ea C s'.heap ∧
    ∀ b o,(H' b≠none∨∃ o',s.heap.get? b=some o')→b∉frs outer→s'.heap.get? b=some o→B.get? b=some o
theorem Un.left {fs stk:List Addr} {H₀ H:Hp} {h₀ h h' B:Heap} (u:Un fs [] H₀ H h₀ h) (hB:B.StaysIn h') (cov:∀ b o,(H b≠none∨∃ o',h₀.get? b=some o')→b∉stk→h.get? b=some o→B.get? b=some o)
    (hst:∀ b o,h₀.get? b=some o→b∈stk→b∈fs) (sl:∀ b∈fs,∀ o,h.get? b=some o→∃ sl,h'.get? b=some {o with slots:=sl}):Un fs [] H₀ H h₀ h' where
  keep:=fun b o e n hb hx=>hB b o (cov b o (.inr ⟨o,e⟩) (fun z=>hb (hst b o e z)) (u.keep b o e n hb hx))
  slot:=fun b o e n hb hx=>by
    obtain ⟨s1,e1⟩:=u.slot b o e n hb hx
    obtain ⟨s2,e2⟩:=sl b hb _ e1
    exact ⟨s2,e2⟩
  free:=u.free
  there:=fun b o e hx=>by
    obtain ⟨o',e'⟩:=u.there b o e hx
    by_cases hb:b∈stk
    · obtain ⟨s2,e2⟩:=sl b (hst b o e hb) _ e'
      exact ⟨_,e2⟩
    · exact ⟨o',hB b o' (cov b o' (.inr ⟨o,e⟩) hb e')⟩
  tups:=u.tups
  frzs:=u.frzs
  tbls:=u.tbls
theorem HOk.left {P:Program} {w:World} {H:Hp} {h h' B:Heap} (ok:HOk P w H h) (hB:B.StaysIn h') (cov:∀ b o,H b≠none→h.get? b=some o→B.get? b=some o):HOk P w H h':=fun a o e =>
  (ok a o e).stay (fun b u hb q=>hB b u (cov b u (by
    rcases hb with z | z
    · rw [z,e]; simp
    · rw [z]; simp) q)) (fun _ q=>q) (fun _ _ q=>q)
section
variable {X:Cx} {pins:List (Addr×Obj)} {σ:St} {H:Hp} {s:Shared} {E E':XK}
theorem Inv.oldfs (I:Inv X pins σ H s):∀ b o,X.s₀.heap.get? b=some o→b∈frs X.stack→b∈X.fs:=fun b o e hb=>by
  rcases List.mem_cons.mp (I.stkSub b hb) with z | z
  · exact absurd (Nat.lt_of_lt_of_le (Heap.lt_size e) I.ok.above) (by rw [z]; exact Nat.lt_irrefl _)
  · exact z
theorem Inv.ntr (I:Inv X pins σ H s):∀ b,H b≠none→b∉frs X.stack:=fun b hn z=>hn (I.stkFree b z)
theorem Inv.slotsOf (I:Inv X pins σ H s) {h':Heap} (sm:s.heap.UpToSlots h'):∀ b∈X.fs,∀ o,s.heap.get? b=some o→∃ sl,h'.get? b=some {o with slots:=sl}:=fun b hb o e=>by
  obtain ⟨_,o',ho',hd⟩:=I.funs.mem hb
  rw [e] at ho'
  cases ho'
  exact sm b o e hd
structure BodyX (X:Cx) (E:XK):Prop where
  stk:X.stack=X.env :: X.outer
  fr:X.env.frame=some X.env.locals
  ex:X.ex=[]
  xe:X.xe=fun e s'=>wpAny (model X.prog X.w) X.A (leaving X.env e) (fun _ s''=>CXo X.prog X.w X.outer X.H₀ X.s₀ E e s'') (fun e' s''=>CXo X.prog X.w X.outer X.H₀ X.s₀ E e' s'') s'
end
section
variable {X:Cx} {E:XK} {x:Str} {C:Addr} {np cpos pos:Pos} {e₀:Expr} {rest:List Expr} {ta:TA} {K:PySem.W.Frag} {h:Heap}
theorem exc_obj {bmB:List Value} {newId:String} (X:K.In h) (q:PySem.W.excIn K C bmB newId=true) :
    ∃ bm N nm q bs hdct sn sub ab col dd k0 k1 k2 k3 k5 mN,h.get? C=some (excClassObj nm q C N bs bm hdct sn sub ab col dd k0 k1 k2 k3 k5 newId)∧h.Ns N mN∧mN "__init__"=none∧OwnTail h bmB bm:=by
  unfold PySem.W.excIn at q
  split at q
  · rename_i dd cd sl ho
    split at q
    · rename_i C' bm k0 k1 k2 k3 n k5 hm hs
      simp only [Bool.and_eq_true,beq_iff_eq,Bool.not_eq_true'] at q
      obtain ⟨⟨⟨⟨⟨rfl,rfl⟩,hdel⟩,ht⟩,hok⟩,hni⟩:=q
      obtain ⟨nm,bs,mro,ns,qn,hd,sn,sub,ab,col,del⟩:=cd
      dsimp only at hm hdel hok hni
      subst hm hdel
      have e:sl=#[k0,k1,k2,k3,some (.builtin n),k5]:=by
        obtain ⟨l⟩:=sl
        have hs':l=[k0,k1,k2,k3,some (.builtin n),k5]:=hs
        rw [hs']
      subst e
      exact ⟨bm,ns,nm,qn,bs,hd,sn,sub,ab,col,dd,k0,k1,k2,k3,k5,_,X _ _ ho,.of_isNs (PySem.W.isNs_of_in X hok),PySem.W.nsMap_none_of_in X hok hni,PySem.W.tail_of_in X ht⟩
    · cases q
  · cases q
def vErr:List Value:=[.type "ValueError",.type "Exception",.type "BaseException",.type "object"]
def tRaise (C:Addr) (E:XK) (ta:TA):TS:=fun _ σ H=>ta σ H fun vs H1=>vs.length≤sizeLine∧E (.ref C) none H1
end
section
variable {X:Cx} {pins:List (Addr×Obj)} {σ:St} {H:Hp} {s:Shared} {T:Addr→St→Hp→Prop}
def Tcov (X:Cx) (pins:List (Addr×Obj)) (H:Hp) (B h:Heap):Prop:=
  ∀ b o,(H b≠none∨(b∉X.ex∧∃ o',X.s₀.heap.get? b=some o')∨∃ p∈X.pn++pins,p.1=b)→b∉frs X.stack→h.get? b=some o→B.get? b=some o
def tryW (X:Cx) (pins:List (Addr×Obj)) (T:Addr→St→Hp→Prop):Value→Shared→Prop:=fun e s' =>
  ∃ ea C B σ H,e=.ref ea∧Inv X pins σ H s'∧Fly B X.stack ea C s'.heap∧Tcov X pins H B s'.heap∧T C σ H
abbrev Cx.tr (X:Cx) (pins:List (Addr×Obj)) (T:Addr→St→Hp→Prop):Cx:={X with xe:=tryW X pins T,pn:=X.pn++pins}
theorem cell_sl {h h':Heap} {c:Addr} {v:Option Value} (x:h.IsCell c v) (sm:h.UpToSlots h'):h'.IsCell c v:=by
  obtain ⟨o,ho,hd⟩:=x
  obtain ⟨sl,e⟩:=sm c o ho (fun vs q=>by rw [hd] at q; cases q)
  exact ⟨_,e,hd⟩
theorem Inv.landed {B h':Heap} (I:Inv X pins σ H s) (hB:B.StaysIn h') (cov:Tcov X pins H B s.heap) (sm:s.heap.UpToSlots h'):Inv X pins σ H {s with heap:=h'}:=by
  refine ⟨I.ok,I.os,I.bare,⟨fun b o e n hb hx=>?_,fun b o e n hb hx=>?_,I.base.free,fun b o e hx=>?_,I.base.tups,I.base.frzs,I.base.tbls⟩,?_,fun x c e=>?_,I.free,I.freeC,fun p hp=>?_,I.hok.left hB (fun b o n e=>cov b o (.inl n) (I.ntr b n) e),I.len⟩
  · exact hB b o (cov b o (.inr (.inl ⟨hx,o,e⟩)) (fun z=>hb (I.oldfs b o e z)) (I.base.keep b o e n hb hx))
  · obtain ⟨s1,e1⟩:=I.base.slot b o e n hb hx
    obtain ⟨s2,e2⟩:=I.slotsOf sm b hb _ e1
    exact ⟨s2,e2⟩
  · obtain ⟨o',e'⟩:=I.base.there b o e hx
    by_cases hb:b∈frs X.stack
    · obtain ⟨s2,e2⟩:=I.slotsOf sm b (I.oldfs b o e hb) _ e'
      exact ⟨_,e2⟩
    · exact ⟨o',hB b o' (cov b o' (.inr (.inl ⟨hx,o,e⟩)) hb e')⟩
  · obtain ⟨m,hn,hl⟩:=I.loc
    refine ⟨m,sm.ns hn,fun i x v e1 e2 e3=>?_⟩
    obtain ⟨u,r,l⟩:=hl i x v e1 e2 e3
    refine ⟨u,r,?_⟩
    rcases l with l | ⟨k,c,e,l⟩
    · exact .inl l
    · exact .inr ⟨k,c,e,cell_sl l sm⟩
  · obtain ⟨v,q⟩:=I.cell x c e
    exact ⟨v,cell_sl q sm⟩
  · obtain ⟨e,n,l,f,d⟩:=I.pin p hp
    exact ⟨hB _ _ (cov p.1 p.2 (.inr (.inr ⟨p,hp,rfl⟩)) (fun z=>(List.mem_cons.mp (I.stkSub _ z)).elim l f) e),n,l,f,d⟩
theorem Tcov.land {B h':Heap} (I:Inv X pins σ H s) (hB:B.StaysIn h') (cov:Tcov X pins H B s.heap):Tcov X pins H B h':=fun b o c n e=>by
  obtain ⟨o1,e1⟩:∃ o1,s.heap.get? b=some o1:=by
    rcases c with c | ⟨hx,o',c⟩ | ⟨p,hp,rfl⟩
    · exact I.hok.has c
    · exact I.base.there b o' c hx
    · exact ⟨_,(I.pin p hp).1⟩
  have e2:=hB b o1 (cov b o1 c n e1)
  rw [e] at e2
  cases e2
  exact cov b _ c n e1
abbrev Cx.hdl (X:Cx) (ea:Addr):Cx:={X with A:=X.A.mark (some (.ref ea)),calm:=false,xe:=fun _ _=>False}
theorem Inv.hdl (I:Inv X pins σ H s) (ea:Addr):Inv (X.hdl ea) pins σ H s:=
  ⟨⟨I.ok.mod,I.ok.kind,I.ok.glob,I.ok.blt,I.ok.above,I.ok.inj,I.ok.has,I.ok.cab,fun z=>Bool.noConfusion z,I.ok.frames,I.ok.stk,I.ok.exf,I.ok.bs,I.ok.bsz,I.ok.noex,I.ok.exfs,I.ok.funs,I.ok.frf⟩,I.os,I.bare,I.base,I.loc,I.cell,I.free,I.freeC,
    I.pin,I.hok,I.len⟩
theorem Inv.unhdl {ea:Addr} (ok:X.Ok) (I:Inv (X.hdl ea) pins σ H s):Inv X pins σ H s:=⟨ok,I.os,I.bare,I.base,I.loc,I.cell,I.free,I.freeC,I.pin,I.hok,I.len⟩
theorem SP.unhdl {ea:Addr} {D:Ends} {f:Flow} {s':Shared} (ok:X.Ok) (h:SP (X.hdl ea) pins D f s'):SP X pins D f s':=by
  cases f with
  | next=>obtain ⟨σ',H',I,q⟩:=h; exact ⟨σ',H',I.unhdl ok,q⟩
  | brk=>obtain ⟨σ',H',I,q⟩:=h; exact ⟨σ',H',I.unhdl ok,q⟩
  | cont=>obtain ⟨σ',H',I,q⟩:=h; exact ⟨σ',H',I.unhdl ok,q⟩
  | ret u=>obtain ⟨v,σ',H',I,r,q⟩:=h; exact ⟨v,σ',H',I.unhdl ok,r,q⟩
abbrev TH:=Addr→TS
def PHs (X:Cx) (hs:List ExceptHandler) (th:TH):Prop:=
  ∀ (pins:List (Addr×Obj)) (s:Shared) (σ:St) (H:Hp) (D:Ends) (ea C:Addr) (B:Heap),Inv X pins σ H s→Fly B X.stack ea C s.heap→Tcov X pins H B s.heap→th C D σ H →
    wpAny (model X.prog X.w) X.A (handleBy (.ref ea) X.env hs) (SP X pins D) X.xe s
def thNil:TH:=fun _ _ _ _=>False
def thCons (K:PySem.W.Frag) (Ci:Addr) (t:TS) (th:TH):TH:=fun C D σ H =>
  (PySem.W.exmOne K (.ref C) (.ref Ci)=some true∧t D σ H)∨(PySem.W.exmOne K (.ref C) (.ref Ci)=some false∧th C D σ H)
def tTry (T:Addr→St→Hp→Prop) (tb:TS) (th:TH):TS:=fun D σ H=>tb D σ H∧∀ C σ' H',σ'.length=σ.length→T C σ' H'→th C D σ' H'
def PassesS (CX:CXT) (X:Cx) (E:St→XK):Prop:=∀ (pins:List (Addr×Obj)) (σ:St) (H:Hp) (s:Shared) (e:Value) (s':Shared),Inv X pins σ H s→CX X.stack H s (E σ) e s'→X.xe e s'
def tryE (T:Addr→St→Hp→Prop):St→XK:=fun σ c _ H=>∃ C,c=.ref C∧T C σ H
def tCallS (sp:Sp) (E:St→XK) (t:TA):TE:=fun σ H Q=>t σ H fun vs H1=>sp vs H1 Q (E σ)
variable {CX:CXT} {k:Nat} {f:Addr} {fd:FuncData} {ps:List Str} {sp:Sp} {E:St→XK} {x:Str} {p pos:Pos} {e:Expr} {es:List Expr} {t:TA}
end
end L2
namespace L2
open PySem PySem.Spec PyProof.Rows
theorem compLoop_any {prog:Program} {w:World} {A:Around} {R:Result→Shared→Prop} {s:Shared} {elt target iter:Expr} {ifs:List Expr} {scope:Scope} {pos:Pos} {it acc:Value} {env:Env} (J:Nat→Shared→Prop)
    (turn:∀ n s,J n s→wpAny (model prog w) A (pyNext it) (fun r s1=>match r with
      | none=>R (.ok .next) s1
      | some v=>wpAny (model prog w) A (letOwnedTupleGo target it v) (fun _ s2=>wpAny (model prog w) A (assign target env v) (fun _ s3 =>
          wpAny (model prog w) A (forIn ifs true fun c r=>if r=true then do let ok ← isTrue c env (eval c env); pure (ForInStep.yield ok) else pure (ForInStep.yield r)) (fun ok s4 =>
            if ok=true then wpAny (model prog w) A (eval elt env) (fun x s5=>wpAny (model prog w) A (call (.builtin "list.append") [acc,x]) (fun _ s6=>∃ m,m < n∧J m s6) (fun _ _=>False) s5) (fun _ _=>False) s4
            else ∃ m,m < n∧J m s4) (fun _ _=>False) s3) (fun _ _=>False) s2) (fun _ _=>False) s1) (fun _ _=>False) s)
    (n:Nat) (h:J n s):codeAny (model prog w) A (.compLoop (.ListComp elt [⟨target,iter,ifs,0⟩] scope pos) 0 it acc env) R s:=by
  refine codeAny_loop rfl J (fun n s hI=>?_) n h
  show wpAny _ A ((compTurn (.ListComp elt [⟨target,iter,ifs,0⟩] scope pos) 0 it acc env).onRaise
    (fun x=>do noteFrame x env; theTreesLotGoes x)) _ _ s
  refine wpAny_noted ?_
  rw [compTurn_list]
  refine wpAny_bind (wpAny_standAt (wpAny_bind (wpAny_mono (turn n s hI) (fun r s1 h1=>?_) fun _ _ z=>z.elim)))
  cases r with
  | none=>exact wpAny_pure h1
  | some v =>
    refine wpAny_bind (wpAny_mono h1 (fun _ s2 h2=>?_) fun _ _ z=>z.elim)
    refine wpAny_bind (wpAny_mono h2 (fun _ s3 h3=>?_) fun _ _ z=>z.elim)
    refine wpAny_bind (wpAny_mono h3 (fun ok s4 h4=>?_) fun _ _ z=>z.elim)
    cases ok with
    | false=>exact wpAny_pure ⟨rfl,h4⟩
    | true =>
      refine wpAny_bind (wpAny_bind (wpAny_mono h4 (fun x s5 h5=>?_) fun _ _ z=>z.elim))
      exact wpAny_bind (wpAny_mono h5 (fun _ s6 h6=>wpAny_pure (wpAny_pure ⟨rfl,h6⟩)) fun _ _ z=>z.elim)
theorem rl_local {env:Env}:∀ {names:List (Str×NameKind)} {x:Str},
    (names.map fun (n,k)=>if (k == NameKind.free && env.scope.kind == .function && env.kindOf n == some .cell) then (n,NameKind.cell) else (n,k)).lookup x=some .local→names.lookup x=some .local
  | [],_,h=>by simp at h
  | (n,k) :: r,x,h=>by
    have ih:=@rl_local env r x
    rw [List.map_cons] at h
    dsimp only at h
    by_cases hc:(k == NameKind.free && env.scope.kind == .function && env.kindOf n == some .cell)=true
    · rw [if_pos hc] at h
      cases hx:x == n with
      | true=>simp [List.lookup_cons,hx] at h
      | false =>
        simp only [List.lookup_cons,hx] at h ⊢
        exact ih h
    · rw [if_neg hc] at h
      cases hx:x == n with
      | true =>
        simp only [List.lookup_cons,hx] at h ⊢
        exact h
      | false =>
        simp only [List.lookup_cons,hx] at h ⊢
        exact ih h
theorem rl_far {env:Env}:∀ {names:List (Str×NameKind)} {x:Str},
    ((names.map fun (n,k)=>if (k == NameKind.free && env.scope.kind == .function && env.kindOf n == some .cell) then (n,NameKind.cell) else (n,k)).lookup x=some .cell ∨
     (names.map fun (n,k)=>if (k == NameKind.free && env.scope.kind == .function && env.kindOf n == some .cell) then (n,NameKind.cell) else (n,k)).lookup x=some .free)→names.lookup x=some .cell∨names.lookup x=some .free
  | [],_,h=>by simp at h
  | (n,k) :: r,x,h=>by
    have ih:=@rl_far env r x
    rw [List.map_cons] at h
    dsimp only at h
    by_cases hc:(k == NameKind.free && env.scope.kind == .function && env.kindOf n == some .cell)=true
    · rw [if_pos hc] at h
      have hk:k=.free:=by
        have z:=(Bool.and_eq_true_iff.mp (Bool.and_eq_true_iff.mp hc).1).1
        exact eq_of_beq z
      cases hx:x == n with
      | true =>
        simp only [List.lookup_cons,hx]
        rw [hk]
        exact .inr rfl
      | false =>
        simp only [List.lookup_cons,hx] at h ⊢
        exact ih h
    · rw [if_neg hc] at h
      cases hx:x == n with
      | true =>
        simp only [List.lookup_cons,hx] at h ⊢
        exact h
      | false =>
        simp only [List.lookup_cons,hx] at h ⊢
        exact ih h
def clOf (env:Env):List (Str×NameKind)→List (Str×Addr)→List (Str×Addr)
  | [],cs=>cs
  | (n,k) :: r,cs=>clOf env r (if k=.free then (match env.cells.lookup n with | some c=>(n,c) :: cs | none=>cs) else cs)
theorem clOf_for {env:Env}:∀ (names:List (Str×NameKind)) (cs:List (Str×Addr)),(∀ y∈names,y.2=.free→∃ c,env.cells.lookup y.1=some c) →
    (forIn names cs fun x r=>(do
      if (x.2 == NameKind.free)=true then do
        let c ← cellOf env x.1
        pure (ForInStep.yield ((x.1,c) :: r))
      else pure (ForInStep.yield r):Sem (ForInStep (List (Str×Addr)))))=(pure (clOf env names cs):Sem (List (Str×Addr)))
  | [],cs,_=>rfl
  | (n,k) :: r,cs,h=>by
    have ih:=fun cs'=>clOf_for r cs' (fun y hy=>h y (List.mem_cons_of_mem _ hy))
    rw [List.forIn_cons]
    by_cases hk:k=.free
    · subst hk
      obtain ⟨c,hc⟩:=h _ List.mem_cons_self rfl
      have e1:cellOf env n=pure c:=by
        unfold cellOf
        rw [show env.cells.lookup n=some c from hc]
      have e2:clOf env ((n,.free) :: r) cs=clOf env r ((n,c) :: cs):=by
        show clOf env r (if NameKind.free=.free then (match env.cells.lookup n with | some c=>(n,c) :: cs | none=>cs) else cs)=_
        rw [if_pos rfl,show env.cells.lookup n=some c from hc]
      rw [e2,← ih]
      simp [e1]
    · have e2:clOf env ((n,k) :: r) cs=clOf env r cs:=by
        show clOf env r (if k=.free then _ else cs)=_
        rw [if_neg hk]
      rw [e2,← ih]
      have e3:(k == NameKind.free)=false:=by
        cases k <;> first | rfl | exact absurd rfl hk
      simp [e3]
theorem clOf_sub {env:Env}:∀ {names:List (Str×NameKind)} {cs:List (Str×Addr)} {n:Str} {c:Addr},(∀ n c,cs.lookup n=some c→env.cells.lookup n=some c)→(clOf env names cs).lookup n=some c→env.cells.lookup n=some c
  | [],_,_,_,h,e=>h _ _ e
  | (m,k) :: r,cs,n,c,h,e=>by
    refine clOf_sub (names:=r) (fun n' c' e'=>?_) e
    by_cases hk:k=.free
    · rw [if_pos hk] at e'
      cases hm:env.cells.lookup m with
      | none =>
        rw [hm] at e'
        exact h _ _ e'
      | some d =>
        rw [hm] at e'
        dsimp only at e'
        rw [List.lookup_cons] at e'
        split at e'
        · rename_i z
          rw [eq_of_beq z,hm]
          exact e'
        · exact h _ _ e'
    · rw [if_neg hk] at e'
      exact h _ _ e'
theorem clOf_more {env:Env}:∀ (names:List (Str×NameKind)) (cs:List (Str×Addr)) (n:Str),(∃ c,cs.lookup n=some c)→∃ c,(clOf env names cs).lookup n=some c
  | [],_,_,h=>h
  | (m,k) :: r,cs,n,h=>by
    refine clOf_more r _ n ?_
    by_cases hk:k=.free
    · rw [if_pos hk]
      cases hm:env.cells.lookup m with
      | none=>exact h
      | some d =>
        dsimp only
        rw [List.lookup_cons]
        split
        · exact ⟨_,rfl⟩
        · exact h
    · rw [if_neg hk]
      exact h
theorem clOf_has {env:Env}:∀ {names:List (Str×NameKind)} {cs:List (Str×Addr)} {n:Str},(n,NameKind.free)∈names→(∃ c,env.cells.lookup n=some c)→∃ c,(clOf env names cs).lookup n=some c
  | [],_,_,h,_=>by cases h
  | (m,k) :: r,cs,n,h,hc=>by
    rcases List.mem_cons.mp h with e | e
    · obtain ⟨e1,e2⟩:=Prod.mk.inj e
      subst e1 e2
      obtain ⟨c,hc⟩:=hc
      refine clOf_more r _ n ⟨c,?_⟩
      rw [if_pos rfl,hc]
      dsimp only
      rw [List.lookup_cons,beq_self_eq_true]
    · exact clOf_has (names:=r) e hc
structure CompOk (X:Cx) (scope:Scope) (NN:List Str):Prop where
  nocell:∀ y∈scope.names,y.2≠.cell
  kind:scope.kind=.function
  names:∀ y∈scope.names,y.2=.local→scope.names.lookup y.1=some .local
  far:∀ y∈scope.names,y.2=.free→X.env.kindOf y.1=some .cell∨X.env.kindOf y.1=some .free
  len:NN.length=X.N.length
  apart:∀ (i:Nat) (n:Str),NN[i]?=some n→scope.names.lookup n≠some .local∧(X.N[i]?=some n∨scope.names.lookup n=none)
theorem CompOk.open {X:Cx} {scope:Scope} {NN N:List Str} {sc:Scope} (hN:X.N=N) (hsc:X.env.scope=sc) (hc:∀ y∈scope.names,y.2≠.cell) (hk:scope.kind=.function) (hn:∀ y∈scope.names,y.2=.local→scope.names.lookup y.1=some .local)
    (hf:∀ y∈scope.names,y.2=.free→sc.names.lookup y.1=some .cell) (hl:NN.length=N.length) (ha:∀ p∈NN.zip N,scope.names.lookup p.1≠some .local∧(p.2=p.1∨scope.names.lookup p.1=none)):CompOk X scope NN where
  nocell:=hc
  kind:=hk
  names:=hn
  far:=fun y hy e=>.inl (by have z:=hf y hy e; rw [← hsc] at z; exact z)
  len:=by rw [hN]; exact hl
  apart:=fun i n e=>by
    have lt:i < N.length:=by rw [← hl]; exact (List.getElem?_eq_some_iff.mp e).1
    have e2:N[i]?=some N[i]:=List.getElem?_eq_getElem lt
    have z:=ha (n,N[i]) (List.mem_of_getElem? (i:=i) (by rw [List.getElem?_zip_eq_some]; exact ⟨e,e2⟩))
    refine ⟨z.1,?_⟩
    rcases z.2 with z | z
    · left
      rw [hN,e2]
      exact congrArg some z
    · exact .inr z
abbrev cxC (X:Cx) (scope:Scope) (NL:List Str) (fp:List Addr) (s₂:Shared) (H₂:Hp) (C:Addr):Cx:=
  {X with N:=NL,s₀:=s₂,H₀:=H₂,env:=compEnvC scope (clOf X.env scope.names []) C X.env,outer:=X.stack,ex:=fp,fn:=fun _=>false,pn:=[],xe:=fun _ _=>False}
def PTs (X:Cx) (ifs:List Expr) (t:TT):Prop:=
  ∀ (pins:List (Addr×Obj)) (s:Shared) (σ:St) (H:Hp) (Q:Bool→Hp→Prop),Inv X pins σ H s→t σ H Q →
    wpAny (model X.prog X.w) X.A (forIn ifs true fun c r=>if r=true then do let ok ← isTrue c X.env (eval c X.env); pure (ForInStep.yield ok) else pure (ForInStep.yield r)) (TP X pins σ Q) X.xe s
def tAll:TT:=fun _ H Q=>Q true H
theorem pts_nil {X:Cx}:PTs X [] tAll:=fun pins s σ H Q I h=>wpAny_tests_nil ⟨H,I,h⟩
theorem pts_one {X:Cx} {c:Expr} {t:TT} (h:PT X c t):PTs X [c] t:=fun pins s σ H Q I q=>wpAny_tests_one (h pins s σ H Q I q)
def tComp (n:Nat) (wi:TI) (g:TG) (tc:TT) (te:TE):TE:=fun σ H Q=>wi σ H fun J H1=>∃ W:Nat→Nat→List V→Hp→Prop,(∃ m,W 0 m [] H1)∧∀ i m ys H,W i m ys H→ys.length < sizeLine ∧
  ((J.stop i H∧∀ p,H p=none→Q (.ref p) (upd H p (.lst ys))) ∨
   (J.go i H∧∃ N:List V→Hp→Prop,(∀ ys' H',N ys' H'→∃ m',m' < m∧W (i + 1) m' ys' H')∧∀ x H',J.yld i H x H'→g x (List.replicate n none++σ) H' fun σ2 H2=>σ2.drop n=σ∧tc σ2 H2 fun b H3 =>
      if b=true then te σ2 H3 fun y H4=>N (ys++[y]) H4 else N ys H3))
section
variable {X:Cx}
theorem drop_get {σ σ2:St} {n:Nat} (h:σ2.drop n=σ) (i:Nat) (v:V) (e:(List.replicate n none++σ)[i]?=some (some v)):σ2[i]?=some (some v):=by
  by_cases hi:i < n
  · rw [List.getElem?_append_left (by simpa using hi),List.getElem?_replicate,if_pos hi] at e
    cases e
  · rw [List.getElem?_append_right (by simpa using hi),List.length_replicate] at e
    rw [← h,List.getElem?_drop] at e
    rw [show n + (i - n)=i by omega] at e
    exact e
theorem comp_gen {elt target iter:Expr} {ifs:List Expr} {scope:Scope} {NN:List Str} {pos pos':Pos} {wi:TI} {g:TG} {tc:TT} {te:TE} {use:Option (Value→Sem Unit)} {Qv:Value→Shared→Prop} (own:List Str) (ok:CompOk X scope NN) (hc:X.calm=true) (hi:PI X target iter wi)
    (hg:∀ fp s₂ H₂ C,PG (cxC X scope (own++NN) fp s₂ H₂ C) target g) (ht:∀ fp s₂ H₂ C,PTs (cxC X scope (own++NN) fp s₂ H₂ C) ifs tc) (he:∀ fp s₂ H₂ C,PE (cxC X scope (own++NN) fp s₂ H₂ C) elt te)
    (hs:∀ x,foldedSetIterable iter X.env x=pure x) {pins:List (Addr×Obj)} {s:Shared} {σ:St} {H:Hp} {Q:VK} (I:Inv X pins σ H s) (h:tComp own.length wi g tc te σ H Q)
    (hfin:∀ (s4:Shared) (C D:Addr) (H':Hp) (m:Str→Option Value),s4.heap.Ns C m→Inv X pins σ H' s4→H' C=none→C≠X.env.locals→X.s₀.heap.objs.size≤C→(∀ x c,X.env.cells.lookup x=some c→c≠C)→(∀ p∈X.pn++pins,p.1≠C)→Q (.ref D) H' →
      compPost (model X.prog X.w) X.A X.xe use Qv (.ref D) C (.ok .next) s4) :
    wpAny (model X.prog X.w) X.A (comprehension (.ListComp elt [⟨target,iter,ifs,0⟩] scope pos) scope X.env pos' (newList []) false (eval iter X.env) use) Qv X.xe s:=by
  have hfr:∀ y∈scope.names,y.2=.free→∃ c,X.env.cells.lookup y.1=some c:=fun y hy e=>I.ok.has _ (ok.far y hy e)
  have okclos:closureFor scope X.env=pure (clOf X.env scope.names []):=by
    unfold closureFor
    rw [← clOf_for scope.names [] hfr]
    simp
  have oksub:∀ n c,(clOf X.env scope.names []).lookup n=some c→X.env.cells.lookup n=some c:=fun n c e=>clOf_sub (fun n c e=>by simp at e) e
  have okfar:∀ n,(scope.names.lookup n=some .cell∨scope.names.lookup n=some .free)→(∃ c,(clOf X.env scope.names []).lookup n=some c)∧(X.env.kindOf n=some .cell∨X.env.kindOf n=some .free):=fun n e=>by
    rcases e with e | e
    · exact absurd rfl (ok.nocell _ (PySem.mem_of_lookup e))
    · have m:=PySem.mem_of_lookup e
      exact ⟨clOf_has m (hfr _ m rfl),ok.far _ m rfl⟩
  refine wpAny_comprehension_free (use:=use) rfl hs okclos ok.kind ok.names (thn (hi pins s σ H _ I h) fun xv s1 h1=>thn h1 fun itv s2 h2=>?_)
  obtain ⟨it,fp,tn,J,H2,e,I2,T,st2,f2,W,⟨m0,w0⟩,turn⟩:=h2
  subst e
  have fpLt:∀ b∈fp,b < s2.heap.objs.size:=fun b hb=>by
    obtain ⟨o,e,_⟩:=T.obj _ _ st2 b hb
    exact Heap.lt_size e
  refine wpAny_newObj_type (wpAny_newFunctionEnv ok.nocell (by intro y hy; simp at hy) (fun h1 hns hsb=>?_) ok.kind)
  dsimp only at hns hsb ⊢
  generalize hP:s2.heap.push {cls:=.type "list",dict:=none,data:=.seq ([]:List Value).toArray}=P at hns hsb ⊢
  have hC:P.objs.size=s2.heap.objs.size + 1:=by rw [← hP,Heap.size_push]
  have hDC:s2.heap.objs.size≠P.objs.size:=by rw [hC]; exact Nat.ne_of_lt (Nat.lt_succ_self _)
  have leC:s2.heap.objs.size≤P.objs.size:=by rw [hC]; exact Nat.le_succ _
  have old:∀ b o,s2.heap.get? b=some o→h1.get? b=some o:=fun b o e =>
    hsb.extBut b o (by rw [hC]; exact Nat.ne_of_lt (Nat.lt_succ_of_lt (Heap.lt_size e))) (Heap.get?_push_of_some _ (hP ▸ Heap.get?_push_of_some _ e))
  have accAt:h1.get? s2.heap.objs.size=some {cls:=.type "list",data:=.seq ([]:List Value).toArray 0}:=hsb.extBut _ _ hDC (Heap.get?_push_of_some _ (hP ▸ Heap.get?_push_size _ rfl))
  -- the block's context is well made
  have okC:(cxC X scope (own++NN) fp s2 H2 P.objs.size).Ok:=by
    refine ⟨I.ok.mod,ok.kind,I.ok.glob,I.ok.blt,by show s2.heap.objs.size≤P.objs.size; omega,fun y z c a b=>I.ok.inj y z c (oksub _ _ a) (oksub _ _ b),fun y hy=>(okfar y (rl_far hy)).1,fun y c z _=>Bool.noConfusion z,I.ok.hd,I.ok.frames,.inl rfl,
      fun b hb=>⟨fun z=>?_,fun y c e=>(f2 b hb).2.2.2.2.1 y c (oksub _ _ e)⟩,I2.bs,Nat.le_trans I.ok.bsz I2.sz,fun b o e hb=>?_,fun b hb z=>?_,I2.stack,I2.stkFree⟩
    · exact Nat.ne_of_lt (Nat.lt_of_lt_of_le (fpLt b hb) leC) z
    · rcases (f2 b hb).2.2.2.1 with q | q
      · exact I.ok.noex b o e q
      · exact absurd (Nat.lt_of_lt_of_le (Heap.lt_size e) (Nat.le_trans I.ok.bsz q)) (Nat.lt_irrefl _)
    · rcases List.mem_cons.mp (I2.stkSub b z) with q | q
      · exact (f2 b hb).2.1 q
      · exact (f2 b hb).2.2.1 q
  have fpOk:∀ {H':Hp} {o:Obj},(∀ b∈fp,H' b=none)→∀ b∈fp,FpOk (cxC X scope (own++NN) fp s2 H2 P.objs.size) [(s2.heap.objs.size,o)] H' b:=fun {H' o} hn b hb=>by
    have lt:=fpLt b hb
    refine ⟨hn b hb,fun z=>?_,fun z=>okC.exfs b hb z,.inl hb,fun y c e=>(okC.exf b hb).2 y c e,fun p hp z=>?_⟩
    · exact Nat.ne_of_lt (Nat.lt_of_lt_of_le lt leC) z
    · have hp':p=(s2.heap.objs.size,o):=by simpa using hp
      subst hp'
      exact Nat.ne_of_lt lt (Eq.symm z)
  have cellNe:∀ y c,(clOf X.env scope.names []).lookup y=some c→c < s2.heap.objs.size:=fun y c e=>by
    obtain ⟨v,q⟩:=I2.cell y c (oksub _ _ e)
    exact q.lt
  have start:Inv (cxC X scope (own++NN) fp s2 H2 P.objs.size) [] (List.replicate own.length none++σ) H2 {s2 with heap:=h1,toks:=s2.toks + ([]:List (Str×Value)).length}:=by
    refine ⟨okC,rfl,I2.bare,Un.kept old,⟨_,hns,fun i y v e1 e2 e3=>?_⟩,fun y c e=>?_,I2.hok.fresh (by show s2.heap.objs.size≤P.objs.size; omega),fun y c e=>I2.freeC y c (oksub _ _ e),fun p hp=>absurd (show p∈([]:List (Addr×Obj)) from by simpa using hp) (by simp),I2.hok.kept old,?_⟩
    · by_cases hi:i < own.length
      · rw [List.getElem?_append_left (by simpa using hi),List.getElem?_replicate,if_pos hi] at e2
        cases e2
      · have e1n:NN[i - own.length]?=some y:=by
          have z:(own++NN)[i]?=some y:=e1
          rw [List.getElem?_append_right (by omega)] at z
          exact z
        rw [List.getElem?_append_right (by simpa using hi),List.length_replicate] at e2
        obtain ⟨ap1,ap2⟩:=ok.apart _ y e1n
        rcases e3 with e3 | e3
        · exact absurd (rl_local e3) ap1
        · obtain ⟨⟨c,hcl⟩,kc⟩:=okfar y (rl_far e3)
          have e1':X.N[i - own.length]?=some y:=by
            rcases ap2 with z | z
            · exact z
            · rcases rl_far e3 with q | q <;> (rw [z] at q; cases q)
          obtain ⟨m,hn,hl⟩:=I2.loc
          obtain ⟨u,r,l⟩:=hl (i - own.length) y v e1' e2 (.inr kc)
          refine ⟨u,r,.inr ⟨e3,c,hcl,?_⟩⟩
          rcases l with ⟨l,_⟩ | ⟨_,c',e',q⟩
          · rcases kc with kc | kc <;> (rw [l] at kc; cases kc)
          · rw [oksub _ _ hcl] at e'
            cases e'
            exact q.keeps old
    · obtain ⟨v,q⟩:=I2.cell y c (oksub _ _ e)
      exact ⟨v,q.keeps old⟩
    · show (List.replicate own.length none++σ).length=(own++NN).length
      rw [List.length_append,List.length_append,List.length_replicate,I2.len,ok.len]
  have nDC:s2.heap.objs.size≠P.objs.size:=hDC
  have nDf:s2.heap.objs.size∉frs X.stack:=fun z=>by
    rcases List.mem_cons.mp (I2.stkSub _ z) with q | q
    · exact Nat.ne_of_lt I2.lt (Eq.symm q)
    · exact I2.nofs (Nat.le_refl _) q
  have loop:∀ s₃:Shared,s₃={s2 with heap:=h1,toks:=s2.toks + ([]:List (Str×Value)).length} →
      codeAny (model X.prog X.w) X.A (.compLoop (.ListComp elt [⟨target,iter,ifs,0⟩] scope pos) 0 (.ref it) (.ref s2.heap.objs.size) (compEnvC scope (clOf X.env scope.names []) P.objs.size X.env))
        (compPost (model X.prog X.w) X.A X.xe use Qv (.ref s2.heap.objs.size) P.objs.size) s₃:=by
    rintro s₃ rfl
    refine compLoop_any (fun n s'=>∃ (i:Nat) (ys:List V) (H':Hp) (its:List Value) (k:Nat),Inv (cxC X scope (own++NN) fp s2 H2 P.objs.size) [] (List.replicate own.length none++σ) H' s'∧tn i s'.heap∧(∀ b∈fp,H' b=none)∧H' s2.heap.objs.size=none∧Vals ys its ∧
      s'.heap.get? s2.heap.objs.size=some {cls:=.type "list",data:=.seq its.toArray k}∧W i n ys H') ?_ m0
      ⟨0,[],H2,[],0,start,T.keep _ _ _ st2 (fun b _ o e=>old b o e),fun b hb=>(f2 b hb).1,I2.hok.fresh (Nat.le_refl _),.nil,accAt,w0⟩
    rintro n s3 ⟨i,ys,H3,its,k,I3,st3,fr3,nD,rv,hD,w3⟩
    have Ip:Inv (cxC X scope (own++NN) fp s2 H2 P.objs.size) [(s2.heap.objs.size,{cls:=.type "list",data:=.seq its.toArray k})] (List.replicate own.length none++σ) H3 s3:=I3.pins_of fun p hp=>by
      have hp':p=(s2.heap.objs.size,{cls:=.type "list",data:=.seq its.toArray k}):=by simpa using hp
      subst hp'
      exact ⟨hD,nD,nDC,nDf,fun v z=>by cases z⟩
    obtain ⟨hl,hw⟩:=turn i n ys H3 w3
    rcases hw with ⟨stop,fin⟩ | ⟨go,N,hN,step⟩
    · refine thn (T.done (cxC X scope (own++NN) fp s2 H2 P.objs.size) rfl rfl rfl hc i _ s3 _ H3 _ Ip (fpOk fr3) st3 stop) fun r s4 z=>?_
      obtain ⟨hr,I4⟩:=z
      subst hr
      obtain ⟨m,hn,_⟩:=I4.loc
      have hD4:s4.heap.get? s2.heap.objs.size=some {cls:=.type "list",data:=.seq its.toArray k}:=(I4.pin _ (List.mem_append_right _ List.mem_cons_self)).1
      obtain ⟨h',eh'⟩:∃ h',h'=s4.heap:=⟨_,rfl⟩
      have sb':∀ b o,b≠P.objs.size→s4.heap.get? b=some o→h'.get? b=some o:=fun b o hb e=>by rw [eh']; exact e
      have oldNe:∀ b o,s2.heap.get? b=some o→b≠P.objs.size∧b≠s2.heap.objs.size:=fun b o e=>by
        have lt:=Heap.lt_size e
        exact ⟨Nat.ne_of_lt (Nat.lt_of_lt_of_le lt leC),Nat.ne_of_lt lt⟩
      have trNe:∀ b u,H3 b=some u→b≠P.objs.size∧b≠s2.heap.objs.size:=fun b u e=>by
        refine ⟨fun z=>?_,fun z=>?_⟩
        · have q:H3 P.objs.size=none:=I4.free
          rw [← z,e] at q
          cases q
        · rw [z,nD] at e
          cases e
      have un:Un (frs X.stack) fp H2 (upd H3 s2.heap.objs.size (.lst ys)) s2.heap h':=by
        have B:=I4.base
        refine ⟨fun b o e q hb hx=>sb' b o (oldNe b o e).1 (B.keep b o e q hb hx),fun b o e q hb hx=>?_,fun b o e q hx=>?_,fun b o e hx=>?_,fun b xs e=>?_,fun b o u e=>?_,fun b ps e=>?_⟩
        · obtain ⟨sl,e1⟩:=B.slot b o e q hb hx
          exact ⟨sl,sb' _ _ (oldNe b o e).1 e1⟩
        · rw [upd_ne (oldNe b o e).2]
          exact B.free b o e q hx
        · obtain ⟨o',e1⟩:=B.there b o e hx
          exact ⟨o',sb' _ _ (oldNe b o e).1 e1⟩
        · have q:=B.tups b xs e
          rw [upd_ne (trNe _ _ q).2]
          exact q
        · have q:=B.frzs b o u e
          rw [upd_ne (trNe _ _ q).2]
          exact q
        · obtain ⟨more,q⟩:=B.tbls b ps e
          refine ⟨more,?_⟩
          rw [upd_ne (trNe _ _ q).2]
          exact q
      have hok:HOk X.prog X.w (upd H3 s2.heap.objs.size (.lst ys)) h':=fun b u e=>by
        by_cases hb:b=s2.heap.objs.size
        · subst hb
          rw [upd_same] at e
          cases e
          exact ⟨Nat.le_of_lt hl,its,k,rv,sb' _ _ nDC hD4⟩
        · rw [upd_ne hb] at e
          refine (I4.hok b u e).stay (fun c v hc q=>sb' c v ?_ q) (fun c q=>?_) fun c xs q=>?_
          · rcases hc with z | z
            · rw [z]
              exact (trNe _ _ e).1
            · exact (trNe _ _ z).1
          · rw [upd_ne (trNe _ _ q).2]
            exact q
          · rw [upd_ne (trNe _ _ q).2]
            exact q
      have J:=I2.call' (s':={s4 with heap:=h'}) (ch:=fp) I4.os un hok I4.bare fun b hb=>⟨(f2 b hb).2.2.2.1,(f2 b hb).2.1,(f2 b hb).2.2.2.2.1,(f2 b hb).2.2.2.2.2⟩
      subst eh'
      refine hfin s4 P.objs.size s2.heap.objs.size (upd H3 s2.heap.objs.size (.lst ys)) m hn J ?_ ?_ ?_ (fun y c e=>?_) (fun q hq=>?_) (fin _ nD)
      · rw [upd_ne nDC.symm]
        exact I4.free
      · exact Nat.ne_of_gt (Nat.lt_of_lt_of_le I2.lt leC)
      · exact Nat.le_trans I2.sz leC
      · obtain ⟨v,z⟩:=I2.cell y c e
        exact Nat.ne_of_lt (Nat.lt_of_lt_of_le z.lt leC)
      · exact Nat.ne_of_lt (Nat.lt_of_lt_of_le (Heap.lt_size (I2.pin q hq).1) leC)
    · refine thn (T.item (cxC X scope (own++NN) fp s2 H2 P.objs.size) rfl rfl rfl hc i _ s3 _ H3 _ Ip (fpOk fr3) st3 go) fun r s4 z=>?_
      obtain ⟨u,hr,h4⟩:=z
      subst hr
      refine thn h4 fun _ s5 z=>?_
      obtain ⟨x,H5,I5,r5,y5,st5,fr5⟩:=z
      have I5':=I5.pinned (fpOk fr5) (T.obj _ _ st5)
      refine thn (hg fp s2 H2 P.objs.size _ s5 _ H5 x u _ I5' r5 (step x H5 y5)) fun _ s6 z=>?_
      obtain ⟨σ6,H6,I6,hσ,q6⟩:=z
      refine thn (ht fp s2 H2 P.objs.size _ s6 σ6 H6 _ I6 q6) fun okb s7 z=>?_
      obtain ⟨H7,I7,q7⟩:=z
      have pinD:∀ {H8:Hp} {s8:Shared},Inv (cxC X scope (own++NN) fp s2 H2 P.objs.size) ([(s2.heap.objs.size,{cls:=.type "list",data:=.seq its.toArray k})]++pinsAt fp s5.heap) σ6 H8 s8 →
          s8.heap.get? s2.heap.objs.size=some {cls:=.type "list",data:=.seq its.toArray k}∧H8 s2.heap.objs.size=none:=fun I8=>by
        have z:=I8.pin (s2.heap.objs.size,{cls:=.type "list",data:=.seq its.toArray k}) (List.mem_append_right _ (List.mem_append_left _ List.mem_cons_self))
        exact ⟨z.1,z.2.1⟩
      have pinF:∀ {H8:Hp} {s8:Shared},Inv (cxC X scope (own++NN) fp s2 H2 P.objs.size) ([(s2.heap.objs.size,{cls:=.type "list",data:=.seq its.toArray k})]++pinsAt fp s5.heap) σ6 H8 s8 →
          tn (i + 1) s8.heap∧∀ b∈fp,H8 b=none:=fun {H8 s8} I8=>by
        refine ⟨T.keep _ _ _ st5 fun b hb o e=>(I8.pin (b,o) (List.mem_append_right _ (List.mem_append_right _ (mem_pinsAt hb e)))).1,fun b hb=>?_⟩
        obtain ⟨o,e,_⟩:=T.obj _ _ st5 b hb
        exact (I8.pin (b,o) (List.mem_append_right _ (List.mem_append_right _ (mem_pinsAt hb e)))).2.1
      have len6:(List.replicate own.length none++σ).length=σ6.length:=by rw [I6.len,start.len]
      cases okb with
      | false =>
        have q7':N ys H7:=q7
        obtain ⟨m',lt,w'⟩:=hN _ _ q7'
        obtain ⟨d1,d2⟩:=pinD I7
        obtain ⟨p1,p2⟩:=pinF I7
        have J7:Inv (cxC X scope (own++NN) fp s2 H2 P.objs.size) [] σ6 H7 s7:=I7.pins_of (fun p hp=>absurd hp (by simp))
        exact ⟨m',lt,i + 1,ys,H7,its,k,J7.weak len6 (drop_get hσ),p1,p2,d2,rv,d1,w'⟩
      | true =>
        refine thn (he fp s2 H2 P.objs.size _ s7 σ6 H7 _ I7 q7) fun v8 s8 z=>?_
        obtain ⟨y,H8,I8,r8,n8⟩:=z
        obtain ⟨m',lt,w'⟩:=hN _ _ n8
        obtain ⟨d1,d2⟩:=pinD I8
        obtain ⟨p1,p2⟩:=pinF I8
        refine append_at (hsz:=by rw [List.size_toArray,← rv.length]; exact Nat.le_of_lt hl) d1 fun h9 sb hD9=>?_
        have J8:Inv (cxC X scope (own++NN) fp s2 H2 P.objs.size) [] σ6 H8 s8:=I8.pins_of (fun p hp=>absurd hp (by simp))
        have J9:Inv (cxC X scope (own++NN) fp s2 H2 P.objs.size) [] σ6 H8 {s8 with heap:=h9}:=J8.turned (t':=s8.toks) (it:=s2.heap.objs.size) (fun b o hb e=>sb.extBut b o hb e) d2 nDC (.inr (Nat.le_refl _)) (fun y c e=>Nat.ne_of_lt (cellNe y c e)) (fun p hp=>absurd hp (by simp))
        refine ⟨m',lt,i + 1,ys++[y],H8,its++[v8],k + 1,J9.weak len6 (drop_get hσ),T.keep _ _ _ p1 (fun b hb o e=>sb.extBut b o (Nat.ne_of_lt (fpLt b hb)) e),p2,d2,rv.append (.cons r8 .nil),?_,w'⟩
        show h9.get? _=_
        rw [hD9,List.push_toArray]
  exact codeAny_compStart_list (loop _ rfl) (T.self X.A 0 _ _ _ (T.keep _ _ _ st2 (fun b _ o e=>old b o e)) (loop _ rfl))
theorem pe_comp {elt target iter:Expr} {ifs:List Expr} {scope:Scope} {NN:List Str} {pos:Pos} {wi:TI} {g:TG} {tc:TT} {te:TE} (own:List Str) (ok:CompOk X scope NN) (hc:X.calm=true) (hi:PI X target iter wi)
    (hg:∀ fp s₂ H₂ C,PG (cxC X scope (own++NN) fp s₂ H₂ C) target g) (ht:∀ fp s₂ H₂ C,PTs (cxC X scope (own++NN) fp s₂ H₂ C) ifs tc) (he:∀ fp s₂ H₂ C,PE (cxC X scope (own++NN) fp s₂ H₂ C) elt te)
    (hs:∀ x,foldedSetIterable iter X.env x=pure x:=by intro _; rfl):PE X (.ListComp elt [⟨target,iter,ifs,0⟩] scope pos) (tComp own.length wi g tc te):=by
  intro pins s σ H Q I h
  rw [eval_ListComp]
  refine comp_gen (use:=none) own ok hc hi hg ht he hs I h fun s4 C D H' m hn J n1 n2 n3 n4 n5 q=>?_
  exact ⟨m,hn,fun h' sb=>⟨.ref D,H',J.turned (t':=s4.toks) (it:=C) (fun b o hb e=>sb.extBut b o hb e) n1 n2 (.inr n3) n4 n5,rfl,q⟩⟩
theorem ps_comp {elt target iter:Expr} {ifs:List Expr} {scope:Scope} {NN:List Str} {pos pos' spos:Pos} {wi:TI} {g:TG} {tc:TT} {te:TE} {i:Nat} {x:Str} (own:List Str) (ok:CompOk X scope NN) (hc:X.calm=true) (hN:X.N.Nodup) (hx0:X.N[i]?=some x) (hx:Loc X.env.scope x) (hi:PI X target iter wi)
    (hg:∀ fp s₂ H₂ C,PG (cxC X scope (own++NN) fp s₂ H₂ C) target g) (ht:∀ fp s₂ H₂ C,PTs (cxC X scope (own++NN) fp s₂ H₂ C) ifs tc) (he:∀ fp s₂ H₂ C,PE (cxC X scope (own++NN) fp s₂ H₂ C) elt te)
    (hs:∀ x,foldedSetIterable iter X.env x=pure x:=by intro _; rfl) (hf:X.fn x=true∨X.env.scope.names.lookup x=some .local:=by first | exact .inl rfl | exact .inr rfl | assumption)
    (hsw:swapsWith (.ListComp elt [⟨target,iter,ifs,0⟩] scope pos) (some (.Name x pos')) spos.line X.env=pure true:=by rfl):PS X (.Assign [.Name x pos'] (.ListComp elt [⟨target,iter,ifs,0⟩] scope pos) spos) (tAsg (tComp own.length wi g tc te) (gName i)):=by
  intro pins s σ H D I h
  rw [exec_Assign_Name_used _ _ _ _ hsw]
  refine wpAny_bind (wpAny_standAt (wpAny_bind ?_))
  show wpAny _ X.A (do let _ ← comprehension (.ListComp elt [⟨target,iter,ifs,0⟩] scope pos) scope X.env _ (newList []) false (eval iter X.env) (some (assign (.Name x pos') X.env))) _ _ s
  refine wpAny_bind (wpAny_mono (comp_gen (use:=some (assign (.Name x pos') X.env)) (Qv:=fun _ s'=>SP X pins D .next s') own ok hc hi hg ht he hs I h fun s4 C DD H' m hn J n1 n2 n3 n4 n5 q=>?_) (fun _ s' hq=>wpAny_pure (wpAny_pure hq)) fun _ _ e=>e)
  show wpAny _ X.A (assign (.Name x pos') X.env (.ref DD)) _ _ s4
  refine wpAny_assign_Name (store_ok2 J hN hx0 hx (show RelV (.ref DD) (.ref DD) from rfl) (fun s' J' z=>?_) hf)
  obtain ⟨a,sb,ha⟩:=z
  have na:C≠a:=by
    rcases ha with ha | ha
    · rw [ha]
      exact n2
    · exact (n4 x a ha).symm
  refine ⟨m,hn.at' fun o e=>sb.extBut C o na e,fun h' sb2=>⟨_,H',J'.turned (t':=s'.toks) (it:=C) (fun b o hb e=>sb2.extBut b o hb e) n1 n2 (.inr n3) n4 n5,q⟩⟩
end
section
variable {K:PySem.W.Frag} {a:Addr} {xs:List V} {n:Nat} {g:TG} {tc:TT} {te:TE} {σ:St} {H:Hp} {Q:VK}
theorem comp_list (Pv:Nat→List V→Hp→Prop) (h0:Pv 0 [] H) (hl:∀ i ys H,i≤xs.length→Pv i ys H→SqL K H a xs∧ys.length < sizeLine)
    (hs:∀ i x ys H,xs[i]?=some x→Pv i ys H→g x (List.replicate n none++σ) H fun σ2 H2=>σ2.drop n=σ∧tc σ2 H2 fun b H3=>if b=true then te σ2 H3 fun y H4=>Pv (i + 1) (ys++[y]) H4 else Pv (i + 1) ys H3)
    (hd:∀ ys H,Pv xs.length ys H→∀ p,H p=none→Q (.ref p) (upd H p (.lst ys))) :
    ∃ W:Nat→Nat→List V→Hp→Prop,(∃ m,W 0 m [] H)∧∀ i m ys H,W i m ys H→ys.length < sizeLine∧(((Itl K a).stop i H∧∀ p,H p=none→Q (.ref p) (upd H p (.lst ys))) ∨
      ((Itl K a).go i H∧∃ N:List V→Hp→Prop,(∀ ys' H',N ys' H'→∃ m',m' < m∧W (i + 1) m' ys' H')∧∀ x H',(Itl K a).yld i H x H'→g x (List.replicate n none++σ) H' fun σ2 H2=>σ2.drop n=σ∧tc σ2 H2 fun b H3 =>
        if b=true then te σ2 H3 fun y H4=>N (ys++[y]) H4 else N ys H3)):=by
  refine ⟨fun i m ys H=>m=xs.length - i∧i≤xs.length∧Pv i ys H,⟨xs.length,by simp,Nat.zero_le _,h0⟩,?_⟩
  rintro i m ys H ⟨rfl,hi,p⟩
  obtain ⟨q,z⟩:=hl i ys H hi p
  refine ⟨z,?_⟩
  by_cases hlt:i < xs.length
  · refine .inr ⟨⟨xs,xs[i],q,by simp [hlt]⟩,Pv (i + 1),fun ys' H' p'=>⟨xs.length - (i + 1),by omega,rfl,hlt,p'⟩,fun x H' y=>?_⟩
    obtain ⟨e,y⟩:=y
    subst e
    exact hs i x ys _ (y xs q) p
  · have e:i=xs.length:=by omega
    subst e
    exact .inl ⟨⟨xs,q,Nat.le_refl _⟩,hd ys H p⟩
theorem comp_tup (Pv:Nat→List V→Hp→Prop) (h0:Pv 0 [] H) (hl:∀ i ys H,i≤xs.length→Pv i ys H→SqT K H a xs∧ys.length < sizeLine)
    (hs:∀ i x ys H,xs[i]?=some x→Pv i ys H→g x (List.replicate n none++σ) H fun σ2 H2=>σ2.drop n=σ∧tc σ2 H2 fun b H3=>if b=true then te σ2 H3 fun y H4=>Pv (i + 1) (ys++[y]) H4 else Pv (i + 1) ys H3)
    (hd:∀ ys H,Pv xs.length ys H→∀ p,H p=none→Q (.ref p) (upd H p (.lst ys))) :
    ∃ W:Nat→Nat→List V→Hp→Prop,(∃ m,W 0 m [] H)∧∀ i m ys H,W i m ys H→ys.length < sizeLine∧(((Itt K a).stop i H∧∀ p,H p=none→Q (.ref p) (upd H p (.lst ys))) ∨
      ((Itt K a).go i H∧∃ N:List V→Hp→Prop,(∀ ys' H',N ys' H'→∃ m',m' < m∧W (i + 1) m' ys' H')∧∀ x H',(Itt K a).yld i H x H'→g x (List.replicate n none++σ) H' fun σ2 H2=>σ2.drop n=σ∧tc σ2 H2 fun b H3 =>
        if b=true then te σ2 H3 fun y H4=>N (ys++[y]) H4 else N ys H3)):=by
  refine ⟨fun i m ys H=>m=xs.length - i∧i≤xs.length∧Pv i ys H,⟨xs.length,by simp,Nat.zero_le _,h0⟩,?_⟩
  rintro i m ys H ⟨rfl,hi,p⟩
  obtain ⟨q,z⟩:=hl i ys H hi p
  refine ⟨z,?_⟩
  by_cases hlt:i < xs.length
  · refine .inr ⟨⟨xs,xs[i],q,by simp [hlt]⟩,Pv (i + 1),fun ys' H' p'=>⟨xs.length - (i + 1),by omega,rfl,hlt,p'⟩,fun x H' y=>?_⟩
    obtain ⟨e,y⟩:=y
    subst e
    exact hs i x ys _ (y xs q) p
  · have e:i=xs.length:=by omega
    subst e
    exact .inl ⟨⟨xs,q,Nat.le_refl _⟩,hd ys H p⟩
end
end L2
namespace PySem
section
variable {prog:Program} {w:World} {A:Around} {E:Value→Shared→Prop} {s:Shared}
def dlPair {prog:Program} {w:World} {K:Type} [DecidableEq K] (knd:KeyKind prog w K) (h:Heap) (p:K×Value) (x:Value):Prop:=
  ∃ (a:Addr) (kv:Value) (o:Obj) (n:Nat),x=.ref a∧h.get? a=some o∧o.cls=.type "tuple"∧o.data=.seq #[kv,p.2] n∧knd.is p.1 kv=true
variable {K:Type} [DecidableEq K] {knd:KeyKind prog w K}
end
end PySem
namespace L2
open PySem PySem.Spec PyProof.Rows
section
variable {X:Cx}
def CDivB (_ j:Int):Prop:=0 < j∧j < 2 ^ 64
def CDivM (_ j:Int):Prop:=j≠0∧j.natAbs < 2 ^ 64
theorem call_isinst:CallR X (.builtin "isinstance") (fun xs H Q=>∃ x n t b,xs=[x,.ty n]∧TyOf X.K H x t∧PySem.W.kitOne X.K t (.type n)=some b∧Q (.bl b) H):=by
  intro pins s σ H xs us Q I r h
  obtain ⟨x,n,t,b,rfl,ty,e,q⟩:=h
  obtain ⟨u,w',rfl,rx,rt⟩:=vals2 r
  cases (show w'=Value.type n from rt)
  exact isinst_ok I rx ty e fun tk=>⟨.bl b,H,I.tok _,rfl,q⟩
def PairsIn (H:Hp):List (Key×V)→List V→Prop:=Paired fun (p:Key×V) x=>∃ a,x=V.ref a∧H a=some (.tup [kV p.1,p.2])
end
end L2
namespace Att
open PySem PySem.W PySem.Calls PyProof.Rows
theorem weight_mem:∀ (xs:List WData) (x:WData),x∈xs→WData.weight x≤WData.weightAll xs
  | [],_,h=>by cases h
  | y :: r,x,h=>by
    unfold WData.weightAll
    rcases List.mem_cons.mp h with e | e
    · subst e
      omega
    · have:=weight_mem r x e
      omega
theorem bits_of_lay {ns:List Int} (h:WData.layableAll [WData.list (ns.map WData.int)]=true):∀ n∈ns,Builtin.Int.intBits n≤1048576:=fun n hn=>by
  have h1:(WData.list (ns.map WData.int)).layable=true:=(layW_cons h).1
  unfold WData.layable at h1
  have h2:WData.weight (WData.list (ns.map WData.int))≤2 ^ 20:=of_decide_eq_true (Bool.and_eq_true_iff.mp h1).2
  have h3:=weight_mem (ns.map WData.int) (WData.int n) (List.mem_map.mpr ⟨n,hn,rfl⟩)
  have h4:WData.weight (WData.list (ns.map WData.int))=WData.weightAll (ns.map WData.int):=by
    rw [WData.weight]
  have h5:WData.weight (WData.int n)=Builtin.Int.intBits n:=by
    rw [WData.weight]
    rfl
  have e:(2:Nat) ^ 20=1048576:=by decide
  omega
end Att
namespace L2
open PySem PySem.Spec PyProof.Rows
end L2
namespace PySem
open SeqAt MeetsSeq MeetsSeq2 MeetsSeq3 SeqRoads2
open AutoSeq1 (wpAny_loadPart')
def EqIn (prog:Program) (w:World) (A:Around) (s:Shared) (y x:Value):Prop:=
  ∀ (E:Value→Shared→Prop) (Q:Bool→Shared→Prop),Q true s→wpAny (model prog w) A (eqBool y x) Q E s
def RcIn (prog:Program) (w:World) (A:Around) (s:Shared) (y x:Value):Prop:=
  ∀ (E:Value→Shared→Prop) (Q:Value→Shared→Prop),Q (.bool true) s→wpAny (model prog w) A (richCompare .Eq y x) Q E s
section
variable {prog:Program} {w:World} {A:Around} {s:Shared}
theorem EqIn.of_at {y x:Value} (h:EqAt A s y x true):EqIn prog w A s y x:=fun E Q q=>h prog w E Q q
theorem EqIn.self (v:Value):EqIn prog w A s v v:=EqIn.of_at (EqAt.same v)
theorem EqIn.refs {l b:Addr} (h:RcIn prog w A s (.ref l) (.ref b)):EqIn prog w A s (.ref l) (.ref b):=by
  by_cases e:l=b
  · rw [e]
    exact EqIn.self _
  · intro E Q q
    unfold eqBool
    refine wpAny_holding (wpAny_ite_split (fun z=>?_) (fun _=>?_))
    · exact absurd (by have z':=eq_of_beq z; injection z') e
    · exact wpAny_bind (h E _ (wpAny_truthy_bool q))
theorem el_loop (l b:Addr) (xs ys:Array Value) (n m:Nat) (dd de:Option Addr) (sl sm:Array (Option Value)) (hsz:xs.size=ys.size):∀ k i:Nat,xs.size - i=k →
    MeetsIn prog w (Builtin.«list.__eq__.loop» ⟨[.ref l,.ref b,rawInt i,rawInt 2],[]⟩) (fun A R s =>
      s.heap.get? l=some {cls:=.type "list",dict:=dd,data:=.seq xs n,slots:=sl}∧s.heap.get? b=some {cls:=.type "list",dict:=de,data:=.seq ys m,slots:=sm} ∧
      (∀ j (h1:j < xs.size) (h2:j < ys.size),EqIn prog w A.in1 s xs[j] ys[j])∧R (.ok (.ret (.bool true))) s):=by
  intro k
  induction k with
  | zero =>
    intro i hk A R s q
    obtain ⟨hp,g,d,tk,os⟩:=s
    obtain ⟨q1,q2,q3,q4⟩:=q
    have a1:xs[((i:Nat):Int).toNat]?=none:=by simp; omega
    have a2:ys[((i:Nat):Int).toNat]?=none:=by simp; omega
    wp_walk using wpAny_loadPart' q1,wpAny_loadPart' q2
    rw [a1,a2]
    wp_walk using wpAny_loadPart' q1,wpAny_loadPart' q2
    show R (.ok (.ret (.bool (xs.size == ys.size)))) _
    rw [hsz,beq_self_eq_true]
    exact q4
  | succ k ih =>
    intro i hk A R s q
    obtain ⟨hp,g,d,tk,os⟩:=s
    obtain ⟨q1,q2,q3,q4⟩:=q
    have l1:i < xs.size:=by omega
    have l2:i < ys.size:=by omega
    have a1:xs[((i:Nat):Int).toNat]?=some xs[i]:=by simp [l1]
    have a2:ys[((i:Nat):Int).toNat]?=some ys[i]:=by simp [l2]
    have e1:((i:Int) + 1)=((i + 1:Nat):Int):=by push_cast; rfl
    wp_walk using wpAny_loadPart' q1,wpAny_loadPart' q2
    rw [a1,a2]
    refine wpAny_bind (q3 i l1 l2 _ _ ?_)
    wp_walk
    rw [e1]
    refine ⟨plainId_quiet plain_eq_loop _,codeAny_builtin entry_eq_loop ?_⟩
    rw [Around.under_plainId plain_eq_loop _]
    exact ih (i + 1) (by omega) A R _ ⟨q1,q2,q3,q4⟩
theorem el_list (l b:Addr) (xs ys:Array Value) (n m:Nat) (dd de:Option Addr) (sl sm:Array (Option Value)) (hsz:xs.size=ys.size) :
    MeetsIn prog w (Builtin.«list.__eq__» ⟨[.ref l,.ref b],[]⟩) (fun A R s =>
      s.heap.get? l=some {cls:=.type "list",dict:=dd,data:=.seq xs n,slots:=sl}∧s.heap.get? b=some {cls:=.type "list",dict:=de,data:=.seq ys m,slots:=sm} ∧
      (∀ j (h1:j < xs.size) (h2:j < ys.size),EqIn prog w A.in1 s xs[j] ys[j])∧R (.ok (.ret (.bool true))) s):=by
  intro A R s q
  obtain ⟨hp,g,d,tk,os⟩:=s
  obtain ⟨q1,q2,q3,q4⟩:=q
  have f1:=AutoSeq1.sub_list_list
  have f2:¬ (xs.size != ys.size)=true:=by simp [hsz]
  wp_walk using wpAny_loadPart' q1,wpAny_loadPart' q2
  refine ⟨plainId_quiet plain_eq_loop _,codeAny_builtin entry_eq_loop ?_⟩
  rw [Around.under_plainId plain_eq_loop _]
  exact el_loop l b xs ys n m dd de sl sm hsz _ 0 rfl A R _ ⟨q1,q2,q3,q4⟩
theorem RcIn.lists {l b:Addr} {xs ys:Array Value} (hl:s.heap.IsList l xs) (hb:s.heap.IsList b ys) (hsz:xs.size=ys.size) (hu:A.units < cLine)
    (he:∀ j (h1:j < xs.size) (h2:j < ys.size),EqIn prog w A.in1 s xs[j] ys[j]):RcIn prog w A s (.ref l) (.ref b):=fun E Q q=>by
  obtain ⟨⟨c1,dd,t1,sl⟩,o1,rfl,n,rfl⟩:=id hl
  obtain ⟨⟨c2,de,t2,sm⟩,o2,rfl,m,rfl⟩:=id hb
  refine wpAny_richCompare_same_room (op:=.Eq) ⟨_,o1,rfl⟩ ⟨_,o2,rfl⟩ F.slot_list_eq (call_meetsIn F.slot_list_eq ⟨_,o1,rfl⟩ F.entry_list_eq (F.args_list_eq_2 _ _) (el_list l b xs ys n m dd de sl sm hsz) ⟨o1,o2,he,?_⟩) hu
  exact ⟨fun z=>(nomatch z),q⟩
variable {K:Type} [DecidableEq K] {knd:KeyKind prog w K}
theorem pairs_at {es:List DictEntry} {kvs:List (K×Value)} (h:Pairs knd es kvs):∀ {i:Nat} {e:DictEntry},es[i]?=some e→∃ kv,kvs[i]?=some kv∧knd.is kv.1 e.key=true∧e.val=kv.2:=by
  induction h with
  | nil =>
    intro i e q
    simp at q
  | cons a b _ ih =>
    intro i e q
    cases i with
    | zero =>
      simp at q
      subst q
      exact ⟨_,rfl,a,b⟩
    | succ i =>
      obtain ⟨kv,z⟩:=ih (i:=i) (by simpa using q)
      exact ⟨kv,by simpa using z.1,z.2⟩
theorem ed_pairs {nm:String} {d b:Addr} {kvs kws:List (K×Value)} {Q:Bool→Shared→Prop} {E:Value→Shared→Prop} (hd:(d == sysModules)=false) (hb:(b == sysModules)=false) (m1:s.heap.DictOf knd d kvs) (m2:s.heap.DictOf knd b kws)
    (hl:kvs.length=kws.length) (he:∀ kv∈kvs,∃ v',valueAt kws kv.1=some v'∧EqIn prog w A s kv.2 v') (q:Q true s):wpAny (model prog w) A (Builtin.Dict.samePairs nm d b) Q E s:=by
  obtain ⟨o1,es,ep,h1,x1,t1,k1,p1,n1⟩:=id m1
  obtain ⟨o2,fs,fp,h2,x2,t2,k2,p2,n2⟩:=id m2
  have z1:es.size=kvs.length:=by rw [← p1.length,Array.length_toList]
  have z2:fs.size=kws.length:=by rw [← p2.length,Array.length_toList]
  unfold Builtin.Dict.samePairs
  unfold Builtin.Dict.showsAll
  rw [if_neg (by rw [hd]; exact Bool.false_ne_true),if_neg (by rw [hb]; exact Bool.false_ne_true)]
  refine wpAny_bind (wpAny_pure (wpAny_bind (wpAny_pure ?_)))
  refine wpAny_bind (wpAny_dictEntries h1 t1 (wpAny_bind (wpAny_dictEntries h2 t2 ?_)))
  rw [if_neg (by rw [z1,z2,hl]; simp)]
  refine wpAny_bind (wpAny_dictEpoch h1 t1 (wpAny_bind ?_))
  rw [Std.Legacy.Range.forIn_eq_forIn_range']
  simp only [Std.Legacy.Range.size,Nat.sub_zero,Nat.add_sub_cancel,Nat.div_one]
  refine wpAny_forIn_list _ (fun rest r s'=>s'=s∧r.1=none∧∃ i,rest=List.range' i (es.size - i)∧i≤es.size) _ ?_ ?_ _ _ ⟨rfl,rfl,0,by simp,Nat.zero_le _⟩
  · rintro x rest ⟨r1,r2⟩ s' ⟨rfl,e1,i,hr,hi⟩
    have lt:i < es.size:=by
      rcases Nat.lt_or_ge i es.size with z | z
      · exact z
      · rw [Nat.sub_eq_zero_of_le z] at hr
        simp at hr
    obtain ⟨rfl,hrest⟩:x=i∧rest=List.range' (i + 1) (es.size - (i + 1)):=by
      rw [show es.size - i=(es.size - (i + 1)) + 1 by omega,List.range'_succ] at hr
      injection hr with a1 a2
      exact ⟨a1,a2⟩
    obtain ⟨kv,y1,y2,y3⟩:=pairs_at p1 (i:=x) (e:=es[x]) (by simp [lt])
    obtain ⟨kk,y4,y5⟩:=k1 es[x] (Array.getElem_mem lt)
    have y6:kk=kv.1:=knd.inj _ _ _ y4 y2
    subst y6
    obtain ⟨v',g1,g2⟩:=he kv (List.mem_of_getElem? y1)
    obtain ⟨o3,fs',fp',a1,_,a2,a3,hf⟩:=m2.mapOf
    rw [h2] at a1
    cases a1
    rw [t2] at a2
    cases a2
    rw [← hf kv.1,findBy_of_findIdx?] at g1
    refine wpAny_bind (wpAny_dictEntries h1 t1 ?_)
    rw [Array.getElem?_eq_getElem lt]
    dsimp only
    refine wpAny_bind (wpAny_holding (wpAny_bind ?_))
    rw [y5]
    refine wpAny_dictFind_of y2 h2 t2 k2 ?_
    cases hj:fs.findIdx? fun e=>knd.is kv.1 e.key with
    | none =>
      rw [hj] at g1
      cases g1
    | some j =>
      rw [hj] at g1
      dsimp only at g1 ⊢
      refine wpAny_bind (wpAny_dictEntries h2 t2 ?_)
      cases hx:fs[j]? with
      | none =>
        simp [hx] at g1
      | some fe =>
        have g3:fe.val=v':=by simpa [hx] using g1
        dsimp only
        refine wpAny_holding ?_
        rw [y3,g3]
        refine g2 _ _ ?_
        rw [if_neg (by decide)]
        refine wpAny_bind (wpAny_dictEpoch h1 t1 ?_)
        rw [if_neg (by simp)]
        exact wpAny_pure ⟨rfl,rfl,x + 1,hrest,lt⟩
  · rintro ⟨r1,r2⟩ s' ⟨rfl,e1,_⟩
    have e1:r1=none:=e1
    subst e1
    exact wpAny_pure q
theorem meets_deq (d b:Addr) (hd:(d == sysModules)=false) (hb:(b == sysModules)=false) :
    MeetsIn prog w (Builtin.«dict.__eq__» ⟨[.ref d,.ref b],[]⟩) (fun A R s=>∃ kvs kws,s.heap.DictOf knd d kvs∧s.heap.DictOf knd b kws∧kvs.length=kws.length ∧
      (∀ kv∈kvs,∃ v',valueAt kws kv.1=some v'∧EqIn prog w A.in1 s kv.2 v')∧R (.ok (.ret (.bool true))) s):=
  .of_wp fun A R s h=>by
    obtain ⟨kvs,kws,m1,m2,hl,he,q⟩:=h
    unfold Builtin.«dict.__eq__»
    show wpAny _ _ (Builtin.Dict.dictSlotArgs "__eq__" ⟨[.ref d,.ref b],[]⟩ >>= _) _ _ s
    refine wpAny_bind ?_
    unfold Builtin.Dict.dictSlotArgs
    unfold Builtin.Dict.notOrdered
    rw [if_neg (by decide)]
    refine wpAny_bind (wpAny_pure ?_)
    show wpAny _ _ (pure (Value.ref d,Value.ref b)) _ _ s
    refine wpAny_pure ?_
    dsimp only
    refine wpAny_bind (wpAny_isInstance m2.typeIs isSubtype_dict_dict ?_)
    rw [if_neg (by decide)]
    refine wpAny_bind (wpAny_pure (wpAny_bind (wpAny_pure (wpAny_bind (ed_pairs hd hb m1 m2 hl he ?_)))))
    exact wpAny_pure ⟨_,rfl,q⟩
theorem RcIn.dicts {d b:Addr} {kvs kws:List (K×Value)} (hd:(d == sysModules)=false) (hb:(b == sysModules)=false) (m1:s.heap.DictOf knd d kvs) (m2:s.heap.DictOf knd b kws) (hl:kvs.length=kws.length) (hu:A.units < cLine)
    (he:∀ kv∈kvs,∃ v',valueAt kws kv.1=some v'∧EqIn prog w A.in1 s kv.2 v'):RcIn prog w A s (.ref d) (.ref b):=fun E Q q =>
  wpAny_richCompare_same_room (op:=.Eq) m1.typeIs m2.typeIs F.slot_dict_eq (call_meetsIn F.slot_dict_eq m1.typeIs F.entry_dict_eq (F.args_dict_eq_2 _ _) (meets_deq (knd:=knd) d b hd hb) ⟨kvs,kws,m1,m2,hl,he,⟨fun z=>(nomatch z),q⟩⟩) hu
end
end PySem
namespace L2
open PySem PySem.Spec PyProof.Rows PySem.SeqAt
def sc0:V→Prop
  | .int _=>True
  | .str _=>True
  | .bl _=>True
  | .non=>True
  | _=>False
def TEq (H:Hp):Nat→V→V→Prop
  | 0,x,y=>sc0 x∧x=y
  | n + 1,x,y=>(sc0 x∧x=y)∨(∃ p q xs ys,x=.ref p∧y=.ref q∧H p=some (.lst xs)∧H q=some (.lst ys)∧Paired (TEq H n) xs ys) ∨
      ∃ p q xs ys,x=.ref p∧y=.ref q∧H p=some (.tup xs)∧H q=some (.tup ys)∧Paired (TEq H n) xs ys
def DEq (H:Hp):Nat→V→V→Prop
  | 0,x,y=>∃ n,n≤20∧TEq H n x y
  | n + 1,x,y=>(∃ n,n≤20∧TEq H n x y)∨(∃ p q xs ys,x=.ref p∧y=.ref q∧H p=some (.lst xs)∧H q=some (.lst ys)∧Paired (DEq H n) xs ys) ∨
      ∃ p q kvs kws,x=.ref p∧y=.ref q∧H p=some (.dK kvs)∧H q=some (.dK kws)∧Paired (fun (a b:Key×V)=>a.1=b.1∧DEq H n a.2 b.2) kvs kws
section
variable {P:Program} {w:World} {H:Hp} {s:Shared}
theorem pair_vals {R:V→V→Prop}:∀ {xs ys:List V} {us vs:List Value},Paired R xs ys→Vals xs us→Vals ys vs→us.length=vs.length∧∀ j (h1:j < us.length) (h2:j < vs.length),∃ x y,R x y∧RelV x us[j]∧RelV y vs[j]:=by
  intro xs ys us vs p
  induction p generalizing us vs with
  | nil =>
    intro a b
    cases a
    cases b
    exact ⟨rfl,fun j h1=>absurd h1 (Nat.not_lt_zero _)⟩
  | cons r rs ih =>
    intro a b
    cases a with
    | cons a as =>
    cases b with
    | cons b bs =>
    obtain ⟨e,z⟩:=ih as bs
    refine ⟨by rw [List.length_cons,List.length_cons,e],fun j h1 h2=>?_⟩
    cases j with
    | zero=>exact ⟨_,_,r,a,b⟩
    | succ j=>exact z j (Nat.lt_of_succ_lt_succ h1) (Nat.lt_of_succ_lt_succ h2)
theorem sc_eqAt {A:Around} {x:V} {u v:Value} (h:sc0 x) (ru:RelV x u) (rv:RelV x v):EqAt A s u v true:=by
  cases x with
  | non=>cases ru; cases rv; exact EqAt.same _
  | bl b=>cases ru; cases rv; exact EqAt.same _
  | int i =>
    obtain ⟨t,rfl⟩:=ru
    obtain ⟨t',rfl⟩:=rv
    have z:=EqAt.int_int (A:=A) (s:=s) i t i t'
    rw [beq_self_eq_true] at z
    exact z
  | str i =>
    obtain ⟨t,rfl⟩:=ru
    obtain ⟨t',rfl⟩:=rv
    have z:=EqAt.str_str (A:=A) (s:=s) i t i t'
    rw [beq_self_eq_true] at z
    exact z
  | byt b=>exact h.elim
  | flt b=>exact h.elim
  | ref a=>exact h.elim
  | ty a=>exact h.elim
theorem isList_of (ok:HOk P w H s.heap) {p:Addr} {xs:List V} (h:H p=some (.lst xs)):∃ us:List Value,Vals xs us∧s.heap.IsList p us.toArray:=by
  obtain ⟨_,us,n,r,e⟩:=(show ObjOk P w H s.heap p (.lst xs) from ok p _ h)
  exact ⟨us,r,_,e,rfl,n,rfl⟩
theorem isTup_of (ok:HOk P w H s.heap) {p:Addr} {xs:List V} (h:H p=some (.tup xs)):∃ us:List Value,Vals xs us∧s.heap.IsTuple p us.toArray:=by
  obtain ⟨_,us,r,o,e,c,n,d⟩:=(show ObjOk P w H s.heap p (.tup xs) from ok p _ h)
  exact ⟨us,r,o,e,c,n,d⟩
theorem all_true (n:Nat):((List.range n).all fun _=>true)=true:=by simp
theorem rc_lists (ok:HOk P w H s.heap) {R:V→V→Prop} {A:Around} {p q:Addr} {xs ys:List V} (hu:A.units < cLine) (h1:H p=some (.lst xs)) (h2:H q=some (.lst ys)) (r:Paired R xs ys)
    (he:∀ x y u v,R x y→RelV x u→RelV y v→EqAt A.in1 s u v true):RcAt A s (.ref p) (.ref q) true:=by
  obtain ⟨us,r1,i1⟩:=isList_of ok h1
  obtain ⟨vs,r2,i2⟩:=isList_of ok h2
  obtain ⟨e,z⟩:=pair_vals r r1 r2
  have k:=RcAt.lists (e:=fun _=>true) i1 i2 (by simpa using e) hu (fun j a b=>by
    obtain ⟨x,y,rr,rx,ry⟩:=z j (by simpa using a) (by simpa using b)
    simpa using he _ _ _ _ rr rx ry)
  rw [all_true] at k
  exact k
theorem rc_tups (ok:HOk P w H s.heap) {R:V→V→Prop} {A:Around} {p q:Addr} {xs ys:List V} (hu:A.units < cLine) (h1:H p=some (.tup xs)) (h2:H q=some (.tup ys)) (r:Paired R xs ys)
    (he:∀ x y u v,R x y→RelV x u→RelV y v→EqAt A.in1 s u v true):RcAt A s (.ref p) (.ref q) true:=by
  obtain ⟨us,r1,i1⟩:=isTup_of ok h1
  obtain ⟨vs,r2,i2⟩:=isTup_of ok h2
  obtain ⟨e,z⟩:=pair_vals r r1 r2
  have k:=RcAt.tuples (e:=fun _=>true) i1 i2 hu (fun j a b=>by
    obtain ⟨x,y,rr,rx,ry⟩:=z j (by simpa using a) (by simpa using b)
    simpa using he _ _ _ _ rr rx ry)
  rw [all_true,Bool.true_and,List.size_toArray,List.size_toArray,e,beq_self_eq_true] at k
  exact k
theorem EqAt.of_rc {A:Around} {l b:Addr} (h:RcAt A s (.ref l) (.ref b) true):EqAt A s (.ref l) (.ref b) true:=by
  by_cases e:l=b
  · rw [e]
    exact EqAt.same _
  · exact EqAt.of_refs e h
theorem teq_at (ok:HOk P w H s.heap):∀ {n:Nat} {A:Around} {x y:V} {u v:Value},A.units + n < cLine→TEq H n x y→RelV x u→RelV y v→EqAt A s u v true
  | 0,A,x,y,u,v,hu,h,ru,rv=>by
    obtain ⟨h1,rfl⟩:=h
    exact sc_eqAt h1 ru rv
  | n + 1,A,x,y,u,v,hu,h,ru,rv=>by
    have hin:A.in1.units + n < cLine:=by
      show A.units + 1 + n < cLine
      omega
    rcases h with ⟨h1,rfl⟩ | ⟨p,q,xs,ys,rfl,rfl,h1,h2,r⟩ | ⟨p,q,xs,ys,rfl,rfl,h1,h2,r⟩
    · exact sc_eqAt h1 ru rv
    · cases ru
      cases rv
      exact EqAt.of_rc (rc_lists ok (by omega) h1 h2 r fun _ _ _ _ z a b=>teq_at ok hin z a b)
    · cases ru
      cases rv
      exact EqAt.of_rc (rc_tups ok (by omega) h1 h2 r fun _ _ _ _ z a b=>teq_at ok hin z a b)
theorem rcIn_lists (ok:HOk P w H s.heap) {R:V→V→Prop} {A:Around} {p q:Addr} {xs ys:List V} (hu:A.units < cLine) (h1:H p=some (.lst xs)) (h2:H q=some (.lst ys)) (r:Paired R xs ys)
    (he:∀ x y u v,R x y→RelV x u→RelV y v→EqIn P w A.in1 s u v):RcIn P w A s (.ref p) (.ref q):=by
  obtain ⟨us,r1,i1⟩:=isList_of ok h1
  obtain ⟨vs,r2,i2⟩:=isList_of ok h2
  obtain ⟨e,z⟩:=pair_vals r r1 r2
  exact RcIn.lists i1 i2 (by simpa using e) hu (fun j a b=>by
    obtain ⟨x,y,rr,rx,ry⟩:=z j (by simpa using a) (by simpa using b)
    simpa using he _ _ _ _ rr rx ry)
theorem pair_kv {κ:Type} {R:κ×V→κ×V→Prop}:∀ {kvs kws:List (κ×V)} {us vs:List (κ×Value)},Paired R kvs kws→KV kvs us→KV kws vs→us.length=vs.length∧∀ (i:Nat) (q:κ×Value),us[i]?=some q→∃ q' a b,vs[i]?=some q'∧R a b∧a.1=q.1∧b.1=q'.1∧RelV a.2 q.2∧RelV b.2 q'.2:=by
  intro kvs kws us vs p
  induction p generalizing us vs with
  | nil =>
    intro a b
    cases a
    cases b
    exact ⟨rfl,fun i q h=>by simp at h⟩
  | cons r rs ih =>
    intro a b
    cases a with
    | cons a as =>
    cases b with
    | cons b bs =>
    obtain ⟨e,z⟩:=ih as bs
    refine ⟨by rw [List.length_cons,List.length_cons,e],fun i q h=>?_⟩
    cases i with
    | zero =>
      simp at h
      subst h
      exact ⟨_,_,_,rfl,r,a.1,b.1,a.2,b.2⟩
    | succ i =>
      obtain ⟨q',x,y,h1,h2⟩:=z i q (by simpa using h)
      exact ⟨q',x,y,by simpa using h1,h2⟩
theorem rcIn_dicts (ok:HOk P w H s.heap) {R:V→V→Prop} {A:Around} {p q:Addr} {kvs kws:List (Key×V)} (hu:A.units < cLine) (h1:H p=some (.dK kvs)) (h2:H q=some (.dK kws)) (r:Paired (fun (a b:Key×V)=>a.1=b.1∧R a.2 b.2) kvs kws)
    (he:∀ x y u v,R x y→RelV x u→RelV y v→EqIn P w A.in1 s u v):RcIn P w A s (.ref p) (.ref q):=by
  obtain ⟨_,n1,us,k1,m1⟩:=(show ObjOk P w H s.heap p (.dK kvs) from ok p _ h1)
  obtain ⟨_,n2,vs,k2,m2⟩:=(show ObjOk P w H s.heap q (.dK kws) from ok q _ h2)
  obtain ⟨e,z⟩:=pair_kv r k1 k2
  refine RcIn.dicts n1 n2 m1 m2 e hu fun kv hkv=>?_
  obtain ⟨i,hi⟩:=List.getElem?_of_mem hkv
  obtain ⟨q',a,b,g1,⟨g2,g3⟩,g4,g5,g6,g7⟩:=z i kv hi
  obtain ⟨_,_,_,_,_,_,_,_,nd⟩:=id m2
  have g8:vs[i]?=some (kv.1,q'.2):=by
    rw [g1,← g4,g2,g5]
  exact ⟨q'.2,valueAt_of_get nd g8,he _ _ _ _ g3 g6 g7⟩
theorem deq_in (ok:HOk P w H s.heap):∀ {n:Nat} {A:Around} {x y:V} {u v:Value},A.units + n + 20 < cLine→DEq H n x y→RelV x u→RelV y v→EqIn P w A s u v
  | 0,A,x,y,u,v,hu,h,ru,rv=>by
    obtain ⟨m,h0,h1⟩:=h
    exact EqIn.of_at (teq_at ok (by omega) h1 ru rv)
  | n + 1,A,x,y,u,v,hu,h,ru,rv=>by
    have hin:A.in1.units + n + 20 < cLine:=by
      show A.units + 1 + n + 20 < cLine
      omega
    rcases h with ⟨m,h0,h1⟩ | ⟨p,q,xs,ys,rfl,rfl,h1,h2,r⟩ | ⟨p,q,kvs,kws,rfl,rfl,h1,h2,r⟩
    · exact EqIn.of_at (teq_at ok (by omega) h1 ru rv)
    · cases ru
      cases rv
      exact EqIn.refs (rcIn_lists ok (by omega) h1 h2 r fun _ _ _ _ z a b=>deq_in ok hin z a b)
    · cases ru
      cases rv
      exact EqIn.refs (rcIn_dicts ok (by omega) h1 h2 r fun _ _ _ _ z a b=>deq_in ok hin z a b)
end
section
variable {X:Cx}
theorem op_eqD (hu:X.A.units + 50 < cLine):OpR X (compareOp .Eq) (fun x y H Q=>∃ n p q,n≤20∧x=.ref p∧y=.ref q∧DEq H n x y∧Q (.bl true) H):=by
  intro pins s σ H x y v u Q I rx ry h
  obtain ⟨n,p,q,hn,rfl,rfl,d,k⟩:=h
  cases rx
  cases ry
  have fin:EP X pins σ Q (.bool true) s:=⟨.bl true,H,I,rfl,k⟩
  have hu1:X.A.units < cLine:=by omega
  have main:RcIn X.prog X.w X.A s (.ref p) (.ref q):=by
    have hin:∀ m,m≤20→X.A.in1.units + m < cLine:=fun m hm=>by
      show X.A.units + 1 + m < cLine
      omega
    have tq:∀ m,m≤20→TEq H m (.ref p) (.ref q)→RcIn X.prog X.w X.A s (.ref p) (.ref q):=fun m hm t=>by
      cases m with
      | zero=>exact t.1.elim
      | succ m =>
        rcases t with ⟨h1,_⟩ | ⟨p',q',xs,ys,e1,e2,h1,h2,r⟩ | ⟨p',q',xs,ys,e1,e2,h1,h2,r⟩
        · exact h1.elim
        · cases e1
          cases e2
          intro E Q' k'
          exact rc_lists I.hok hu1 h1 h2 r (fun _ _ _ _ z a b=>teq_at I.hok (hin m (by omega)) z a b) X.prog X.w E Q' k'
        · cases e1
          cases e2
          intro E Q' k'
          exact rc_tups I.hok hu1 h1 h2 r (fun _ _ _ _ z a b=>teq_at I.hok (hin m (by omega)) z a b) X.prog X.w E Q' k'
    cases n with
    | zero =>
      obtain ⟨m,hm,t⟩:=d
      exact tq m hm t
    | succ n =>
      have hin2:X.A.in1.units + n + 20 < cLine:=by
        show X.A.units + 1 + n + 20 < cLine
        omega
      rcases d with ⟨m,hm,t⟩ | ⟨p',q',xs,ys,e1,e2,h1,h2,r⟩ | ⟨p',q',kvs,kws,e1,e2,h1,h2,r⟩
      · exact tq m hm t
      · cases e1
        cases e2
        exact rcIn_lists I.hok hu1 h1 h2 r fun _ _ _ _ z a b=>deq_in I.hok hin2 z a b
      · cases e1
        cases e2
        exact rcIn_dicts I.hok hu1 h1 h2 r fun _ _ _ _ z a b=>deq_in I.hok hin2 z a b
  exact main _ _ fin
theorem op_neT (hu:X.A.units + 50 < cLine):OpR X (compareOp .NotEq) (fun x y H Q=>∃ n p q,n≤20∧x=.ref p∧y=.ref q∧TEq H n x y∧Q (.bl false) H):=by
  intro pins s σ H x y v u Q I rx ry h
  obtain ⟨n,p,q,hn,rfl,rfl,d,k⟩:=h
  cases rx
  cases ry
  have fin:EP X pins σ Q (.bool false) s:=⟨.bl false,H,I,rfl,k⟩
  have hu1:X.A.units < cLine:=by omega
  cases n with
  | zero=>exact d.1.elim
  | succ m =>
    have hin:X.A.in1.units + m < cLine:=by
      show X.A.units + 1 + m < cLine
      omega
    rcases d with ⟨h1,_⟩ | ⟨p',q',xs,ys,e1,e2,h1,h2,r⟩ | ⟨p',q',xs,ys,e1,e2,h1,h2,r⟩
    · exact h1.elim
    · cases e1
      cases e2
      obtain ⟨us,r1,i1⟩:=isList_of I.hok h1
      obtain ⟨vs,r2,i2⟩:=isList_of I.hok h2
      obtain ⟨e,z⟩:=pair_vals r r1 r2
      have k:=RcNeAt.lists (A:=X.A) (e:=fun _=>true) i1 i2 (by simpa using e) hu1 (fun j a b=>by
        obtain ⟨x,y,rr,rx,ry⟩:=z j (by simpa using a) (by simpa using b)
        simpa using teq_at I.hok hin rr rx ry)
      rw [all_true] at k
      exact k X.prog X.w _ _ fin
    · cases e1
      cases e2
      obtain ⟨us,r1,i1⟩:=isTup_of I.hok h1
      obtain ⟨vs,r2,i2⟩:=isTup_of I.hok h2
      obtain ⟨e,z⟩:=pair_vals r r1 r2
      have k:=RcNeAt.tuples (A:=X.A) (e:=fun _=>true) i1 i2 hu1 (fun j a b=>by
        obtain ⟨x,y,rr,rx,ry⟩:=z j (by simpa using a) (by simpa using b)
        simpa using teq_at I.hok hin rr rx ry)
      rw [all_true,Bool.true_and,List.size_toArray,List.size_toArray,e,beq_self_eq_true] at k
      exact k X.prog X.w _ _ fin
def rDCopy:V→List V→Hp→VK→Prop:=fun x vs H Q=>∃ d kvs,x=.ref d∧vs=[]∧H d=some (.dK kvs)∧∀ p,H p=none→Q (.ref p) (upd H p (.dK kvs))
theorem hu50 {A:Around} {k:Nat} (hr:Room k A):A.units + 50 < cLine:=by
  have:=hr.un
  omega
end
end L2
namespace PySem
open SeqAt MeetsSeq MeetsSeq2 MeetsSeq3 SeqRoads2
section
variable {prog:Program} {w:World} {A:Around} {s:Shared}
variable {K:Type} [DecidableEq K] {knd:KeyKind prog w K}
end
end PySem
namespace L2
open PySem PySem.Spec PyProof.Rows PySem.SeqAt
section
variable {X:Cx}
end
end L2
namespace L2
open PySem PySem.Spec PyProof.Rows
section
variable {X:Cx}
theorem strs_are:∀ {ys:List Str} {us:List Value},Vals (ys.map V.str) us→StrsAre us ys
  | [],_,.nil=>.nil
  | _ :: _,_,.cons ⟨t,e⟩ r=>e ▸ .cons _ t (strs_are r)
def jsz (z:Str) (ys:List Str):Nat:=(ys.map fun x=>x.length).sum + ys.length * z.length
def rJoin (K:PySem.W.Frag):V→List V→Hp→VK→Prop:=fun x vs H Q=>∃ z l ys,x=.str z∧vs=[.ref l]∧(SqL K H l (ys.map V.str)∨SqT K H l (ys.map V.str))∧jsz z ys≤16777216∧Q (.str (Txt.join z ys)) H
theorem mt_join:MtR X "str.join" (rJoin X.K):=by
  intro pins s σ H x vs v us Q I rx rv h
  obtain ⟨z,l,ys,rfl,rfl,hl,hz,q⟩:=h
  obtain ⟨t,rfl⟩:=rx
  obtain ⟨u,rfl,ru⟩:=rv.one
  cases ru
  rcases hl with hl | hl
  · obtain ⟨its,r,pl,_⟩:=I.list hl
    exact join_list pl.isList (by simpa using strs_are r) hz fun t' k=>⟨.str _,H,I.tok _,⟨_,rfl⟩,q⟩
  · obtain ⟨its,r,pl,_⟩:=I.tuple hl
    exact join_tuple pl (by simpa using strs_are r) hz fun t' k=>⟨.str _,H,I.tok _,⟨_,rfl⟩,q⟩
abbrev TJ:=St→Hp→Str→(Str→Hp→Prop)→Prop
def PJ (X:Cx) (es:List Expr) (t:TJ):Prop:=∀ (pins:List (Addr×Obj)) (s:Shared) (σ:St) (H:Hp) (acc:Str) (Q:Str→Hp→Prop),Inv X pins σ H s→t σ H acc Q→∀ R:Str→Shared→Prop,(∀ out s1 H1,Inv X pins σ H1 s1→Q out H1→R out s1) →
  Joins (model X.prog X.w) X.A X.xe (evalEach es X.env) acc R s
def jNil:TJ:=fun _ H acc Q=>Q acc H
def jStr (z:Str) (t:TJ):TJ:=fun σ H acc Q=>(acc++z).length≤sizeLine∧t σ H (acc++z) Q
def Shown:V→Str→Prop:=fun x y=>x=.str y∨∃ i:Int,x=.int i∧i.natAbs.log2 < 1920∧y=toString i
def jVal (te:TE) (t:TJ):TJ:=fun σ H acc Q=>te σ H fun x H1=>∃ y,Shown x y∧y.length≤sizeLine∧(acc++y).length≤sizeLine∧t σ H1 (acc++y) Q
def tJoin (t:TJ):TE:=fun σ H Q=>t σ H Str.empty fun out H1=>out.length≤sizeLine∧Q (.str out) H1
def datD (D:List (Str×Str)):List (Str×KTD.Dat):=D.map fun p=>(p.1,KTD.Dat.flat (.str p.2))
def Tab (K:PySem.W.Frag) (a:Addr) (D:List (Str×Str)):Prop:=KTD.tabLook (KTD.datLooks fun a=>K.lookup a) (fun a=>K.lookup a) a (datD D)=true
def rIxW (a:Addr) (D:List (Str×Str)):R2:=fun x y H Q=>∃ k m,x=.ref a∧y=.str k∧D.lookup k=some m∧Q (.str m) H
theorem op_neL (hu:X.A.units + 50 < cLine):OpR X (compareOp .NotEq) (fun x y H Q=>∃ p q xs,x=.ref p∧y=.ref q∧H p=some (.lst xs)∧H q=some (.lst [])∧Q (.bl (!xs.isEmpty)) H):=by
  intro pins s σ H x y v u Q I rx ry h
  obtain ⟨p,q,xs,rfl,rfl,h1,h2,k⟩:=h
  cases xs with
  | nil=>exact op_neT hu pins s σ H _ _ v u Q I rx ry ⟨1,p,q,by omega,rfl,rfl,.inr (.inl ⟨p,q,[],[],rfl,rfl,h1,h2,.nil⟩),k⟩
  | cons a xs =>
    cases rx
    cases ry
    obtain ⟨us,r1,i1⟩:=isList_of I.hok h1
    obtain ⟨vs,r2,i2⟩:=isList_of I.hok h2
    cases r2
    have hl:=r1.length
    exact SeqAt.RcNeAt.lists_lengths i1 i2 (by
      cases us with
      | nil=>cases hl
      | cons b us=>simp) (by omega) X.prog X.w _ _ ⟨.bl true,H,I,rfl,k⟩
end
end L2
namespace PySem
open Sem (wp)
def BareD (h:Heap) (d:Addr) (es:Array DictEntry) (ep:Nat):Prop:=∃ o,h.get? d=some o∧o.ExactDict∧o.data=.dict es ep
section
variable {prog:Program} {w:World} {A:Around} {E:Value→Shared→Prop} {s:Shared}
end
def CmpIn (prog:Program) (w:World) (A:Around) (op:CmpOp) (P:Nat→Value→Prop) (G:Heap→Prop) (bt:Nat→Nat→Bool):Prop:=
  ∀ i j vi vj (s:Shared) (Q:Value→Shared→Prop) (E:Value→Shared→Prop),P i vi→P j vj→G s.heap→Q (.bool (bt i j)) s→wpAny (model prog w) A (richCompare op vi vj) Q E s
section
variable {prog:Program} {w:World} {A:Around} {R:Result→Shared→Prop} {I:Addr} {fp wr:List Addr} {n:Nat} {P:Nat→Value→Prop} {St:Nat→Heap→Prop} {G:Heap→Prop}
end
section
variable {prog:Program} {w:World} {A:Around} {E:Value→Shared→Prop} {s:Shared}
end
section
variable {prog:Program} {w:World} {K:Type} [DecidableEq K] {knd:HeapKind prog w K} {A:Around} {E:Value→Shared→Prop} {s:Shared}
def lessH (xs:List (K×Addr×Value)) (k:K):List (K×Addr×Value):=xs.filter fun x=>!decide (x.1=k)
end
section
variable {prog:Program} {w:World} {A:Around} {E:Value→Shared→Prop} {s:Shared}
end
end PySem
namespace HT
open PySem PyProof.Rows
open PySem.SeqAt
open PySem.AutoSeq1 (wpAny_loadPart')
open PySem.MeetsSeq PySem.MeetsSeq2 PySem.MeetsSeq3
end HT
namespace L2
open PySem PySem.Spec PyProof.Rows
section
variable {X:Cx}
def Tups (H:Hp):List Addr→List (List Int)→Prop:=Paired fun a n=>H a=some (.tup (n.map V.int))
open Classical in
def rInsert:V→List V→Hp→VK→Prop:=fun x vs H Q=>∃ l xs i y,x=.ref l∧vs=[.int (i:Nat),y]∧H l=some (.lst xs)∧i≤xs.length∧xs.length < sizeLine∧Q .non (upd H l (.lst (xs.take i++y :: xs.drop i)))
def tRev (K:PySem.W.Frag) (te:TE) (ts:TO):TE:=fun σ H Q=>te σ H fun x H1=>ts σ H1 fun st H2=>st=some (-1)∧∃ a xs,x=.ref a∧SqL K H2 a xs∧∀ p,H2 p=none→Q (.ref p) (upd H2 p (.lst xs.reverse))
def IntKeys (kvs:List (List Key×V)):Prop:=∀ k∈kvs.map (·.1),∃ n:List Int,k=n.map Sum.inl
def Least (ks:List (List Key)) (n:List Int):Prop:=n.map Sum.inl∈ks∧∀ m:List Int,m.map Sum.inl∈ks→HT.lexLt m n=false
def tDPopT (td ty:TE):TE:=fun σ H Q=>td σ H fun x H1=>∃ a,x=.ref a∧IsD H1 a∧ty σ H1 fun y H2=>∃ kvs k b v,H2 a=some (.dT kvs)∧y=.ref b∧H2 b=some (.tup (k.map kV))∧valV kvs k=some v∧Q v (upd H2 a (.dT (dropK kvs k)))
end
end L2
namespace L2
open PySem PySem.Spec PyProof.Rows
structure CMeth (K:PySem.W.Frag) (C:Addr) (m:Str) (f:Addr):Prop where
  spec:PySem.W.specialIn K (.ref C) "__getattribute__"=some (some (.builtin "type.__getattribute__"))
  reads:PySem.W.readsIn K C (.type "type")=true
  found:PySem.W.findCls K (.ref C) (.type "type") m=some (.val (.ref f))
  kp:PySem.W.keepIn K (.ref f)=true
section
variable {X:Cx}
end
theorem comp_rng {n m:Nat} {g:TG} {tc:TT} {te:TE} {σ:St} {H:Hp} {Q:VK} (Pv:Nat→List V→Hp→Prop) (h0:Pv 0 [] H) (hl:∀ i ys H,i≤m→Pv i ys H→ys.length < sizeLine)
    (hs:∀ i ys H,i < m→Pv i ys H→g (.int (0 + i)) (List.replicate n none++σ) H fun σ2 H2=>σ2.drop n=σ∧tc σ2 H2 fun b H3=>if b=true then te σ2 H3 fun y H4=>Pv (i + 1) (ys++[y]) H4 else Pv (i + 1) ys H3)
    (hd:∀ ys H,Pv m ys H→∀ p,H p=none→Q (.ref p) (upd H p (.lst ys))) :
    ∃ W:Nat→Nat→List V→Hp→Prop,(∃ k,W 0 k [] H)∧∀ i k ys H,W i k ys H→ys.length < sizeLine∧(((Itr 0 m).stop i H∧∀ p,H p=none→Q (.ref p) (upd H p (.lst ys))) ∨
      ((Itr 0 m).go i H∧∃ N:List V→Hp→Prop,(∀ ys' H',N ys' H'→∃ k',k' < k∧W (i + 1) k' ys' H')∧∀ x H',(Itr 0 m).yld i H x H'→g x (List.replicate n none++σ) H' fun σ2 H2=>σ2.drop n=σ∧tc σ2 H2 fun b H3 =>
        if b=true then te σ2 H3 fun y H4=>N (ys++[y]) H4 else N ys H3)):=by
  refine ⟨fun i k ys H=>k=m - i∧i≤m∧Pv i ys H,⟨m,by simp,Nat.zero_le _,h0⟩,?_⟩
  rintro i k ys H ⟨rfl,hi,pv'⟩
  refine ⟨hl i ys H hi pv',?_⟩
  by_cases lt:i < m
  · refine .inr ⟨lt,Pv (i + 1),fun ys' H' p'=>⟨m - (i + 1),by omega,rfl,lt,p'⟩,fun x H' y=>?_⟩
    obtain ⟨e,y⟩:=y
    subst e y
    exact hs i ys _ lt pv'
  · have e:i=m:=by omega
    subst e
    exact .inl ⟨Nat.le_refl _,hd ys H pv'⟩
end L2
namespace L2
open PySem PySem.Spec PyProof.Rows
def HC (Γ:PySem.Ctx):Prop:=Γ.below.any (fun x=>x.1.isCaller)=true
theorem HC.enter {Γ:PySem.Ctx} (h:HC Γ) (c:Code) (v:Option Value) (p:Pos):HC (Γ.enter c v p):=by
  unfold HC PySem.Ctx.enter
  rw [List.any_cons,(show Γ.below.any (fun x=>x.1.isCaller)=true from h),Bool.or_true]
def wpC {α:Type} (M:Model) (A:Around) (t:Sem α) (Q:α→Shared→Prop) (E:Value→Shared→Prop) (s:Shared):Prop:=
  ∀ (Γ:PySem.Ctx) (p:Pos),HC Γ→Γ.In A→Sem.wp M Γ t (fun a _ z=>Q a z) (fun e _ z=>E e z) p s
def codeC (M:Model) (A:Around) (c:Code) (R:Result→Shared→Prop) (s:Shared):Prop:=
  ∀ (Γ:PySem.Ctx) (p:Pos),HC Γ→Γ.code=c→Γ.Below A→wpCode M Γ R p s
section
variable {α β:Type} {M:Model} {A:Around} {E E':Value→Shared→Prop} {s:Shared} {Q Q':α→Shared→Prop} {c:Code} {R R':Result→Shared→Prop}
theorem toC {t:Sem α} (h:wpAny M A t Q E s):wpC M A t Q E s:=fun Γ p _ i=>h Γ p i
theorem codeC_to (h:codeAny M A c R s):codeC M A c R s:=fun Γ p _ e i=>h Γ p e i
theorem monoC {t:Sem α} (h:wpC M A t Q E s) (hQ:∀ a z,Q a z→Q' a z) (hE:∀ e z,E e z→E' e z):wpC M A t Q' E' s:=
  fun Γ p k i=>Sem.wp_mono M Γ t (fun a _ z y=>hQ a z y) (fun e _ z y=>hE e z y) p s (h Γ p k i)
theorem thnC {t:Sem α} (h:wpC M A t Q E s) (hQ:∀ a z,Q a z→Q' a z):wpC M A t Q' E s:=monoC h hQ fun _ _ y=>y
theorem bindC' {m:Sem α} {f:α→Sem β} {P:β→Shared→Prop} (h:wpC M A m (fun a z=>wpC M A (f a) P E z) E s):wpC M A (m >>= f) P E s:=fun Γ p k i=>by
  rw [Sem.wp_bind']
  exact Sem.wp_mono M Γ m (fun a q z y=>y Γ q k i) (fun _ _ _ y=>y) p s (h Γ p k i)
theorem bindA {m:Sem α} {f:α→Sem β} {P:β→Shared→Prop} (h:wpAny M A m (fun a z=>wpC M A (f a) P E z) E s):wpC M A (m >>= f) P E s:=bindC' (toC h)
theorem onRaiseC {m:Sem α} {k:Value→Sem Unit} (h:wpC M A m Q (fun e z=>wpC M A (k e) (fun _ y=>E e y) E z) s):wpC M A (m.onRaise k) Q E s:=fun Γ p hk i=>by
  rw [Sem.wp_onRaise]
  exact Sem.wp_mono M Γ m (fun _ _ _ y=>y) (fun e q z y=>y Γ q hk i) p s (h Γ p hk i)
theorem attemptC {m:Sem α} {P:Except Value α→Shared→Prop} (h:wpC M A m (fun a=>P (.ok a)) (fun e=>P (.error e)) s):wpC M A m.attempt P E s:=fun Γ p k i=>by
  rw [Sem.wp_attempt]
  exact h Γ p k i
theorem holdingC {vs:List Value} {m:Sem α} (h:wpC M A m Q E s):wpC M A (holding vs m) Q E s:=fun Γ p k i=>by
  rw [Sem.wp_holding]
  exact h Γ p k i
theorem codeC_mono (h:codeC M A c R s) (hR:∀ r z,R r z→R' r z):codeC M A c R' s:=fun Γ p k e i=>wpCode_mono hR (h Γ p k e i)
theorem runC {h:Option Value} {P:Flow→Shared→Prop} (hc:codeC M (A.mark h) c (fun r z=>match r with | .ok f=>P f z | .error e=>E e z) s) (hb:h≠some byPass:=by intro x; cases x):wpC M A (run c h) P E s:=fun Γ p k i=>by
  rw [Sem.wp_run]
  exact hc _ p (k.enter c h p) rfl (i.enter c h p hb)
theorem runValueC {P:Value→Shared→Prop} (hc:codeC M A c (fun r z=>match r with | .ok (.ret v)=>P v z | .ok _=>False | .error e=>E e z) s):wpC M A (runValue c) P E s:=fun Γ p k i=>by
  rw [Sem.wp_runValue]
  exact hc _ p (k.enter c none p) rfl (i.enter c none p (by intro x; cases x))
theorem callC' {f:Value} {us:List Value} {P:Value→Shared→Prop} (hc:codeC M A (.call f ⟨us,[]⟩) (fun r z=>match r with | .ok (.ret v)=>P v z | .ok _=>False | .error e=>E e z) s):wpC M A (call f us) P E s:=runValueC hc
theorem runOwnC {env:Env} {h:Option Value} {P:Flow→Shared→Prop} (hc:codeC M (A.mark h) c (fun r z=>match r with | .ok f=>P f z | .error e=>cameBackBy M A env E e z) s) (hb:h≠some byPass:=by intro x; cases x):wpC M A (runOwn c env h) P E s:=by
  unfold runOwn
  refine onRaiseC (runC (codeC_mono hc fun r z y=>?_) hb)
  cases r with
  | ok f=>exact y
  | error e=>exact toC y
theorem treeC (h:wpC M (A.under c) (M.den c) (fun fin z=>match fin with | .done f=>R (.ok f) z | .again d=>d.quiet=true∧codeC M A d R z) (fun e z=>R (.error e) z) s):codeC M A c R s:=fun Γ p k e i=>by
  rw [wpCode_iff_wp,e]
  refine Sem.wp_mono M Γ _ (fun fin q z y=>?_) (fun _ _ _ y=>y) p s (h Γ p k (e ▸ i.in))
  cases fin with
  | done f=>exact y
  | again d=>exact ⟨y.1,y.2 (Γ.goto d) q k rfl (i.goto d)⟩
theorem loopC (hq:c.quiet=true) (I:Nat→Shared→Prop)
    (turn:∀ n z,I n z→wpC M (A.under c) (M.den c) (fun fin y=>match fin with | .done f=>R (.ok f) y | .again d=>(d=c∧∃ m,m < n∧I m y)∨(d.quiet=true∧codeC M A d R y)) (fun e y=>R (.error e) y) z)
    (n:Nat) (h:I n s):codeC M A c R s:=by
  induction n using Nat.strongRecOn generalizing s with
  | ind n ih =>
    refine treeC (thnC (turn n s h) fun fin z y=>?_)
    cases fin with
    | done f=>exact y
    | again d =>
      rcases y with ⟨rfl,m,hm,hI⟩ | y
      · exact ⟨hq,ih m hm hI⟩
      · exact y
theorem notedC {env:Env} {m:Sem α} (h:wpC M A m Q (notedBy M A env E) s):wpC M A (m.onRaise fun x=>do noteFrame x env; theTreesLotGoes x) Q E s:=
  onRaiseC (monoC h (fun _ _ y=>y) fun _ _ y=>toC (wpAny_bind (wpAny_mono y (fun _ _ e=>wpAny_theTreesLotGoes e) fun _ _ e=>e)))
end
section
variable {prog:Program} {w:World} {A:Around} {E:Value→Shared→Prop} {s:Shared} {R:Result→Shared→Prop} {env:Env}
theorem execsC {st:Stmt} {rest:List Stmt} {Q:Flow→Shared→Prop} {M:Model} (h:wpC M A (exec st env) (fun f z=>match f with | .next=>wpC M A (execs rest env) Q E z | f=>Q f z) E s):wpC M A (execs (st :: rest) env) Q E s:=by
  rw [execs_cons]
  refine bindC' (thnC h fun f z y=>?_)
  cases f <;> first | exact y | exact toC (wpAny_pure y)
theorem funcC {body:List Stmt} (h:wpC (model prog w) (A.deeper env) (execs body env) (fun f z=>R (.ok (.ret (match f with | .ret v=>v | _=>.none))) z)
      (fun e z=>wpAny (model prog w) (A.deeper env) (leaving env e) (fun _ y=>R (.error e) y) (fun e' y=>R (.error e') y) z) s):codeC (model prog w) A (.func body env) R s:=by
  refine treeC ?_
  show wpC _ (A.deeper env) (do point; match ← (execs body env).onRaise (leaving env) with | .ret v=>ret v | _=>ret .none) _ _ s
  refine bindA (wpAny_point (bindC' (onRaiseC (monoC h (fun f z y=>?_) fun _ _ y=>toC y))))
  cases f <;> exact toC (wpAny_pure y)
theorem callFnC {a:Addr} {args:Args} {o:Obj} {fd:FuncData} {body:List Stmt} (hr:A.depth < recursionLimit) (ho:s.heap.get? a=some o) (hd:o.data=.func fd) (hco:fd.scope.isCoroutine=false) (hg:fd.scope.isGenerator=false) (hbd:fd.body=.stmts body) (hcd:s.heap.CodeRec fd.code fd.qualname)
    (h:wpAny (model prog w) A.in1 (bindArgs fd args) (fun bs z=>wpAny (model prog w) A.in1 (newFunctionEnv fd.scope fd.globals fd.closure bs (fd.qualname++".<locals>.") (some a) fd.code none fd.builtins)
        (fun en y=>y.heap.NoLimit∧codeC (model prog w) A (.func body en) R y) (fun e y=>R (.error e) y) z) (fun e y=>R (.error e) y) s):codeC (model prog w) A (.call (.ref a) args) R s:=by
  refine treeC ?_
  show wpC _ A.in1 (callAny (.ref a) args) _ _ s
  simp only [callAny]
  obtain ⟨c,oc,vs,tq,hc,hoc,hdc,hq⟩:=hcd
  refine bindA (wpAny_load ho ?_)
  simp only [hd,callFunction,hco,hg,hbd,hc]
  rw [hc] at h
  refine bindA (m:=field (.ref c) 1) (wpAny_field hoc hdc hq (bindA (wpAny_pure ?_)))
  refine bindA (wpAny_mono h (fun bs z h1=>bindA (wpAny_mono h1 (fun en y h2=>?_) fun _ _ x=>x)) fun _ _ x=>x)
  exact bindA (wpAny_enterFrame h2.1 hr (toC (wpAny_pure (And.intro rfl h2.2))))
theorem forLoopC {target:Expr} {it:Value} {body orelse:List Stmt} (I:Nat→Shared→Prop)
    (turn:∀ n z,I n z→wpAny (model prog w) A (pyNext it) (fun r z1=>match r with
      | none=>wpAny (model prog w) A (execs orelse env) (fun f y=>R (.ok f) y) (notedBy (model prog w) A env fun e y=>R (.error e) y) z1
      | some v=>wpAny (model prog w) A (letOwnedTupleGo target it v) (fun _ z2=>wpAny (model prog w) A (assign target env v) (fun _ z3=>wpC (model prog w) A (execs body env) (fun f y=>match f with
            | .next | .cont=>∃ m,m < n∧I m y
            | .brk=>R (.ok .next) y
            | .ret v=>R (.ok (.ret v)) y) (notedBy (model prog w) A env fun e y=>R (.error e) y) z3) (notedBy (model prog w) A env fun e y=>R (.error e) y) z2) (notedBy (model prog w) A env fun e y=>R (.error e) y) z1) (notedBy (model prog w) A env fun e y=>R (.error e) y) z)
    (n:Nat) (h:I n s):codeC (model prog w) A (.forLoop target it body orelse env) R s:=by
  refine loopC rfl I (fun n z hI=>?_) n h
  show wpC _ A ((forTurn target it body orelse env).onRaise (fun x=>do noteFrame x env; theTreesLotGoes x)) _ _ z
  refine notedC ?_
  simp only [forTurn]
  refine bindA (wpAny_standAt (bindC' (onRaiseC (monoC (toC (turn n z hI)) (fun r z1 h1=>?_) fun _ _ y=>toC (wpAny_standAt y)))))
  cases r with
  | none=>exact toC (wpAny_pure (.inr ⟨rfl,codeC_to (codeAny_block h1)⟩))
  | some v =>
    refine bindA (wpAny_mono h1 (fun _ z2 h2=>?_) fun _ _ y=>y)
    refine bindA (wpAny_mono h2 (fun _ z3 h3=>bindC' (thnC h3 fun f y h4=>?_)) fun _ _ y=>y)
    cases f with
    | next=>exact toC (wpAny_pure (.inl ⟨rfl,h4⟩))
    | cont=>exact toC (wpAny_pure (.inl ⟨rfl,h4⟩))
    | brk=>exact toC (wpAny_pure h4)
    | ret v=>exact toC (wpAny_pure h4)
theorem tryC {body:List Stmt} {h₀:ExceptHandler} {hs:List ExceptHandler} {pos:Pos} {Q:Flow→Shared→Prop}
    (h:wpC (model prog w) A (execs body env) (fun f z=>match f with | .next=>wpAny (model prog w) A (execs [] env) Q E z | f=>Q f z)
      (fun e z=>wpAny (model prog w) A (noteFrame e env) (fun _ z1=>wpAny (model prog w) A (setFlight e none) (fun _ z2=>wpAny (model prog w) A (handleBy e env (h₀ :: hs)) Q E z2) E z1) E z) s) :
    wpC (model prog w) A (exec (.Try body (h₀ :: hs) [] [] pos) env) Q E s:=by
  rw [arm_exec_Try]
  refine bindA (wpAny_standAt ?_)
  unfold tryStmt
  simp only [List.isEmpty_nil,if_true,List.isEmpty_cons,Bool.false_and,Bool.false_eq_true,if_false]
  refine bindC' (attemptC (monoC h (fun f z y=>?_) fun e z y=>?_))
  · cases f <;> first | exact toC y | exact toC (wpAny_pure y)
  · exact toC (wpAny_bind (wpAny_mono y (fun _ _ y2=>wpAny_bind y2) fun _ _ x=>x))
end
end L2
namespace L2
open PySem PySem.Spec PyProof.Rows
def PEC (X:Cx) (e:Expr) (t:TE):Prop:=
  ∀ (pins:List (Addr×Obj)) (s:Shared) (σ:St) (H:Hp) (Q:VK),Inv X pins σ H s→t σ H Q→wpC (model X.prog X.w) X.A (eval e X.env) (EP X pins σ Q) X.xe s
def PSC (X:Cx) (st:Stmt) (t:TS):Prop:=
  ∀ (pins:List (Addr×Obj)) (s:Shared) (σ:St) (H:Hp) (D:Ends),Inv X pins σ H s→t D σ H→wpC (model X.prog X.w) X.A (exec st X.env) (SP X pins D) X.xe s
def PSsC (X:Cx) (st:List Stmt) (t:TS):Prop:=
  ∀ (pins:List (Addr×Obj)) (s:Shared) (σ:St) (H:Hp) (D:Ends),Inv X pins σ H s→t D σ H→wpC (model X.prog X.w) X.A (execs st X.env) (SP X pins D) X.xe s
structure FnOkC (P:Program) (w:World) (K:PySem.W.Frag) (mg:Str→Option Value) (base:Heap) (CX:CXT) (k:Nat) (f:Addr) (fd:FuncData) (ps:List Str) (sp:Sp):Prop where
  len:∀ vs H Q E,sp vs H Q E→vs.length=ps.length
  run:∀ (A:Around) (outer:List Env) (s:Shared) (H:Hp) (args:Args) (us:List Value) (vs:List V) (Q:VK) (E:XK),Room k A→Env0 P w K mg base A outer s H→BindsTo s fd args (ps.zip us)→Vals vs us→sp vs H Q E →
    codeC (model P w) A (.call (.ref f) args) (CR CX outer P w H s Q E) s
section
variable {X:Cx} {st:Stmt} {rest:List Stmt} {t u:TS} {e:Expr} {te:TE} {pos:Pos}
theorem PS.c (h:PS X st t):PSC X st t:=fun pins s σ H D I q=>toC (h pins s σ H D I q)
theorem PSs.c (h:PSs X rest t):PSsC X rest t:=fun pins s σ H D I q=>toC (h pins s σ H D I q)
theorem pssC_cons (h1:PSC X st t) (h2:PSsC X rest u):PSsC X (st :: rest) (tSeq t u):=by
  intro pins s σ H D I h
  refine execsC (thnC (h1 pins s σ H {D with nx:=u D} I h) fun f s1 q=>?_)
  cases f with
  | next =>
    obtain ⟨σ',H',I',q⟩:=q
    exact h2 pins s1 σ' H' D I' q
  | ret v=>exact q
  | brk=>exact q
  | cont=>exact q
theorem pssC_one (h1:PSC X st t):PSsC X [st] t:=by
  intro pins s σ H D I h
  refine execsC (thnC (h1 pins s σ H D I h) fun f s1 q=>?_)
  cases f with
  | next=>exact toC (wpAny_execs_nil q)
  | ret v=>exact q
  | brk=>exact q
  | cont=>exact q
theorem psC_ret (he:PEC X e te):PSC X (.Return (some e) pos) (tRet te):=by
  intro pins s σ H D I h
  rw [exec_Return_some]
  exact bindA (wpAny_standAt (bindC' (thnC (he pins s σ H _ I h) fun v s1 ⟨x,H1,I1,r1,q1⟩=>toC (wpAny_pure ⟨x,σ,H1,I1,r1,q1⟩))))
theorem psC_set {i:Nat} {x:Str} {pos':Pos} (hN:X.N.Nodup) (hi:X.N[i]?=some x) (hx:Loc X.env.scope x) (he:PEC X e te) (hs:swapsWith e (some (.Name x pos')) pos.line X.env=pure false:=by rfl) (hf:X.fn x=true∨X.env.scope.names.lookup x=some .local:=by first | exact .inl rfl | exact .inr rfl | assumption) :
    PSC X (.Assign [.Name x pos'] e pos) (tAsg te (gName i)):=by
  intro pins s σ H D I h
  rw [exec_Assign_Name X.env x pos' e pos hs]
  refine bindA (wpAny_standAt (bindC' (thnC (he pins s σ H _ I h) fun v s1 ⟨y,H1,I1,r1,q1⟩=>?_)))
  refine toC (wpAny_bind (wpAny_standAt (wpAny_bind (wpAny_bindName ?_))))
  exact store_ok I1 hN hi hx r1 (fun s2 I2=>wpAny_pure ⟨_,H1,I2,q1⟩) hf
theorem psC_if {c:Expr} {a b:List Stmt} {tc:TT} (hc:PT X c tc) (ha:PSsC X a t) (hb:PSsC X b u):PSC X (.If c a b pos) (tIfS tc t u):=by
  intro pins s σ H D I h
  rw [exec_If]
  refine bindA (wpAny_standAt (bindA (thn (hc pins s σ H _ I h) fun d s1 ⟨H1,I1,q1⟩=>?_)))
  cases d with
  | true=>exact ha pins s1 σ H1 D I1 q1
  | false=>exact hb pins s1 σ H1 D I1 q1
end
section
variable {X:Cx} {CX:CXT} {k:Nat} {f:Addr} {fd:FuncData} {ps:List Str} {sp:Sp} {dvs:List V} {ds:List Value} {E:XK} {x:Str} {p pos:Pos} {e:Expr} {es:List Expr} {t:TA}
theorem run_fnC {pins:List (Addr×Obj)} {σ:St} {H:Hp} {s:Shared} {Q:VK} {us:List Value} {vs:List V} (F:FnOkC X.prog X.w X.K X.mg X.base CX k f fd ps sp) (hr:Room k X.A) (hb:Binds X.K fd ps ds) (hd:Vals dvs ds) (hx:Passes CX X E)
    (I:Inv X pins σ H s) (r:Vals vs us) (h:sp (vs++dvs) H Q E):wpC (model X.prog X.w) X.A (call (.ref f) us) (EP X pins σ Q) X.xe s:=by
  have r2:Vals (vs++dvs) (us++ds):=r.append hd
  have hl:(us++ds).length=ps.length:=by rw [← r2.length]; exact F.len _ _ _ _ h
  refine callC' (codeC_mono (F.run X.A X.stack s H ⟨us,[]⟩ (us++ds) (vs++dvs) Q E hr I.env0 (hb s us I.kIn hl) r2 h) fun r s' hq=>?_)
  cases r with
  | error e=>exact hx pins σ H s e s' I hq
  | ok fl =>
    cases fl with
    | ret u=>exact I.after hq
    | next=>exact False.elim hq
    | brk=>exact False.elim hq
    | cont=>exact False.elim hq
theorem keepC {α:Type} {M:Model} {A:Around} {E:Value→Shared→Prop} {s:Shared} {vs:List Value} {m:Sem α} {Q:α→Shared→Prop} (h:wpC M A m Q E s):wpC M A (m.keep vs) Q E s:=fun Γ p k i=>by
  rw [Sem.wp_keep]
  exact h Γ p k i
theorem callWithC {M:Model} {A:Around} {E:Value→Shared→Prop} {s:Shared} {K:PySem.W.Frag} {g:Value} {Q:Value→Shared→Prop} {args:List (Bool×Sem Value)} (hp:args.any (·.1)=false) (hk:PySem.W.keepIn K g=true)
    (h:wpAny M A (evalArgs g true args []) (fun a z=>K.In z.heap∧wpC M A (call g a.pos a.kw) Q E z) E s):wpC M A (callWith pos g [] args []) Q E s:=by
  unfold callWith
  refine bindA (wpAny_holding (wpAny_mono h (fun a z h1=>bindA (wpAny_standAt ?_)) fun _ _ y=>y))
  obtain ⟨kp,hk',L⟩:=PySem.W.keeps_K (M:=M) hk _ h1.1
  have hp':(args.any (·.1) || ([]:List (Option Str×Sem Value)).any (·.1.isNone))=false:=by rw [hp]; rfl
  simp only [hp']
  refine bindA (L.here ?_)
  have tail:∀ {m:Sem Value},wpC M A m Q E z→wpC M A (m >>= fun r=>holding [r] point >>= fun _=>pure r) Q E z:=
    fun hm=>bindC' (thnC hm fun r y hr=>toC (wpAny_bind (wpAny_holding (wpAny_point (wpAny_pure hr)))))
  have mk:∀ v,wpC M A (callMarked v g ([]++a.pos) a.kw) Q E z:=fun v=>by unfold callMarked; exact keepC h1.2
  rcases hk' with rfl | rfl | rfl <;> dsimp only <;> first | exact tail h1.2 | (split <;> first | exact tail h1.2 | exact tail (mk _))
theorem peC_call (F:FnOkC X.prog X.w X.K X.mg X.base CX k f fd ps sp) (hr:Room k X.A) (hg:Gl X x) (hm:X.mg x=some (.ref f)) (hk:PySem.W.keepIn X.K (.ref f)=true) (hb:Binds X.K fd ps ds) (hd:Vals dvs ds) (hx:Passes CX X E)
    (ha:PA X (e :: es) t) (hdb:(x == ("__debug__":Str))=false:=by decide) (he:starEach (e :: es) X.env=(false,eval e X.env) :: starEach es X.env:=by rfl) (hpl:(backTo pos (starEach es X.env)).any (·.1)=false:=by rfl) :
    PEC X (.Call (.Name x p) (e :: es) [] pos) (tCall sp dvs E t):=by
  intro pins s σ H Q I h
  rw [arm_eval_Call_Name']
  refine bindA (ld_glob I hg hm ?_ hdb)
  have h1:=ha pos pins s σ H _ I h
  show wpC _ _ (callWith pos (.ref f) [] (backTo pos (starEach (e :: es) X.env)) []) _ _ s
  rw [he] at h1 ⊢
  refine callWithC (K:=X.K) ?_ hk (Calls.evalArgs_plain (wpAny_mono h1 (fun us s1 z=>?_) fun _ _ y=>y))
  · show (false || (backTo pos (starEach es X.env)).any (·.1))=false
    rw [hpl]
    rfl
  · obtain ⟨vs,H1,I1,r,q⟩:=z
    exact ⟨I1.kIn,run_fnC F hr hb hd hx I1 r q⟩
end
section
variable {X:Cx} {tg:Expr}
theorem psC_for {iter:Expr} {body:List Stmt} {wi:TI} {g:TG} {tb:TS} {pos:Pos} (hp:PassesOwn (model X.prog X.w) X.A X.env X.xe) (hc:X.calm=true) (hi:PI X tg iter wi) (hg:PG X tg g) (hb:PSsC X body tb)
    (hs:∀ x,foldedSetIterable iter X.env x=pure x:=by intro _; rfl):PSC X (.For tg iter body [] pos) (tFor wi g tb):=by
  intro pins s σ H D I h
  rw [exec_For]
  refine bindA (wpAny_standAt (bindA (thn (hi pins s σ H _ I h) fun v s1 h1=>?_)))
  refine bindA (wpAny_of_eq (hs v) (bindA (wpAny_standAt (bindA (wpAny_holding (thn h1 fun itv s2 h2=>?_))))))
  obtain ⟨it,fp,tn,J,H2,e,I2,T,st2,f2,W,⟨m0,w0⟩,turn⟩:=h2
  subst e
  have stat:∀ {H':Hp},(∀ b∈fp,H' b=none)→∀ b∈fp,FpOk X pins H' b:=fun hn b hb=>⟨hn b hb,(f2 b hb).2⟩
  refine runOwnC ?_
  refine forLoopC (fun n s'=>∃ i σ' H',Inv X pins σ' H' s'∧tn i s'.heap∧(∀ b∈fp,H' b=none)∧W i n σ' H') ?_ m0 ⟨0,σ,H2,I2,st2,fun b hb=>(f2 b hb).1,w0⟩
  rintro n s3 ⟨i,σ3,H3,I3,st3,fr3,w3⟩
  rcases turn i n σ3 H3 w3 with ⟨stop,qn⟩ | ⟨go,N,hN,step⟩
  · refine wpAny_passesOwn hp (thn (T.done X rfl rfl rfl hc i pins s3 σ3 H3 X.xe I3 (stat fr3) st3 stop) fun r s4 ⟨hr,I4⟩=>?_)
    subst hr
    exact wpAny_execs_nil ⟨σ3,H3,I4,qn⟩
  · refine wpAny_passesOwn hp (thn (T.item X rfl rfl rfl hc i pins s3 σ3 H3 X.xe I3 (stat fr3) st3 go) fun r s4 ⟨u,hr,h4⟩=>?_)
    subst hr
    refine wpAny_passesOwn hp (thn h4 fun _ s5 ⟨x,H5,I5,r5,y5,st5,fr5⟩=>?_)
    have I5':=I5.pinned (stat fr5) (T.obj _ _ st5)
    refine wpAny_passesOwn hp (thn (hg _ s5 σ3 H5 x u _ I5' r5 (step x H5 y5)) fun _ s6 ⟨σ6,H6,I6,q6⟩=>?_)
    refine monoC (hb _ s6 σ6 H6 _ I6 q6) (fun f s7 q7=>?_) (fun e z y=>hp e z y)
    have again:∀ {σ7:St} {H7:Hp},Inv X (pins++pinsAt fp s5.heap) σ7 H7 s7→N σ7 H7→∃ m,m < n∧∃ i σ' H',Inv X pins σ' H' s7∧tn i s7.heap∧(∀ b∈fp,H' b=none)∧W i m σ' H':=fun {σ7 H7} I7 n7=>by
      obtain ⟨m',hm,w7⟩:=hN σ7 H7 n7
      refine ⟨m',hm,i + 1,σ7,H7,I7.unpinned,T.keep _ _ _ st5 fun b hb o e=>(I7.pin (b,o) (List.mem_append_right _ (List.mem_append_right _ (mem_pinsAt hb e)))).1,fun b hb=>?_,w7⟩
      obtain ⟨o,e,d⟩:=T.obj _ _ st5 b hb
      exact (I7.pin (b,o) (List.mem_append_right _ (List.mem_append_right _ (mem_pinsAt hb e)))).2.1
    cases f with
    | next=>obtain ⟨σ7,H7,I7,n7⟩:=q7; exact again I7 n7
    | cont=>obtain ⟨σ7,H7,I7,n7⟩:=q7; exact again I7 n7
    | brk=>obtain ⟨σ7,H7,I7,q7⟩:=q7; exact ⟨σ7,H7,I7.unpinned,q7⟩
    | ret v=>obtain ⟨x7,σ7,H7,I7,r7,q7⟩:=q7; exact ⟨x7,σ7,H7,I7.unpinned,r7,q7⟩
end
section
variable {P:Program} {w:World} {K:PySem.W.Frag} {mg:Str→Option Value} {base:Heap} {CX:CXT} {k:Nat} {f:Addr}
theorem fnC_of {name qual:Str} {params:Arguments} {body:List Stmt} {scope:Scope} {dV kV doc pm cdv ct oc:Value} {an od:Option Addr}
    {osl:Array (Option Value)} {N ps:List Str} {sp:Sp} (lk:K.lookup f=some ⟨oc,od,.func (PySem.W.fnOf name qual params body scope dV kV doc pm an cdv ct),osl⟩) (hcd:PySem.W.codeIn K cdv qual=true) (S:FnScope N ps scope)
    (len:∀ vs H Q E,sp vs H Q E→vs.length=ps.length)
    (hbody:∀ (A:Around) (outer:List Env) (s:Shared) (H:Hp) (vs:List V) (Q:VK) (E:XK),Room k (A.deeper (envOfC qual scope s.heap.objs.size f cdv))→sp vs H Q E →
      ∃ t,PSsC (cxOf CX P w K mg base N qual scope f cdv A outer s H E) body t∧t {nx:=fun _ H'=>Q .non H',rt:=Q} (start N vs) H) :
    FnOkC P w K mg base CX (k + 1) f (PySem.W.fnOf name qual params body scope dV kV doc pm an cdv ct) ps sp:=by
  refine ⟨len,fun A outer s H args us vs Q E hr e0 hb r hsp=>?_⟩
  have hl:=len _ _ _ _ hsp
  have KX:K.In s.heap:=e0.mod.kin.keeps fun b o e=>(e0.bs b o e).1
  have lim:s.heap.NoLimit:=e0.mod.nolimit.keeps fun b o e=>(e0.bs b o e).1
  have hkind:∀ y∈ps.zip us,scope.names.lookup y.1=some .local∨(scope.names.lookup y.1=some .cell∧((cellsFrom (s.heap.objs.size + 1) scope.names []).lookup y.1).isSome=true):=fun ⟨n,v⟩ hy=>by
    rcases S.par n (List.of_mem_zip hy).1 with q | q
    · exact .inl q
    · exact .inr ⟨q,PySem.W.cellsFrom_some _ _ _ (.inl q)⟩
  refine callFnC hr.depth (KX _ _ lk) rfl S.co S.gen rfl (PySem.W.codeRec_of KX hcd) (hb _ _ _ _ ?_)
  refine wpAny_newFunctionEnv_cells S.kind hkind fun env he s1 x=>?_
  subst he
  refine ⟨lim.keeps x.toInCall.keep,funcC ?_⟩
  obtain ⟨t,ht,hq⟩:=hbody A outer s H vs Q E (hr.deeper _) hsp
  have I:Inv (cxOf CX P w K mg base N qual scope f cdv A outer s H E) [] (start N vs) H s1:=inv_start S hr.hd e0 hl r x
  refine monoC (ht [] s1 (start N vs) H _ I hq) (fun fl s' hs=>?_) fun e s' hs=>hs
  have fin:∀ {σ':St} {H':Hp} {v:V} {u:Value},Inv (cxOf CX P w K mg base N qual scope f cdv A outer s H E) [] σ' H' s'→RelV v u→Q v H'→CE outer P w H s Q u s':=
    fun {σ' H' v u} J rv q=>⟨v,H',J.os,J.bare,J.base,J.hok,rv,q⟩
  cases fl with
  | ret u =>
    obtain ⟨v,σ',H',J,rv,q⟩:=hs
    exact fin J rv q
  | next =>
    obtain ⟨σ',H',J,q⟩:=hs
    exact fin (v:=V.non) (u:=Value.none) J rfl q
  | brk =>
    obtain ⟨_,_,_,q⟩:=hs
    exact False.elim q
  | cont =>
    obtain ⟨_,_,_,q⟩:=hs
    exact False.elim q
theorem PSsC.nox {X:Cx} {st:List Stmt} {t:TS} (h:PSsC X.nox st t):PSsC X st t:=fun pins s σ H D I hw =>
  monoC (h pins s σ H D (I.wish _) hw) (fun _ _ q=>q.unwish) fun _ _ z=>False.elim z
theorem Fun.okC {x qual:Str} {st:Stmt} {fd:FuncData} {N ps:List Str} {sp:Sp} (F:Fun K x qual st f fd) (S:FnScope N ps (defScope st)) (len:∀ vs H Q E,sp vs H Q E→vs.length=ps.length)
    (hbody:∀ (cdv:Value) (A:Around) (outer:List Env) (s:Shared) (H:Hp) (vs:List V) (Q:VK) (E:XK),Room k (A.deeper (envOfC qual (defScope st) s.heap.objs.size f cdv))→sp vs H Q E →
      ∃ t,PSsC (cxOf CX0 P w K mg base N qual (defScope st) f cdv A outer s H E).nox (defBody st) t∧t {nx:=fun _ H'=>Q .non H',rt:=Q} (start N vs) H):FnOkC P w K mg base CX0 (k + 1) f fd ps sp:=by
  obtain ⟨oc,od,kV,doc,pm,an,cdv,ct,osl,rfl,lk,hcd⟩:=F.ex
  refine fnC_of lk hcd S len fun A outer s H vs Q E hr hsp=>?_
  obtain ⟨t,h,q⟩:=hbody cdv A outer s H vs Q E hr hsp
  exact ⟨t,h.nox,q⟩
end
end L2
namespace L2
open PySem PySem.Spec PyProof.Rows
section
variable {M:Model} {A:Around} {E:Value→Shared→Prop} {s:Shared}
theorem markC {own:List String} {e:Value} {Q:Unit→Shared→Prop} (h:Q () s):wpC M A (markTheRefusal own e) Q E s:=fun Γ p k i=>by
  have no:pythonCodeMadeTheCall own (((Γ.code,p) :: Γ.below).map (·.1))=false:=by
    unfold pythonCodeMadeTheCall
    have y:(((Γ.code,p) :: Γ.below).map (·.1)).any (fun c=>match c with | .builtin "claim.caller" _=>true | _=>false)=true:=by
      rw [List.any_map,List.any_cons]
      rw [show Γ.below.any ((fun c=>match c with | .builtin "claim.caller" _=>true | _=>false) ∘ (fun x:Code×Pos=>x.1))=true from k,Bool.or_true]
    cases z:(_ && _:Bool) with
    | false=>rfl
    | true =>
      simp only [Bool.and_eq_true,Bool.not_eq_true'] at z
      exact absurd (z.1.1.symm.trans y) Bool.false_ne_true
  unfold markTheRefusal
  rw [Sem.wp_bind']
  show Sem.wp M Γ (if pythonCodeMadeTheCall own (((Γ.code,p) :: Γ.below).map (·.1))=true then _ else _) _ _ p s
  rw [no,if_neg Bool.false_ne_true]
  exact h
end
theorem iteC {α:Type} {M:Model} {A:Around} {E:Value→Shared→Prop} {s:Shared} {c:Prop} [Decidable c] {a b:Sem α} {Q:α→Shared→Prop} (hc:c) (h:wpC M A a Q E s):wpC M A (if c then a else b) Q E s:=by
  rw [if_pos hc]
  exact h
theorem iteC' {α:Type} {M:Model} {A:Around} {E:Value→Shared→Prop} {s:Shared} {c:Prop} [Decidable c] {a b:Sem α} {Q:α→Shared→Prop} (hc:¬ c) (h:wpC M A b Q E s):wpC M A (if c then a else b) Q E s:=by
  rw [if_neg hc]
  exact h
open PySem.W in
theorem no_tail {prog:Program} {w:World} {A:Around} {E:Value→Shared→Prop} {s:Shared} {Q:Value→Shared→Prop} {x:Str} {u:Tok} {f:String} (hf:(Str.ofString f).length≤1000) (hl:(reprText x).length≤10000) (hh:A.handled=none)
    (h:∀ h' e vs t,Heap.MadeExc s.heap h' e "ValueError" vs→E (.ref e) {s with heap:=h',toks:=t}) :
    wpC (model prog w) A (do
      let shown ← pyRepr (.str x u)
      let m ← mkStr ((Str.ofString f)++⟨shown.cps.extract 0 200⟩)
      let r ← newExc (.type "ValueError") [m]
      markTheRefusal ["int.__new__"] r
      raiseNew r) Q E s:=by
  obtain ⟨hp,g,d,tk,os⟩:=s
  have big:(10000:Nat)≤sizeLine:=by decide
  refine bindA (wpAny_pyRepr_str ?_ (Nat.le_trans hl big))
  refine bindA (wpAny_mkStr ?_ ?_)
  · refine bindA (wpAny_newExc_plain plainExc_ValueError (fun h' e m=>?_) (by show 1≤sizeLine; decide))
    refine bindC' (markC (toC (wpAny_raiseNew_none hh ?_)))
    exact h h' e _ _ m
  · refine Nat.le_trans ?_ big
    have e:((Str.ofString f)++(⟨(reprText x).cps.extract 0 200⟩:Str)).length=(Str.ofString f).length + ((reprText x).cps.extract 0 200).size:=by
      show ((Str.ofString f).cps++(reprText x).cps.extract 0 200).size=_
      rw [Array.size_append]
      rfl
    rw [e,Array.size_extract]
    omega
theorem text_no {prog:Program} {w:World} {A:Around} {E:Value→Shared→Prop} {s:Shared} {Q:Value→Shared→Prop} {x:Str} {u:Tok} (hl:x.length≤640) (hrp:(reprText x).length≤10000) (hn:PySem.intText? x=none) (hh:A.handled=none)
    (h:∀ h' e vs t,Heap.MadeExc s.heap h' e "ValueError" vs→E (.ref e) {s with heap:=h',toks:=t}) :
    wpC (model prog w) A ((int_private% "intFromText") (.str x u) (numTextOf x) 10) Q E s:=by
  have hs:(numSeenOf x).length≤640:=Nat.le_trans (seen_length x) hl
  refine iteC hs (bindA (wpAny_pure ?_))
  rcases read0 x hs with ⟨m,h1,_⟩ | ⟨_,hr | ⟨m,hr,hne⟩⟩
  · rw [hn] at h1
    cases h1
  · have hr':=hr
    unfold numSeenOf at hr'
    dsimp only
    rw [hr']
    refine bindA (wpAny_of_eq (a:=none) rfl ?_)
    refine iteC' (by simp) ?_
    refine bindA (wpAny_rule (bindA (wpAny_of_eq (a:=none) rfl ?_)))
    exact no_tail (by decide +kernel) hrp hh h
  · have hr':=hr
    unfold numSeenOf at hr'
    dsimp only
    rw [hr']
    refine iteC' hne ?_
    refine bindA (wpAny_rule (bindA (wpAny_of_eq (a:=none) rfl ?_)))
    exact no_tail (by decide +kernel) hrp hh h
open PySem.W in
theorem obj_no {prog:Program} {w:World} {A:Around} {E:Value→Shared→Prop} {s:Shared} {Q:Value→Shared→Prop} {x:Str} {u:Tok} (hl:x.length≤640) (hrp:(reprText x).length≤10000) (hn:PySem.intText? x=none) (hh:A.handled=none)
    (h:∀ h' e vs t,Heap.MadeExc s.heap h' e "ValueError" vs→E (.ref e) {s with heap:=h',toks:=t}) :
    wpC (model prog w) A ((int_private% "intFromObject") (.str x u)) Q E s:=by
  have f3:=KIN.str_int
  have f4:=KIN.str_idx
  have f5:=KIN.str_trunc
  have f6:typeOf (.str x u)=pure (.type "str"):=rfl
  refine bindA ?_
  repeat (first | assumption | wp_step)
  refine bindA ?_
  repeat (first | assumption | wp_step)
  refine iteC' (by simp) ?_
  refine bindA ?_
  repeat (first | assumption | wp_step)
  refine bindA (wpAny_of_eq (a:=some (numTextOf x)) rfl ?_)
  exact text_no hl hrp hn hh h
open PySem.W in
theorem new_no {prog:Program} {w:World} {A:Around} {E:Value→Shared→Prop} {s:Shared} {Q:Fin→Shared→Prop} {x:Str} {u:Tok} (hl:x.length≤640) (hrp:(reprText x).length≤10000) (hn:PySem.intText? x=none) (hh:A.handled=none)
    (h:∀ h' e vs t,Heap.MadeExc s.heap h' e "ValueError" vs→E (.ref e) {s with heap:=h',toks:=t}) :
    wpC (model prog w) A (Builtin.«int.__new__» ⟨[.type "int",.str x u],[]⟩) Q E s:=by
  unfold Builtin.«int.__new__»
  dsimp only
  refine bindA (wpAny_of_eq (a:=true) rfl ?_)
  refine iteC' (by simp) ?_
  refine bindA (wpAny_of_eq F.conv_sub_int ?_)
  refine iteC' (by simp) ?_
  refine bindA (wpAny_of_eq F.madeHere_int ?_)
  refine iteC' (by simp) ?_
  refine iteC' (by simp) ?_
  refine bindA (wpAny_of_eq (a:=PUnit.unit) rfl ?_)
  refine bindC' ?_
  refine monoC (Q:=fun _ _=>False) ?_ (fun _ _ z=>z.elim) (fun _ _ z=>z)
  refine obj_no hl hrp hn hh h
section
variable {prog:Program} {w:World} {A:Around} {s:Shared} {R:Result→Shared→Prop}
theorem builtinC {id:String} {args:Args} {b:Builtin} (hb:entryFor table id=some b)
    (h:wpC (model prog w) (A.under (.builtin id args)) (b args) (fun fin z=>match fin with | .done f=>R (.ok f) z | .again d=>d.quiet=true∧codeC (model prog w) A d R z) (fun e z=>R (.error e) z) s) :
    codeC (model prog w) A (.builtin id args) R s:=by
  refine treeC ?_
  show wpC _ _ (match entryFor table id with | some b=>b args | none=>unsupported ((withoutEnding? id "#data").getD id)) _ _ s
  rw [hb]
  exact h
theorem callBuiltinC {id:String} {args:Args} (hq:(Code.builtin id args).quiet=true) (hc:checkBuiltinCall id args=pure ()) (h:codeC (model prog w) A (.builtin id args) R s):codeC (model prog w) A (.call (.builtin id) args) R s:=by
  refine treeC ?_
  show wpC _ A.in1 (do checkBuiltinCall id args; again (.builtin id args)) _ _ s
  exact bindA (wpAny_of_eq hc (toC (wpAny_pure (And.intro hq h))))
theorem callTypeC {T:String} {us:List Value} (hq:(Code.builtin "type.__call__" ⟨.type T :: us,[]⟩).quiet=true) (h:codeC (model prog w) A (.builtin "type.__call__" ⟨.type T :: us,[]⟩) R s):codeC (model prog w) A (.call (.type T) ⟨us,[]⟩) R s:=by
  refine treeC ?_
  show wpC _ _ (callAny (.type T) _) _ _ _
  exact toC (wpAny_pure ⟨hq,h⟩)
end
open PySem.W in
theorem builtin_no {prog:Program} {w:World} {A:Around} {E:Value→Shared→Prop} {s:Shared} {Q:Value→Shared→Prop} {x:Str} {u:Tok} (hl:x.length≤640) (hrp:(reprText x).length≤10000) (hn:PySem.intText? x=none) (hh:A.handled=none)
    (h:∀ h' e vs t,Heap.MadeExc s.heap h' e "ValueError" vs→E (.ref e) {s with heap:=h',toks:=t}) :
    wpC (model prog w) A (call (.builtin "int.__new__") [.type "int",.str x u]) Q E s:=by
  refine callC' (callBuiltinC (Code.quiet_builtin _ (by decide +kernel)) (F.newCall_int_1 _) (builtinC F.entry_int_new ?_))
  rw [Around.under_plainId (by decide +kernel)]
  exact new_no hl hrp hn hh h
theorem call_no {prog:Program} {w:World} {A:Around} {E:Value→Shared→Prop} {s:Shared} {Q:Value→Shared→Prop} {x:Str} {u:Tok} (hl:x.length≤640) (hrp:(reprText x).length≤10000) (hn:PySem.intText? x=none) (hh:A.handled=none)
    (h:∀ h' e vs t,Heap.MadeExc s.heap h' e "ValueError" vs→E (.ref e) {s with heap:=h',toks:=t}) :
    wpC (model prog w) A (call (.type "int") [.str x u]) Q E s:=by
  refine callC' (callTypeC (Code.quiet_builtin _ (by decide +kernel)) (builtinC F.entry_type_call ?_))
  rw [Around.under_plain (weight_type_call_type _ _ _) (units_type_call_type _ _ _)]
  have f1:=F.called_int.notType
  have f2:=F.called_int.canCreate
  unfold Builtin.«type.__call__»
  dsimp only
  refine iteC' (by rw [f1]; simp) ?_
  refine iteC' (by rw [f2]; simp) ?_
  refine bindA (wpAny_of_eq (F.typeCall_int_1 _) ?_)
  refine bindA (wpAny_of_eq F.mro_int ?_)
  refine iteC' (by simp) ?_
  refine bindA (wpAny_of_eq F.called_int.made ?_)
  dsimp only
  refine bindA (wpAny_pure ?_)
  refine bindC' (holdingC ?_)
  exact builtin_no hl hrp hn hh h
end L2
namespace L2
open PySem PySem.Spec PyProof.Rows
section
variable {M:Model} {A:Around} {E:Value→Shared→Prop} {s:Shared} {B:Heap} {env:Env} {outer:List Env} {L e:Addr} {cls:Value} {Q:Unit→Shared→Prop}
theorem fl_first {h:Heap} {args:List Value} (hfr:A.frames=some (env :: outer)) (hf:env.frame=some L) (hB:B.StaysIn h) (hl:h.FunFrames B (env :: outer)) (x:Heap.MadeExcOf h s.heap e cls args)
    (k:∀ h',FlD B (env :: outer) e cls (rawInt L) h'→s.heap.UpToSlots h'→Q () {s with heap:=h'}):wpAny M A (noteFrame (.ref e) env) Q E s:=by
  obtain ⟨t,he,htn,ht⟩:=x.there
  have en:B.get? e=none:=by
    cases q:B.get? e with
    | none=>rfl
    | some o=>have z:=hB e o q; rw [x.new] at z; cases z
  unfold noteFrame
  simp only [hf]
  refine wpAny_bind (wpAny_field (x:=Value.none) he rfl rfl ?_)
  rw [if_neg (show ¬ ((Value.none != Value.none)=true) by decide)]
  exact fl_entry hfr (hl.of_keeps fun b o z _=>⟨o,x.keeps b o z,rfl⟩) hf he (fun b o z=>x.keeps b o (hB b o z)) en rfl (show 1 < 6 by decide) rfl k
end
section
variable {X:Cx} {pins:List (Addr×Obj)} {σ:St} {H:Hp} {s:Shared}
theorem hide_cov (I:Inv X pins σ H s):Tcov X pins H (PySem.W.hideAll s.heap (frs X.stack)) s.heap:=fun b o _ n e=>PySem.W.hideAll_get _ e n
theorem hide_fun (I:Inv X pins σ H s) (hst:X.stack=X.env :: X.outer):s.heap.FunFrames (PySem.W.hideAll s.heap (frs X.stack)) (X.env :: X.outer):=by
  have z:=PySem.W.funFrames_hide I.stack (fun env he a ha=>List.mem_filterMap.mpr ⟨env,he,ha⟩)
  rw [hst] at z ⊢
  exact z
theorem boot_verr0:bootBuiltins "ValueError"=some (.type "ValueError"):=by decide +kernel
def tTryInt (j i:Nat) (tS:TS):TS:=fun D σ H=>∃ x:Str,σ[j]?=some (some (.str x))∧x.length≤640∧(reprText x).length≤10000∧(∀ n,PySem.intText? x=some n→D.nx (σ.set i (some (.int n))) H)∧(PySem.intText? x=none→tS D σ H)
theorem psC_tryInt {j i:Nat} {xw xn:Str} {p1 p2 p3 p4 p5 p6 p7 pos:Pos} {b₀:Stmt} {suite:List Stmt} {tS:TS} (hN:X.N.Nodup) (hi:X.N[i]?=some xn) (hx:Loc X.env.scope xn) (hw:PE X.nox (.Name xw p3) (tVar j)) (hgi:Gl X "int") (hmi:X.mg "int"=none) (hgv:Gl X "ValueError") (hmv:X.mg "ValueError"=none)
    (hc:X.calm=true) (hsu:∀ ea,PSs (X.hdl ea) (b₀ :: suite) tS)
    (hst:X.stack=X.env :: X.outer:=by rfl) (hfr:X.env.frame=some X.env.locals:=by rfl)
    (he:starEach [.Name xw p3] X.env=[(false,eval (.Name xw p3) X.env)]:=by rfl)
    (hs:swapsWith (.Call (.Name "int" p2) [.Name xw p3] [] p4) (some (.Name xn p1)) p5.line X.env=pure false:=by rfl) (hf:X.fn xn=true∨X.env.scope.names.lookup xn=some .local:=by first | exact .inl rfl | exact .inr rfl | assumption) :
    PSC X (.Try [.Assign [.Name xn p1] (.Call (.Name "int" p2) [.Name xw p3] [] p4) p5] [.ExceptHandler (some (.Name "ValueError" p6)) none (b₀ :: suite) p7] [] [] pos) (tTryInt j i tS):=by
  intro pins s σ H D I h
  obtain ⟨x,hσ,hl,hrp,h1,h2⟩:=h
  refine tryC ?_
  have hh:X.A.handled=none:=I.ok.hd hc
  refine execsC ?_
  rw [exec_Assign_Name X.env xn p1 _ p5 hs]
  refine bindA (wpAny_standAt ?_)
  rw [arm_eval_Call_Name']
  refine bindC' (bindA (ld_blt I hgi hmi boot_int ?_))
  show wpC _ _ (callWith p4 (.type "int") [] (backTo p4 (starEach [.Name xw p3] X.env)) []) _ _ s
  rw [he]
  unfold callWith
  refine bindA (wpAny_holding (Calls.evalArgs_plain (Calls.spliced_cons (wpAny_mono (hw pins s σ H (fun v H'=>v=.str x∧H'=H) (I.wish _) ⟨.str x,hσ,rfl,rfl⟩) (fun u s1 z=>Calls.spliced_nil ?_) fun _ _ z=>False.elim z))))
  obtain ⟨v,H',I1,ru,rfl,rfl⟩:=z
  replace I1:=I1.unwish
  obtain ⟨tk,rfl⟩:=ru
  refine bindA (wpAny_standAt ?_)
  refine bindA (wpAny_of_eq (a:=Keeper.machine) rfl ?_)
  cases hx':PySem.intText? x with
  | some n =>
    refine bindA (PySem.W.KIN.call_text hx' hl (toC ?_))
    refine wpAny_bind (wpAny_holding (wpAny_point (wpAny_pure ?_)))
    refine toC (wpAny_bind (wpAny_standAt (wpAny_bind (wpAny_bindName ?_))))
    exact store_ok (v:=.int n) (I1.tok _) hN hi hx ⟨_,rfl⟩ (fun s2 I2=>wpAny_pure (toC (wpAny_execs_nil (wpAny_execs_nil ⟨_,_,I2,h1 n hx'⟩)))) hf
  | none =>
    refine bindC' (call_no hl hrp hx' hh fun h' e vs t m=>?_)
    have fr:X.A.frames=some (X.env :: X.outer):=by rw [I.ok.frames,hst]
    refine fl_first (B:=PySem.W.hideAll s1.heap (frs X.stack)) (h:=s1.heap) fr hfr (fun b o z=>PySem.W.of_hideAll _ z) (hide_fun I1 hst) m.of fun h22 f2 u2=>?_
    refine fl_lands f2 fun h3 f3 u3=>?_
    have u23:s1.heap.UpToSlots h3:=((Heap.UpToSlots.of_keeps m.keeps).trans u2).trans u3
    refine wpAny_handleBy_builtin (X:="ValueError") (T:="ValueError") (b:=true) PySem.F.isExc_ValueError PySem.F.notTuple_ValueError PySem.F.self_ValueError ?_
    have B3:(PySem.W.hideAll s1.heap (frs X.stack)).StaysIn h3:=f3.1
    have I3:Inv X pins σ H' {s1 with heap:=h3,toks:=t}:=Inv.landed (s:={s1 with toks:=t}) (I1.tok t) B3 (hide_cov I1) u23
    refine ld_blt (X:=X.hdl e) (I3.hdl e) hgv hmv boot_verr0 ?_
    obtain ⟨ob,hob,hcl⟩:=f3.there
    refine ⟨rfl,⟨ob,hob,hcl⟩,?_⟩
    rw [if_pos rfl]
    refine fl_lands (s:={s1 with heap:=h3,toks:=t}) f3 fun h6 f6 u6=>?_
    have I6:Inv X pins σ H' {s1 with heap:=h6,toks:=t}:=Inv.landed (s:={s1 with toks:=t}) (I1.tok t) f6.1 (hide_cov I1) (u23.trans u6)
    exact wpAny_mono (hsu e pins _ σ H' D (I6.hdl e) (h2 hx')) (fun f s2 z=>SP.unhdl I.ok z) (fun _ _ z=>False.elim z)
end
end L2
namespace L2
open PySem PySem.Spec PyProof.Rows
theorem law_callC {P:Program} {w:World} {K:PySem.W.Frag} {mg mb:Str→Option Value} {CX:CXT} {k:Nat} {fa a:Addr} {fd:FuncData} {x:Str} {sp:Sp} {s₁:Shared} {vs:List Value} {ns:List Int}
    (KX:K.In s₁.heap) (hns:s₁.heap.Ns mainGlobals mg) (hb:s₁.heap.Ns builtinsNs mb) (hbb:∀ x:Str,x≠"__name__"→mb x=bootBuiltins x) (hlim:s₁.heap.NoLimit) (hg:s₁.gens=#[])
    (ha:s₁.heap.get? a=some {cls:=.type "list",data:=.seq vs.toArray}) (hi:IntsAre vs ns) (hl:ns.length≤sizeLine) (hr:Room k callerA)
    (F:∀ base:Heap,K.In base→base.Ns mainGlobals mg→FnOkC P w K mg base CX k fa fd [x] sp) (hbind:∀ (s:Shared) (u:Value),BindsTo s fd ⟨[u],[]⟩ [(x,u)])
    (hsp:∀ H:Hp,Only H→SqL K H a (ns.map V.int)→sp [.ref a] H (fun v _=>v=.bl true) fun _ _ _=>False)
    (hCX:∀ H e s',CX [] H s₁ (fun _ _ _=>False) e s'→False) :
    codeC (model P w) callerA (.call (.ref fa) ⟨[.ref a],[]⟩) (fun r s'=>r=.ok (.ret (.bool true))∧OldK s₁.heap s'.heap∧s'.os=s₁.os∧AllBare s'.gens) s₁:=by
  have rv:=vals_ints hi
  have lenV:=hi.length
  -- from an abstract heap in which nothing but the script may be tracked
  have core:∀ H:Hp,Only H→SqL K H a (ns.map V.int)→HOk P w H s₁.heap→(∀ b,H b≠none→b=a)→(H a≠none→K.lookup a=none) →
      codeC (model P w) callerA (.call (.ref fa) ⟨[.ref a],[]⟩) (fun r s'=>r=.ok (.ret (.bool true))∧OldK s₁.heap s'.heap∧s'.os=s₁.os∧AllBare s'.gens) s₁:=by
    intro H hO hS hok hA hK
    have base_of:∀ {b:Addr} {o:Obj},s₁.heap.get? b=some o→H b=none→(hidT s₁.heap H).get? b=some o:=fun e n=>hidT_get e n
    have noA:∀ {b:Addr} {o:Obj} {es:Array DictEntry} {ep:Nat},s₁.heap.get? b=some o→o.data=.dict es ep→H b=none:=fun {b o es ep} e d=>by
      cases q:H b with
      | none=>rfl
      | some u =>
        have e':b=a:=hA b (by rw [q]; simp)
        subst e'
        rw [ha] at e; cases e
        have d':Data.seq vs.toArray _=Data.dict es ep:=d
        cases d'
    have nsK:∀ {b:Addr} {m:Str→Option Value},s₁.heap.Ns b m→(hidT s₁.heap H).Ns b m:=fun {b m} ⟨o,es,ep,e,d,r⟩=>⟨o,es,ep,base_of e (noA e d),d,r⟩
    have hKb:K.In (hidT s₁.heap H):=fun b o e=>base_of (KX b o e) (by
      cases q:H b with
      | none=>rfl
      | some u =>
        have e':b=a:=hA b (by rw [q]; simp)
        subst e'
        rw [hK (by rw [q]; simp)] at e; cases e)
    have hM:Mod K mg (hidT s₁.heap H):=⟨hKb,nsK hns,⟨mb,nsK hb,hbb⟩,let ⟨mc,h1,h2⟩:=hlim; ⟨mc,nsK h1,h2⟩⟩
    have e0:Env0 P w K mg (hidT s₁.heap H) callerA [] s₁ H:=⟨rfl,hM,fun b o e=>of_hidT e,Nat.le_of_eq (hidT_size _ _),trivial,fun b hb=>absurd (show b∈([]:List Addr) from hb) (by simp),hok,.of_eq hg⟩
    refine codeC_mono ((F _ hKb (nsK hns)).run callerA [] s₁ H ⟨[.ref a],[]⟩ [.ref a] [.ref a] _ _ hr e0 (hbind s₁ (.ref a)) (.cons rfl .nil) (hsp H hO hS)) fun r s' h=>?_
    cases r with
    | error e=>exact (hCX H e s' h).elim
    | ok fl =>
      cases fl with
      | next=>exact False.elim h
      | brk=>exact False.elim h
      | cont=>exact False.elim h
      | ret u =>
        obtain ⟨v,H',os,bare,un,hok',r',q⟩:=h
        have q':v=.bl true:=q
        subst q'
        obtain rfl:u=Value.bool true:=r'
        refine ⟨rfl,OldK.of_keep fun b o e=>?_,os,bare⟩
        cases q:H b with
        | none=>exact un.keep b o e q (by intro z; exact absurd (show b∈([]:List Addr) from z) (by simp)) (by simp)
        | some u =>
          rcases hO b with z | ⟨ob,xs,z⟩
          · rw [q] at z; cases z
          · have z2:=un.frzs b ob _ z
            obtain ⟨e1,_⟩:=hok b _ z
            obtain ⟨e2,_⟩:=hok' b _ z2
            rw [e] at e1; cases e1
            exact e2
  cases hk:K.lookup a with
  | some o =>
    -- the script is one of the module's own objects
    have e:=KX a o hk
    rw [ha] at e
    cases e
    refine core (fun _=>none) (fun _=>.inl rfl) (.inr ⟨_,vs.toArray,_,hk,rfl,rfl,rfl,by rw [List.size_toArray,lenV]; exact hl,by simpa using rv⟩) (fun b u z=>by have z':(none:Option HO)=some u:=z; cases z') (fun b z=>absurd rfl z) fun z=>absurd rfl z
  | none =>
    refine core (fun b=>if b=a then some (.frz {cls:=.type "list",data:=.seq vs.toArray} (.lst (ns.map V.int))) else none) (fun b=>?_) (.inl (.inr ⟨{cls:=.type "list",data:=.seq vs.toArray},if_pos rfl⟩)) (fun b u z=>?_) (fun b z=>?_) fun _=>hk
    · by_cases hb:b=a
      · exact .inr ⟨_,_,if_pos hb⟩
      · exact .inl (if_neg hb)
    · by_cases hb:b=a
      · have z':=(if_pos hb).symm.trans z
        cases z'
        subst hb
        exact ⟨ha,by rw [List.length_map]; exact hl,vs,_,rv,ha⟩
      · have z':=(if_neg hb).symm.trans z
        cases z'
    · by_cases hb:b=a
      · exact hb
      · exact absurd (if_neg hb) z
def ctx0:PySem.Ctx:=⟨.builtin "claim.caller" {},none,none,[],none⟩
theorem top0 {prog:Program} {w:World} {s:Shared} {mg:Str→Option Value} {f:Value} {name:Str} {vs:List Value} {R:Result→Shared→Prop} (hg:s.heap.Ns mainGlobals mg) (hf:mg name=some f)
    (h:codeC (model prog w) callerA (.call f ⟨vs,[]⟩) (fun r z=>match r with | .ok (.ret v)=>R (.ok (.ret v)) z | .ok _=>False | .error e=>R (.error e) z) s) :
    Sem.wp (model prog w) ctx0 (do match ← nsGet mainNs name with | some f=>do ret (← PySem.call f vs) | none=>unsupported "claim.caller:no-such-global") (Sem.finPost (model prog w) ctx0 R) (fun e _ z=>R (.error e) z) default s:=by
  rw [Sem.wp_bind']
  have z:=(wpAny_nsGet (M:=model prog w) (A:=callerA) (E:=fun e z=>R (.error e) z) (Q:=fun o z=>o=some f∧z=s) hg (by rw [hf]; exact ⟨rfl,rfl⟩)) ctx0 default caller_in
  refine Sem.wp_mono _ _ _ (fun o p z y=>?_) (fun _ _ _ y=>y) _ _ z
  obtain ⟨rfl,rfl⟩:=y
  dsimp only
  rw [Sem.wp_bind']
  show Sem.wp _ _ (runValue (.call f ⟨vs,[]⟩)) _ _ _ _
  rw [Sem.wp_runValue]
  refine wpCode_mono (fun r y q=>?_) (h (ctx0.enter (.call f ⟨vs,[]⟩) none p) p rfl rfl (caller_in.enter _ none p (by intro x; cases x)))
  cases r with
  | error e=>exact q
  | ok fl =>
    cases fl with
    | ret v=>exact q
    | next=>exact q
    | brk=>exact q
    | cont=>exact q
open PySem.W in
def WalkC (q:Program) (loose:List Str) (XP:(Str→Option Value)→Heap→Prop) (YP:World→Heap→Prop) (r:RowW) (d:DefRec):Prop:=
  ∀ (w:World) (s₀ s₁:Shared) (mg mb:Str→Option Value),Ground q loose r.records XP w s₀ mg mb s₁.heap→YP w s₁.heap→∀ (a:Addr) (dV kV:Value) (kwd:List (Str×Expr)),Dflts mg s₁.heap d.params kwd dV kV→mg d.name=some (.ref a)→s₁.gens=#[] →
    ∀ (args:List WData) (vals:List Value) (as:List Addr),r.claim.pre args=true→WData.layableAll args=true→ReadsAllW r.records (classAt s₀.heap) s₁.heap vals args as→WellAll w.params s₁.heap vals args →
      codeC (model r.prog w) callerA (.call (.ref a) ⟨vals,[]⟩) (GoodWG r.claim (classAt s₀.heap) (ExcName.means s₀.heap) args s₁) s₁
open PySem.W in
theorem fromC {c:ClaimW} {name:Str} {w:World} {s:Shared} {free:Addr→Prop} {gens:Prop} {kept:Heap→Prop} (hz:s.asleep) (hgs:s.gens=#[])
    (h:∀ args,c.pre args=true→WData.layableAll args=true→∀ ord:List DictEntry→List DictEntry,(∀ l,(ord l).Perm l)→∃ vs z,layAllW c.records (classAt s.heap) w.params ord args s=some (vs,z) ∧
      Sem.wp (model c.prog w) ctx0 (callStub name vs).cur (Sem.finPost (model c.prog w) ctx0 fun r y=>(c.Ends s args vs z r y∧y.os=s.os∧kept y.heap)∧leftWithCleanup y.gens=false) (fun e _ y=>(c.Ends s args vs z (.error e) y∧y.os=s.os∧kept y.heap)∧leftWithCleanup y.gens=false) default z) :
    c.CallFrom (callStub name) w free gens kept s:=by
  intro args a1 a2 ord a3
  obtain ⟨vs,z,hl,hw⟩:=h args a1 a2 ord a3
  have rest:=layAllW_rest _ _ _ hl
  obtain ⟨k,r,y,y2,hs,hn,hfo,⟨hE,ho,hk⟩⟩:=wp_halts_full (M:=model c.prog w) (Shared.asleep_of_life rest.2.2.2 hz) hw
  obtain ⟨eh,_,_,eo,_⟩:=Shared.forget_eq hfo
  replace hE:=hE.congr eh
  rw [← eh] at hk
  rw [← eo] at ho
  have life:y2.heap.life=s.heap.life:=(runN_life _ _ _ hn).trans rest.2.2.2
  refine ⟨vs,z,hl,k,_,y2,hs,?_,(fun _ i x hx=>by rw [hgs] at hx; simp at hx),hk,by rw [life],Shared.rest_eq ho⟩
  rcases hE with ⟨v,rfl,d1,d2,d3,d4,d5⟩ | ⟨e,ob,cls,rfl,d1,d2,d3,d4,d5⟩
  · exact .inl ⟨v,rfl,d1,d2,d3,fun b o q _=>d4 b o q,d5⟩
  · exact .inr ⟨e,ob,cls,rfl,d1,d2,d3,d4,fun b o q _=>d5 b o q⟩
open PySem.W in
theorem headC {r:OpenRow} {q:Program} {loose:List Str} {Xt:Shared→Bool} {XP:(Str→Option Value)→Heap→Prop} {α:Type} {Yf:Shared→α} {Ya:World→α} {YP:World→Heap→Prop} {d:DefRec} {kwd:List (Str×Expr)} {N:Nat}
    (left:LeftO r.prog q loose Xt Yf Ya N) (hY:∀ w s,Yf s=Ya w→YP w s.heap) (hYk:∀ w h h',YP w h→(∀ b o,h.get? b=some o→h'.get? b=some o)→YP w h') (hX:∀ s,Xt s=true→XP (s.heap.nsMap mainGlobals) s.heap) (hXk:∀ mg h h',XP mg h→(∀ b o,h.get? b=some o→h'.get? b=some o)→XP mg h')
    (hdef:defOf q r.name=some (d,kwd)) (hp:r.prog.theDef r.name=some (d.params,d.body,d.scope)) (hk:kwWritten? d.params.kwonlyargs d.params.kw_defaults=some kwd) (hRf:∀ s,Xt s=true→RecFacts r.records s.heap) (hwr:(!r.writes || r.records.isEmpty)=true) (k1:r.wellSaid=true)
    (ok:(chainsOk q && opensWell r.prog && (frees r.toRowW && r.within.isEmpty))=true) (hb:r.prog.bare) (hw:r.toRowW.promised) (call:WalkC q loose XP YP r.toRowW d):r.Holds:=by
  obtain ⟨ok1,ok2⟩:=Bool.and_eq_true_iff.mp ok
  obtain ⟨hch,hop⟩:=Bool.and_eq_true_iff.mp ok1
  obtain ⟨hfr,hwi⟩:=Bool.and_eq_true_iff.mp ok2
  obtain ⟨hsame,hu,ha,hap,hm⟩:=frees_parts hfr
  have hi:=ident_freeW hu ha hap
  have hwi':r.toRowW.claim.within=[]:=List.isEmpty_iff.mp hwi
  refine ⟨k1,hw,⟨hb,hop,by show r.makers.map _=[]; rw [hm]; rfl⟩,hw.witness,fun w=>⟨(left.behind hX hch w).1,fun z hz=>?_⟩⟩
  obtain ⟨s₀,e1,e2,s,T,sl,g0,ns,G0,y⟩:=(left.behind (XP:=fun mg h=>XP mg h∧RecFacts r.records h) (fun s hs=>⟨hX s hs,hRf s hs⟩) hch w).2 z hz
  have G1:Ground q loose [] XP w s (s.heap.nsMap mainGlobals) (s.heap.nsMap builtinsNs) s.heap:=⟨G0.T,G0.B,G0.D,G0.TE,G0.TD,G0.W,G0.X.1,G0.cls,G0.has,G0.apart,G0.once,G0.K⟩
  have RF:=G0.X.2
  have gs:s.gens=#[]:=Array.eq_empty_of_size_eq_zero (beq_iff_eq.mp g0)
  refine ⟨s₀,e1,e2,s,T,fun n hn=>?_,RF.1,RF.2.1,?_⟩
  · obtain rfl:n=r.name:=by split at hn <;> simp_all
    exact pinned_of_view ns G1 hdef hp hk
  have G2:Ground q loose r.records XP w s _ _ s.heap:=RF.ground G1
  refine fromC (c:=r.toRowW.claim) sl gs fun args a1 a2 ord a3=>?_
  obtain ⟨⟨vs,s₁⟩,hl⟩:=Option.isSome_iff_exists.mp (layAllW_isSome (P:=w.params) (ord:=ord) G2.has args r.args s (pre_splitW a1).1)
  have kp:=layAllW_keeps _ _ _ hl
  have al:=layAllW_rest _ _ _ hl
  obtain ⟨as,h1,h2,h3⟩:=reads_layAllW a3 _ _ _ hl a2 s₁.heap (fun _ _ e=>e)
  have L:Laid r.records w s s₁ args vs as:=⟨⟨ord,a3,hl⟩,h1,h2,h3,kp,al.1.trans gs,al.2.2.1⟩
  have G3:=G2.keeps hXk kp
  obtain ⟨a,o,pm,cd,doc,dV,kV,f1,f2,f3,f4,f5⟩:=G3.fn hdef
  have run:=call w s s₁ _ _ G3 (hYk _ _ _ (hY w s y) kp) a dV kV kwd f5 (defOf_name hdef ▸ f1) L.gens args vs as a1 a2 L.reads L.well
  refine ⟨vs,s₁,hl,top0 (R:=fun r' y=>(r.toRowW.claim.Ends s args vs s₁ r' y∧y.os=s.os∧_)∧leftWithCleanup y.gens=false) G3.T.g f1 (codeC_mono run fun r' y g=>?_)⟩
  have z:=g.laid (c:=r.toRowW.claim) hsame hwi' hi L
  have fin:(r.toRowW.claim.Ends s args vs s₁ r' y∧y.os=s.os∧(r.writes=true→namesKept r.prog r.keeps s.heap y.heap∧∀ x∈r.records,∀ a,classAt s.heap x.1=some a→recordClass y.heap a x.1 (x.2.map (·.1))=true))∧leftWithCleanup y.gens=false:=
    ⟨⟨z.1,z.2.1,fun q=>⟨namesKept_of T ns r.keeps kp g.2.1.old,noTable hwr q⟩⟩,leftWithCleanup_false_of_bare z.2.2⟩
  cases r' with
  | error e=>exact fin
  | ok fl =>
    rcases g.1 with ⟨v,_,_,e,_⟩ | ⟨e,_,_,e',_⟩
    · cases e
      exact fin
    · cases e'
open PySem.W in
theorem walkC_of {l:OpenLaw} {n k:Nat} {q:Program} {loose:List Str} {XP:(Str→Option Value)→Heap→Prop} {YP:World→Heap→Prop} {d:DefRec} {K:Params→PySem.W.Frag} {CX:World→CXT} {sp:World→Sp} {x:Str}
    (hn:l.most=some n) (hn2:n≤sizeLine) (hdf:d.params.defaults=[]) (hr:Room k callerA) (hY:∀ (w:World) (h:Heap),YP w h→(K w.params).In h)
    (F:∀ (w:World) (mg:Str→Option Value) (fa:Addr) (h:Heap),(K w.params).In h→h.Ns mainGlobals mg→mg d.name=some (.ref fa) →
      ∃ fd:FuncData,(∀ (s:Shared) (u:Value),BindsTo s fd ⟨[u],[]⟩ [(x,u)])∧∀ base:Heap,(K w.params).In base→base.Ns mainGlobals mg→FnOkC l.prog w (K w.params) mg base (CX w) k fa fd [x] (sp w))
    (hsp:∀ (w:World) (H:Hp) (a:Addr) (ns:List Int),ns.length≤n→(∀ x∈ns,Builtin.Int.intBits x≤1048576)→SqL (K w.params) H a (ns.map V.int)→sp w [.ref a] H (fun v _=>v=.bl true) fun _ _ _=>False)
    (hCX:∀ (w:World) (H:Hp) (s:Shared) (e:Value) (s':Shared),CX w [] H s (fun _ _ _=>False) e s'→False):WalkC q loose XP YP l.row.toRowW d:=by
  intro w s₀ s₁ mg mb G Y fa dV kV kwd hD hmg hg args vals as hpre hlay hrd hwl
  obtain ⟨a,vs,ns,rfl,rfl,hobj,hints,hlen⟩:=Att.script_of hn hpre hwl
  obtain ⟨fd,hb,hF⟩:=F w mg fa _ (hY w _ Y) G.T.g hmg
  refine codeC_mono (law_callC (hY w _ Y) G.T.g G.T.b G.T.builtins G.T.nolimit hg hobj hints (Nat.le_trans hlen hn2) hr hF hb (fun H hO hS=>hsp w H a ns hlen (Att.bits_of_lay hlay) hS) fun H e s'=>hCX w H s₁ e s') fun r s' hq=>?_
  obtain ⟨rfl,h2,h3,h4⟩:=hq
  exact ⟨.inl ⟨.bool true,.bool true,[],rfl,fun _=>rfl,.bool true,Att.post_true l _,fun _=>⟨List.Pairwise.nil,fun _ hm=>(nomatch hm)⟩⟩,h2,h3,h4⟩
end L2
namespace L2
open PySem PySem.Spec PyProof.Rows
section
variable {X:Cx} {pins:List (Addr×Obj)} {σ:St} {H:Hp} {s:Shared} {d:Addr}
end
def Iti (d:Addr) (od:Obj) (kvs:List (Key×V)):It:=
  ⟨fun i H=>H d=some (.frz od (.dK kvs))∧i < kvs.length,fun i H x H'=>∃ t kv,x=.ref t∧H t=none∧kvs[i]?=some kv∧H'=upd H t (.tup [kV kv.1,kv.2]),fun i H=>H d=some (.frz od (.dK kvs))∧kvs.length≤i⟩
section
variable {P:Program} {w:World} {K:PySem.W.Frag}
def epOf (o:Obj):Nat:=match o.data with | .dict _ ep=>ep | _=>0
end
section
variable {X:Cx} {o:Expr} {to:TE} {apos cpos:Pos} {elts:List Expr} {x1:Nat} {pos:Pos}
def iItems (X:Cx) (to:TE):TI:=fun σ H R=>to σ H fun x H1=>∃ d kvs,x=.ref d∧H1 d=some (.dK kvs)∧(∀ ob u,X.H₀ d≠some (.frz ob u))∧∀ od,R (Iti d od kvs) (upd H1 d (.frz od (.dK kvs)))
end
def thawE (X:Cx) (D:Ends):Ends where
  nx:=fun σ H=>∃ d od kvs,H d=some (.frz od (.dK kvs))∧(∀ ob u,X.H₀ d≠some (.frz ob u))∧D.nx σ (upd H d (.dK kvs))
  rt:=D.rt
  bk:=D.bk
  ct:=D.ct
end L2
namespace L2
open PySem PySem.Spec PyProof.Rows PySem.SeqAt
def BSc (x y:V) (b:Bool):Prop:=(∃ i j:Int,x=.int i∧y=.int j∧b=decide (i=j))∨∃ i j:Str,x=.str i∧y=.str j∧b=decide (i=j)
def BEq (H:Hp):Nat→V→V→Bool→Prop
  | 0,x,y,b=>BSc x y b
  | n + 1,x,y,b=>BSc x y b∨∃ p q xs ys,x=.ref p∧y=.ref q∧((H p=some (.lst xs)∧H q=some (.lst ys)∧xs.length≠ys.length∧b=false) ∨
      (((H p=some (.lst xs)∧H q=some (.lst ys))∨(H p=some (.tup xs)∧H q=some (.tup ys)))∧xs.length=ys.length∧∃ e:Nat→Bool,(∀ i x y,xs[i]?=some x→ys[i]?=some y→BEq H n x y (e i))∧b=(List.range xs.length).all e))
theorem BSc.self {x:V} {b:Bool} (h:BSc x x b):b=true:=by
  rcases h with ⟨i,j,e1,e2,rfl⟩ | ⟨i,j,e1,e2,rfl⟩
  · rw [e1] at e2
    cases e2
    exact decide_eq_true rfl
  · rw [e1] at e2
    cases e2
    exact decide_eq_true rfl
theorem BEq.self {H:Hp}:∀ {n:Nat} {x:V} {b:Bool},BEq H n x x b→b=true
  | 0,_,_,h=>BSc.self h
  | n + 1,x,b,h=>by
    rcases h with h | ⟨p,q,xs,ys,e1,e2,h⟩
    · exact h.self
    · rw [e1] at e2
      cases e2
      rcases h with ⟨h1,h2,h3,_⟩ | ⟨h1,_,e,he,rfl⟩
      · rw [h1] at h2
        cases h2
        exact absurd rfl h3
      · have exy:xs=ys:=by
          rcases h1 with ⟨h1,h2⟩ | ⟨h1,h2⟩
          · rw [h1] at h2
            cases h2
            rfl
          · rw [h1] at h2
            cases h2
            rfl
        subst exy
        rw [List.all_eq_true]
        intro i hi
        have lt:=List.mem_range.mp hi
        exact BEq.self (he i _ _ (List.getElem?_eq_getElem lt) (List.getElem?_eq_getElem lt))
section
variable {P:Program} {w:World} {H:Hp} {s:Shared}
theorem bsc_at {A:Around} {x y:V} {u v:Value} {b:Bool} (h:BSc x y b) (ru:RelV x u) (rv:RelV y v):EqAt A s u v b:=by
  rcases h with ⟨i,j,rfl,rfl,rfl⟩ | ⟨i,j,rfl,rfl,rfl⟩
  · obtain ⟨t,rfl⟩:=(show ∃ t,u=Value.int i t from ru)
    obtain ⟨t',rfl⟩:=(show ∃ t',v=Value.int j t' from rv)
    have z:=EqAt.int_int (A:=A) (s:=s) i t j t'
    have e:(i == j)=decide (i=j):=by
      by_cases c:i=j
      · rw [decide_eq_true c,beq_iff_eq.mpr c]
      · rw [decide_eq_false c,beq_eq_false_iff_ne.mpr c]
    rw [e] at z
    exact z
  · obtain ⟨t,rfl⟩:=(show ∃ t,u=Value.str i t from ru)
    obtain ⟨t',rfl⟩:=(show ∃ t',v=Value.str j t' from rv)
    have z:=EqAt.str_str (A:=A) (s:=s) i t j t'
    have e:(i == j)=decide (i=j):=by
      by_cases c:i=j
      · rw [decide_eq_true c,beq_iff_eq.mpr c]
      · rw [decide_eq_false c,beq_eq_false_iff_ne.mpr c]
    rw [e] at z
    exact z
theorem beq_rc (ok:HOk P w H s.heap) {A:Around} {n:Nat} {p q:Addr} {xs ys:List V} {b:Bool} (hu:A.units < cLine)
    (rec:∀ x y b,BEq H n x y b→∀ u v,RelV x u→RelV y v→EqAt A.in1 s u v b)
    (h:(H p=some (.lst xs)∧H q=some (.lst ys)∧xs.length≠ys.length∧b=false) ∨
      (((H p=some (.lst xs)∧H q=some (.lst ys))∨(H p=some (.tup xs)∧H q=some (.tup ys)))∧xs.length=ys.length∧∃ e:Nat→Bool,(∀ i x y,xs[i]?=some x→ys[i]?=some y→BEq H n x y (e i))∧b=(List.range xs.length).all e)):RcAt A s (.ref p) (.ref q) b:=by
  rcases h with ⟨h1,h2,h3,rfl⟩ | ⟨h1 | h1,hl,e,he,rfl⟩
  · obtain ⟨us,r1,i1⟩:=isList_of ok h1
    obtain ⟨vs,r2,i2⟩:=isList_of ok h2
    refine RcAt.lists_lengths i1 i2 ?_ hu
    rw [List.size_toArray,List.size_toArray,← r1.length,← r2.length]
    exact bne_iff_ne.mpr h3
  · obtain ⟨us,r1,i1⟩:=isList_of ok h1.1
    obtain ⟨vs,r2,i2⟩:=isList_of ok h1.2
    have l1:=r1.length
    have l2:=r2.length
    have k:=RcAt.lists (A:=A) (e:=e) i1 i2 (by rw [List.size_toArray,List.size_toArray]; omega) hu (fun j a b=>by
      have ja:j < us.length:=by simpa using a
      have jb:j < vs.length:=by simpa using b
      have hx:xs[j]?=some (xs[j]'(by omega)):=List.getElem?_eq_getElem _
      have hy:ys[j]?=some (ys[j]'(by omega)):=List.getElem?_eq_getElem _
      obtain ⟨u,hu',ru⟩:=r1.get hx
      obtain ⟨v,hv',rv⟩:=r2.get hy
      have eu:us[j]=u:=(List.getElem?_eq_some_iff.mp hu').2
      have ev:vs[j]=v:=(List.getElem?_eq_some_iff.mp hv').2
      have z:=rec _ _ _ (he j _ _ hx hy) u v ru rv
      simpa [eu,ev] using z)
    rw [List.size_toArray,← l1] at k
    exact k
  · obtain ⟨us,r1,i1⟩:=isTup_of ok h1.1
    obtain ⟨vs,r2,i2⟩:=isTup_of ok h1.2
    have l1:=r1.length
    have l2:=r2.length
    have k:=RcAt.tuples (A:=A) (e:=e) i1 i2 hu (fun j a b=>by
      have ja:j < us.length:=by simpa using a
      have jb:j < vs.length:=by simpa using b
      have hx:xs[j]?=some (xs[j]'(by omega)):=List.getElem?_eq_getElem _
      have hy:ys[j]?=some (ys[j]'(by omega)):=List.getElem?_eq_getElem _
      obtain ⟨u,hu',ru⟩:=r1.get hx
      obtain ⟨v,hv',rv⟩:=r2.get hy
      have eu:us[j]=u:=(List.getElem?_eq_some_iff.mp hu').2
      have ev:vs[j]=v:=(List.getElem?_eq_some_iff.mp hv').2
      have z:=rec _ _ _ (he j _ _ hx hy) u v ru rv
      simpa [eu,ev] using z)
    have es:(us.toArray.size == vs.toArray.size)=true:=by
      rw [List.size_toArray,List.size_toArray,← l1,← l2,hl]
      exact beq_self_eq_true _
    rw [es,Bool.and_true] at k
    have em:min us.toArray.size vs.toArray.size=xs.length:=by
      rw [List.size_toArray,List.size_toArray]
      omega
    first
      | (rw [em] at k; exact k)
      | (rw [List.size_toArray,← l1] at k; exact k)
theorem beq_at (ok:HOk P w H s.heap):∀ {n:Nat} {A:Around} {x y:V} {u v:Value} {b:Bool},A.units + n < cLine→BEq H n x y b→RelV x u→RelV y v→EqAt A s u v b
  | 0,A,x,y,u,v,b,_,h,ru,rv=>bsc_at h ru rv
  | n + 1,A,x,y,u,v,b,hu,h,ru,rv=>by
    rcases id h with h' | ⟨p,q,xs,ys,rfl,rfl,h'⟩
    · exact bsc_at h' ru rv
    · cases ru
      cases rv
      by_cases e:p=q
      · subst e
        rw [BEq.self h]
        exact EqAt.same _
      · exact EqAt.of_refs e (beq_rc ok (by omega) (fun x y b z u v ru rv=>beq_at ok (by show A.units + 1 + n < cLine; omega) z ru rv) h')
end
section
variable {X:Cx}
theorem op_eqB (hu:X.A.units + 50 < cLine):OpR X (compareOp .Eq) (fun x y H Q=>∃ n p q b,n≤20∧x=.ref p∧y=.ref q∧BEq H n x y b∧Q (.bl b) H):=by
  intro pins s σ H x y v u Q I rx ry h
  obtain ⟨n,p,q,b,hn,rfl,rfl,d,k⟩:=h
  cases rx
  cases ry
  have fin:EP X pins σ Q (.bool b) s:=⟨.bl b,H,I,rfl,k⟩
  cases n with
  | zero =>
    rcases d with ⟨_,_,e,_⟩ | ⟨_,_,e,_⟩
    · cases e
    · cases e
  | succ n =>
    rcases d with d | ⟨p',q',xs,ys,e1,e2,d⟩
    · rcases d with ⟨_,_,e,_⟩ | ⟨_,_,e,_⟩
      · cases e
      · cases e
    · cases e1
      cases e2
      exact beq_rc I.hok (by omega) (fun x y b z u v ru rv=>beq_at I.hok (by show X.A.units + 1 + n < cLine; omega) z ru rv) d X.prog X.w _ _ fin
end
end L2
namespace L2
open PySem PySem.Spec PyProof.Rows
section
variable {prog:Program} {w:World} {A:Around} {E:Value→Shared→Prop} {s:Shared}
end
section
variable {X:Cx}
end
end L2
namespace L2
open PySem PySem.Spec PyProof.Rows
structure XCls (K:PySem.W.Frag) (C:Addr):Prop where
  ga:PySem.W.findIn K (.ref C) "__getattribute__"=some (some (.builtin "BaseException.__getattribute__"))
  gh:PySem.W.findIn K (.ref C) "__getattr__"=some none
  cl:PySem.W.findIn K (.ref C) "__class__"=some (some (.builtin "object.__class__"))
  cn:PySem.W.specialIn K (.builtin "object.__class__") "__get__"=some (some (.builtin "getset_descriptor.__get__"))
  ck:PySem.W.takesIn K (.builtin "object.__class__")=some true
  ob:PySem.W.mroIn K C (.type "object")=some true
  be:PySem.W.mroIn K C (.type "BaseException")=some true
theorem XCls.cs {K:PySem.W.Frag} {C:Addr} (c:XCls K C):∃ cd,PySem.W.clsIn K C=some cd:=by
  obtain ⟨cd,a,_⟩:=Option.bind_eq_some_iff.mp c.ob
  exact ⟨cd,a⟩
section
variable {prog:Program} {w:World} {A:Around} {E:Value→Shared→Prop} {s:Shared} {K:PySem.W.Frag} {x C:Addr} {ox:Obj}
theorem exc_check {nameV:Value} {Q:Unit→Shared→Prop} (X:K.In s.heap) (I:PySem.W.InstAt s.heap x ox C none) (c:XCls K C) (h:Q () s):wpAny (model prog w) A (checkBuiltinCall "BaseException.__getattribute__" ⟨[.ref x,nameV],[]⟩) Q E s:=by
  obtain ⟨hh,g,d,t,os⟩:=s
  have hk:builtinKind "BaseException.__getattribute__"=some .slot:=by decide +kernel
  have hsplit:splitId "BaseException.__getattribute__"=some ("BaseException","__getattribute__"):=by decide +kernel
  have ha:=F.args_bexc_ga (.ref x) nameV
  have L0:=I.type (M:=model prog w)
  have L1:=PySem.W.looks_mroIn (M:=model prog w) X c.be
  simp only [checkBuiltinCall,hk,hsplit]
  refine wpAny_bind ?_
  unfold isInstance
  refine wpAny_bind (L0.at (L1.at ?_))
  repeat (first | assumption | wp_step)
theorem exc_class {Q:Option Value→Shared→Prop} (X:K.In s.heap) (I:PySem.W.InstAt s.heap x ox C none) (c:XCls K C) (h:Q (some (.ref C)) {s with toks:=s.toks + 1}):wpAny (model prog w) A (getAttr? (.ref x) "__class__") Q E s:=by
  have L0:=I.type (M:=model prog w)
  have L1:=PySem.W.looks_findIn (M:=model prog w) X c.ga
  have L2':=PySem.W.looks_findIn (M:=model prog w) X c.gh
  have hf:PySem.W.findObj K C none "__class__"=some (.bind (.builtin "getset_descriptor.__get__") (.builtin "object.__class__")):=by
    obtain ⟨cd,hc⟩:=c.cs
    unfold PySem.W.findObj
    rw [hc,Option.bind_some,c.cl,Option.bind_some]
    simp [c.cn,c.ck]
  have L3:=PySem.W.looks_find (M:=model prog w) X I hf
  obtain ⟨hh,g,d,t,os⟩:=s
  unfold getAttr? getAttrBy? getAttrBy
  refine wpAny_bind (wpAny_mkText (wpAny_bind (wpAny_attempt (wpAny_holding (wpAny_bind (L0.at (wpAny_bind (L1.at ?_))))))))
  dsimp only
  rw [if_neg (show ¬ ((onTheHeap (Value.ref C) && Value.builtin "BaseException.__getattribute__" == Value.builtin "object.__getattribute__")=true) by rw [show (Value.builtin "BaseException.__getattribute__" == Value.builtin "object.__getattribute__")=false by decide +kernel,Bool.and_false]; decide)]
  unfold getAttrByItsOwn hookBefore
  rw [if_pos (show onTheHeap (Value.ref C)=true from rfl)]
  refine wpAny_bind (L2'.at (wpAny_bind (wpAny_attempt (wpAny_holding ?_))))
  unfold callGetattribute boundAndCalled
  rw [if_neg (show ¬ ((false && onTheHeap (Value.builtin "BaseException.__getattribute__"))=true) by decide),F.excAttr_ValueError.ga.bind]
  refine wpAny_bind (wpAny_pure (wpAny_call (codeAny_call_builtin F.excAttr_ValueError.ga.plain F.entry_bexc_ga (exc_check (s:=⟨hh,g,d,t + 1,os⟩) X I c ?_))))
  have fin:∀ (A':Around) (R:Result→Shared→Prop),R (.ok (.ret (.ref C))) ⟨hh,g,d,t + 1,os⟩→codeAny (model prog w) A' (.call (.builtin "getset_descriptor.__get__") ⟨[.builtin "object.__class__",.ref x,.ref C],[]⟩) R ⟨hh,g,d,t + 1,os⟩:=fun A' R q=>PySem.W.class_get (s:=⟨hh,g,d,t + 1,os⟩) X I c.ob q
  unfold Builtin.«object.__getattribute__» slotArgs
  refine wpAny_bind (wpAny_pure ?_)
  refine wpAny_bind (wpAny_pure ?_)
  refine wpAny_bind (L0.at (wpAny_bind (L3.at ?_)))
  unfold Builtin.ObjectAttr.bindTo
  refine wpAny_bind (wpAny_holding (wpAny_call (fin _ _ ?_)))
  refine wpAny_pure ?_
  exact PySem.W.handed_on rfl (wpAny_pure h)
theorem kitx_exc (c:XCls K C):PySem.W.KitX K (.ref x) (.ref C) (fun h=>PySem.W.InstAt h x ox C none) where
  ty:=fun _ _ _ I=>I.type
  it:=fun _ _ X _=>by
    obtain ⟨cd,hc⟩:=c.cs
    unfold PySem.W.clsIn at hc
    split at hc
    · rename_i c' d' cd' sl' ho
      intro A' Q' E' s' k q
      unfold isType loadHead
      exact wpAny_bind (wpAny_loadPart (k _ _ (X _ _ ho)) (wpAny_pure q))
    · cases hc
  ne:=fun h tp dd its n sl X htp=>by
    obtain ⟨cd,hc⟩:=c.cs
    refine Bool.eq_false_iff.mpr fun q=>?_
    have e:C=tp:=Value.ref.inj (beq_iff_eq.mp q)
    subst e
    unfold PySem.W.clsIn at hc
    split at hc
    · rename_i c' d' cd' sl' ho
      have z:=(X _ _ ho).symm.trans htp
      cases z
    · cases hc
  ca:=fun X I k=>exc_class X I c k
end
def XOk (a C:Addr) (h:Heap):Prop:=∃ ob,h.get? a=some ob∧ob.cls=.ref C∧ob.dict=none∧PySem.W.notCls ob=true
def XO (a C:Addr):HO:=.ext (XOk a C)
section
variable {X:Cx} {pins:List (Addr×Obj)} {σ:St} {H:Hp} {s:Shared}
end
section
variable {P:Program} {w:World} {H:Hp} {h h':Heap} {a:Addr} {o:HO} {fs ex:List Addr}
theorem Un.laidN (k:∀ b u,h.get? b=some u→h'.get? b=some u) (hp:h.get? a=none) (hn:H a=none):Un fs ex H (upd H a o) h h' where
  keep:=fun b u q _ _ _=>k b u q
  slot:=fun b u q _ _ _=>⟨u.slots,k b u q⟩
  free:=fun b u q n _=>by
    rw [upd_ne (fun z=>by rw [z,hp] at q; cases q)]
    exact n
  there:=fun b u q _=>⟨u,k b u q⟩
  tups:=fun b xs q=>by rw [upd_ne (ne_of_none q hn)]; exact q
  frzs:=fun b u xs q=>by rw [upd_ne (ne_of_none q hn)]; exact q
  tbls:=fun b ps q=>⟨#[],by rw [upd_ne (ne_of_none q hn),q]; simp⟩
theorem HOk.laidN (x:HOk P w H h) (k:∀ b u,h.get? b=some u→h'.get? b=some u) (hn:H a=none) (new:ObjOk P w (upd H a o) h' a o):HOk P w (upd H a o) h':=fun b u e=>by
  by_cases hb:b=a
  · subst hb; rw [upd_same] at e; cases e; exact new
  · rw [upd_ne hb] at e
    exact (x b u e).stay (fun c v _ q=>k c v q) (fun c q=>by rw [upd_ne (ne_of_none q hn)]; exact q) fun c xs q=>by rw [upd_ne (ne_of_none q hn)]; exact q
end
section
variable {X:Cx} {pins:List (Addr×Obj)} {σ:St} {H:Hp} {s:Shared} {C:Addr} {x:Str} {p pos:Pos} {e:Expr} {es:List Expr} {t:TA}
def tMakeX (C:Addr) (t:TA):TE:=fun σ H Q=>t σ H fun vs H1=>vs.length≤sizeLine∧∀ a,H1 a=none→Q (.ref a) (upd H1 a (XO a C))
end
section
variable {X:Cx} {CX:CXT} {k:Nat} {f C:Addr} {fd:FuncData} {ps:List Str} {sp:Sp} {E:XK} {m:Str} {pos apos:Pos} {o:Expr} {ta:TE}
def tMethX (C:Addr) (sp:Sp) (E:XK) (ta:TE):TE:=fun σ H Q=>ta σ H fun x H1=>∃ a,x=.ref a∧H1 a=some (XO a C)∧sp [.ref a] H1 Q E
end
section
variable {X:Cx} {pins:List (Addr×Obj)} {σ:St} {H:Hp} {s:Shared}
theorem unbind_ok {M:Model} {A:Around} {E:Value→Shared→Prop} {i:Nat} {x:Str} {v:V} {Q:Unit→Shared→Prop} (I:Inv X pins σ H s) (hN:X.N.Nodup) (hi:X.N[i]?=some x) (hk:X.env.scope.names.lookup x=some .local) (hv:σ[i]?=some (some v))
    (h:∀ s',Inv X pins (σ.set i none) H s'→Q () s'):wpAny M A (unbindName X.env x) Q E s:=by
  obtain ⟨m,hn,hl⟩:=id I.loc
  have hcls:(X.env.scope.kind == .class || (X.env.scope.kind == .module && X.env.locals != X.env.globals))=false:=by rw [I.ok.kind]; rfl
  have hkd:X.env.kindOf x=some .local:=hk
  have hmx:(m x).isSome=true:=by
    obtain ⟨u,_,q⟩:=hl i x v hi hv (.inl hk)
    rcases q with ⟨_,e⟩ | ⟨k,_⟩
    · rw [e]; rfl
    · rw [hkd] at k
      rcases k with k | k <;> cases k
  unfold unbindName
  refine wpAny_bind (wpAny_point (wpAny_bind ?_))
  unfold deleteName
  simp only [hkd,hcls]
  rw [if_neg (by decide)]
  refine wpAny_bind (wpAny_nsDel_keeps hn fun h' v' hn' hs=>?_)
  rw [hmx]
  simp only [Bool.not_true,Bool.false_eq_true,if_false]
  refine wpAny_pure (wpAny_point (h _ ?_))
  obtain ⟨oL,_,_,hoL,_⟩:=id hn
  have cne:=I.cne
  have below:∀ b o,X.s₀.heap.get? b=some o→b≠X.env.locals:=fun b o e=>Nat.ne_of_lt (Nat.lt_of_lt_of_le (Heap.lt_size e) I.ok.above)
  refine ⟨I.ok,I.os,I.bare,⟨fun b o e n hb hx=>(hs.2 b (below b o e)).trans (I.base.keep b o e n hb hx),fun b o e n hb hx=>?_,I.base.free,fun b o e hx=>?_,I.base.tups,I.base.frzs,I.base.tbls⟩,⟨_,hn',fun j y v2 e1 e2 e3=>?_⟩,fun y c e=>?_,I.free,I.freeC,fun p hp=>?_,fun b ob e=>?_,by simpa using I.len⟩
  · obtain ⟨sl,e1⟩:=I.base.slot b o e n hb hx
    exact ⟨sl,(hs.2 b (below b o e)).trans e1⟩
  · obtain ⟨o',e1⟩:=I.base.there b o e hx
    exact ⟨o',(hs.2 b (below b o e)).trans e1⟩
  · by_cases hj:j=i
    · subst hj
      have hlt:j < σ.length:=(List.getElem?_eq_some_iff.mp hv).1
      rw [List.getElem?_set_self hlt] at e2
      cases e2
    · rw [List.getElem?_set_ne (Ne.symm hj)] at e2
      obtain ⟨u',r',q⟩:=hl j y v2 e1 e2 e3
      refine ⟨u',r',?_⟩
      rcases q with ⟨k,e⟩ | ⟨k,c,e,z⟩
      · refine .inl ⟨k,?_⟩
        have hne:y≠x:=fun e=>hj (nodup_ix hN e1 (e ▸ hi))
        simp [hne,e]
      · exact .inr ⟨k,c,e,z.sameBut hs (cne y c e)⟩
  · obtain ⟨w',z⟩:=I.cell y c e
    exact ⟨w',z.sameBut hs (cne y c e)⟩
  · obtain ⟨e,n,ne,nf,d⟩:=I.pin p hp
    exact ⟨(hs.2 p.1 ne).trans e,n,ne,nf,d⟩
  · refine (I.hok b ob e).stay (fun c w' hc q=>(hs.2 c ?_).trans q) (fun _ q=>q) fun _ _ q=>q
    rintro rfl
    rcases hc with rfl | hc
    · rw [I.free] at e; cases e
    · rw [I.free] at hc; cases hc
def dropE (i:Nat) (D:Ends):Ends:={nx:=fun σ H=>D.nx (σ.set i none) H,rt:=D.rt,bk:=fun σ H=>D.bk (σ.set i none) H,ct:=fun σ H=>D.ct (σ.set i none) H}
def thAs (K:PySem.W.Frag) (Ci:Addr) (i:Nat) (t:TS) (th:TH):TH:=fun C D σ H =>
  (PySem.W.exmOne K (.ref C) (.ref Ci)=some true∧∀ ea,H ea=none→t (dropE i D) (σ.set i (some (.ref ea))) (upd H ea (XO ea C)))∨(PySem.W.exmOne K (.ref C) (.ref Ci)=some false∧th C D σ H)
theorem goes_ok {M:Model} {A:Around} {E:Value→Shared→Prop} {i:Nat} {x:Str} {pos:Pos} {Q:Unit→Shared→Prop} (I:Inv X pins σ H s) (hN:X.N.Nodup) (hi:X.N[i]?=some x) (hk:X.env.scope.names.lookup x=some .local)
    (h:∀ s',Inv X pins (σ.set i none) H s'→Q () s'):wpAny M A (do bindName X.env x .none; unbindBehindTheSuite X.env x pos) Q E s:=by
  have hlt:i < σ.length:=by
    rw [I.len]
    exact (List.getElem?_eq_some_iff.mp hi).1
  refine wpAny_bind (wpAny_bindName (store_ok (v:=.non) I hN hi (.inl hk) rfl (fun s1 I1=>?_) (.inr hk)))
  unfold unbindBehindTheSuite
  refine wpAny_onRaise (unbind_ok (v:=.non) I1 hN hi hk (List.getElem?_set_self hlt) fun s2 I2=>h s2 ?_)
  rw [List.set_set] at I2
  exact I2
end
end L2
namespace L2
open PySem PySem.Spec PyProof.Rows
section
variable {X:Cx} {pins:List (Addr×Obj)} {σ:St} {H:Hp} {s s2:Shared} {h':Heap}
theorem Inv.turned2 {t':Nat} {e it:Addr} (I:Inv X pins σ H s) (k:∀ b o,b≠e→b≠it→s.heap.get? b=some o→h'.get? b=some o) (f:FpOk X pins H e) (g:FpOk X pins H it):Inv X pins σ H {s with heap:=h',toks:=t'}:=by
  have ne1:∀ b u,H b=some u→b≠e:=fun b u q z=>by rw [z,f.1] at q; cases q
  have ne2:∀ b u,H b=some u→b≠it:=fun b u q z=>by rw [z,g.1] at q; cases q
  obtain ⟨f0,f1,f2,f3,f4,f5⟩:=f
  obtain ⟨g0,g1,g2,g3,g4,g5⟩:=g
  refine I.step (g':=s.gens) (d':=s.drawn) (ch:=[e,it]) (fun b hb=>?_) (fun b o _ _ hc q _=>k b o (fun z=>hc (by simp [z])) (fun z=>hc (by simp [z])) q) (fun b o _ _ hc q _=>⟨o.slots,k b o (fun z=>hc (by simp [z])) (fun z=>hc (by simp [z])) q⟩) (fun _ _ _ _ n=>n)
    (fun b o hc q=>⟨o,k b o (fun z=>hc (by simp [z])) (fun z=>hc (by simp [z])) q⟩) (fun _ _ q=>q) (fun _ _ _ q=>q) (fun b ps q=>⟨#[],by rw [q]; simp⟩) (fun m hm=>?_) (fun b u q=>?_) I.bare
  · rcases List.mem_cons.mp hb with z | z
    · subst z
      exact ⟨f3,f1,f4,f5⟩
    · have z:=List.mem_singleton.mp z
      subst z
      exact ⟨g3,g1,g4,g5⟩
  · obtain ⟨o,es,ep,ho,r⟩:=hm
    exact ⟨o,es,ep,k _ o (Ne.symm f1) (Ne.symm g1) ho,r⟩
  · refine (I.hok b u q).stay (fun c v hc q'=>k c v ?_ ?_ q') (fun _ q=>q) fun _ _ q=>q
    · rcases hc with z | z
      · rw [z]; exact ne1 b u q
      · exact ne1 c _ z
    · rcases hc with z | z
      · rw [z]; exact ne2 b u q
      · exact ne2 c _ z
theorem Inv.track {o:HO} (I:Inv X pins σ H s) (I2:Inv X pins σ H s2) (ok:ObjOk X.prog X.w (upd H s.heap.objs.size o) s2.heap s.heap.objs.size o):Inv X pins σ (upd H s.heap.objs.size o) s2:=by
  have fr:H s.heap.objs.size=none:=I.hok.fresh (Nat.le_refl _)
  exact ⟨I2.ok,I2.os,I2.bare,⟨I2.base.keep,I2.base.slot,fun b ob q n hx=>by
      have z:=I2.base.free b ob q n hx
      by_cases y:b=s.heap.objs.size
      · exfalso
        have lt:b < s.heap.objs.size:=Nat.lt_of_lt_of_le (Heap.lt_size q) I.sz
        rw [y] at lt
        exact absurd lt (Nat.lt_irrefl _)
      · rw [upd_ne y]
        exact z,I2.base.there,fun b xs q=>by
      rw [upd_ne (ne_of_none (I2.base.tups b xs q) fr)]
      exact I2.base.tups b xs q,fun b ob v q=>by
      rw [upd_ne (ne_of_none (I2.base.frzs b ob v q) fr)]
      exact I2.base.frzs b ob v q,fun b ps q=>by
      obtain ⟨m,z⟩:=I2.base.tbls b ps q
      exact ⟨m,by rw [upd_ne (ne_of_none z fr)]; exact z⟩⟩,I2.loc,I2.cell,by
      rw [upd_ne (Nat.ne_of_lt I.lt)]
      exact I2.free,fun x c q=>by
      obtain ⟨v,y⟩:=I.cell x c q
      rw [upd_ne (Nat.ne_of_lt y.lt)]
      exact I2.freeC x c q,fun p hp=>by
      obtain ⟨h1,h2',h3⟩:=I2.pin p hp
      obtain ⟨g1,_⟩:=I.pin p hp
      refine ⟨h1,?_,h3⟩
      rw [upd_ne (Nat.ne_of_lt (Heap.lt_size g1))]
      exact h2',fun b v q=>by
      by_cases y:b=s.heap.objs.size
      · subst y
        rw [upd_same] at q
        cases q
        exact ok
      · rw [upd_ne y] at q
        exact (I2.hok b v q).stay (fun c v' _ z=>z) (fun c z=>by rw [upd_ne (ne_of_none z fr)]; exact z) fun c xs z=>by rw [upd_ne (ne_of_none z fr)]; exact z,I2.len⟩
end
def Ite (K:PySem.W.Frag) (a:Addr):It:=
  ⟨fun i H=>∃ xs x,SqL K H a xs∧xs[i]?=some x,fun i H x H'=>∃ t y,x=.ref t∧H t=none∧(∀ xs,SqL K H a xs→xs[i]?=some y)∧H'=upd H t (.tup [.int i,y]),fun i H=>∃ xs,SqL K H a xs∧xs.length≤i⟩
section
variable {P:Program} {w:World} {K:PySem.W.Frag}
theorem turn_enum {elts:List Expr} {x1} {pos:Pos} (a e it:Addr) (hne:e≠it):Turn P w K (.Tuple elts x1 pos) (Ite K a) [e,it] e (fun i h=>∃ old,IsEnum h e it (i:Int) old∧h.IsListIter it a i) where
  mem:=by simp
  obj:=fun i h st b hb=>by
    obtain ⟨old,h1,h2⟩:=st
    rcases List.mem_cons.mp hb with z | z
    · subst z
      exact ⟨_,h1,fun v z=>by cases z⟩
    · have z:=List.mem_singleton.mp z
      subst z
      obtain ⟨o,e,c,d⟩:=h2
      exact ⟨o,e,fun v z=>by rw [d] at z; cases z⟩
  keep:=fun i h h' ⟨old,h1,h2⟩ k=>⟨old,k e (by simp) _ h1,h2.at fun o q=>k it (by simp) o q⟩
  item:=by
    intro X hP hw hK hc i pins s σ H E I hf st hg
    subst hP hw hK
    obtain ⟨old,st1,st2⟩:=st
    obtain ⟨xs,x,hq,hx⟩:=hg
    obtain ⟨its,rv,p,hz⟩:=I.list hq
    obtain ⟨u,hu,ru⟩:=rv.get hx
    have F1:=hf e (by simp)
    have F2:=hf it (by simp)
    obtain ⟨f0,f1,f2,f3,f4,f5⟩:=id F1
    refine wpAny_pyNext_enum_item st1 st2 p.isList (x:=u) (by simpa using hu) hne fun h' a1 a2 a3 a4 a5=>?_
    have I1:Inv X pins σ H {s with heap:=h',toks:=s.toks + 1}:=I.turned2 (t':=s.toks + 1) (fun b o h1 h2 q=>a5 b o h1 h2 q) F1 F2
    refine ⟨_,rfl,wpAny_letOwnedTupleGo_enum a1 fun h2 e2 sb=>?_⟩
    have I2:Inv X pins σ H {s with heap:=h2,toks:=s.toks + 1}:=I1.turned (t':=s.toks + 1) (fun b o hb q=>sb.extBut b o hb q) f0 f1 f3 f4 f5
    have fr:H s.heap.objs.size=none:=I.hok.fresh (Nat.le_refl _)
    have n1:s.heap.objs.size≠e:=(Nat.ne_of_lt (Heap.lt_size st1)).symm
    have n2:s.heap.objs.size≠it:=by
      obtain ⟨o,q,_⟩:=st2
      exact (Nat.ne_of_lt (Heap.lt_size q)).symm
    have t2:=sb.extBut _ _ n1 a3
    have I3:=I.track I2 (o:=.tup [.int i,x]) ⟨(by show 2≤sizeLine; decide),[.int i s.toks,u],.cons ⟨_,rfl⟩ (.cons ru .nil),_,t2,rfl,0,rfl⟩
    refine ⟨.ref s.heap.objs.size,_,I3,rfl,⟨_,x,rfl,fr,fun ys hy=>by rw [I.list_inj hy hq]; exact hx,rfl⟩,⟨u,e2,a2.extBut sb.extBut (Ne.symm hne)⟩,fun b hb=>?_⟩
    rcases List.mem_cons.mp hb with z | z
    · rw [z,upd_ne (Ne.symm n1)]
      exact f0
    · rw [List.mem_singleton.mp z,upd_ne (Ne.symm n2)]
      exact F2.1
  done:=by
    intro X hP hw hK hc i pins s σ H E I hf st hg
    subst hP hw hK
    obtain ⟨old,st1,st2⟩:=st
    obtain ⟨xs,hq,hx⟩:=hg
    obtain ⟨its,rv,p,hz⟩:=I.list hq
    obtain ⟨f0,f1,f2,f3,f4,f5⟩:=hf it (by simp)
    have hl:=rv.length
    exact wpAny_pyNext_enum_end (I.ok.hd hc) st1 st2 p.isList (by simp; omega) fun h' eb=>⟨rfl,I.turned (t':=s.toks) (fun b o hb e=>eb b o hb e) f0 f1 f3 f4 f5⟩
  self:=fun A i s Q E ⟨old,st,_⟩ h=>by
    have ty:s.TypeIs (.ref e) "enumerate":=⟨_,st,rfl⟩
    refine wpAny_pyIter_slot ty F.slot_enumerate_iter (wpAny_call_entry F.slot_enumerate_iter ty F.entry_enumerate_iter ?_ (F.args_enumerate_iter_1 _))
    show wpAny _ _ (ret (.ref e)) _ _ s
    exact wpAny_pure ⟨_,rfl,"enumerate",_,ty,F.slot_enumerate_next.lookup,h⟩
end
section
variable {X:Cx} {elts:List Expr} {x1:Nat} {tpos pos p:Pos}
def iEnum (K:PySem.W.Frag) (tl:TA):TI:=fun σ H R=>tl σ H fun vs H1=>∃ a,vs=[.ref a]∧(∃ xs,SqL K H1 a xs)∧R (Ite K a) H1
theorem pi_enum {a:Expr} {ta:TA} (hg:Gl X "enumerate") (hm:X.mg "enumerate"=none) (ha:PA X [a] ta) (hs:starEach [a] X.env=[(false,eval a X.env)]:=by rfl):PI X (.Tuple elts x1 tpos) (.Call (.Name "enumerate" p) [a] [] pos) (iEnum X.K ta):=by
  intro pins s σ H R I h
  refine Call_ (ld_blt I hg hm boot_enumerate (PyProof.Rows.callWith_type1 (thn (ha pos pins s σ H _ I h) fun us s1 ⟨vs,H1,I1,r1,q1⟩=>?_) hs rfl))
  obtain ⟨l,e,⟨xs,hq⟩,q⟩:=q1
  subst e
  obtain ⟨u,rfl,ru⟩:=vals1 r1
  cases ru
  obtain ⟨its,rv,pl,hz⟩:=I1.list hq
  refine call_enumerate_list pl.isList fun h' e1 e2 e3 e4=>?_
  have I2:Inv X pins σ H1 {s1 with heap:=h'}:=I1.kept (t':=s1.toks) e4
  have ty:({s1 with heap:=h'}:Shared).TypeIs (.ref (s1.heap.objs.size + 1)) "enumerate":=⟨_,e1,rfl⟩
  refine wpAny_pyIter_slot ty F.slot_enumerate_iter (wpAny_call_entry F.slot_enumerate_iter ty F.entry_enumerate_iter ?_ (F.args_enumerate_iter_1 _))
  show wpAny _ _ (ret (.ref (s1.heap.objs.size + 1))) _ _ _
  refine wpAny_pure ⟨_,rfl,"enumerate",_,ty,F.slot_enumerate_next.lookup,?_⟩
  refine ⟨_,[_,_],_,_,H1,rfl,I2,turn_enum l _ s1.heap.objs.size (Nat.succ_ne_self _),⟨.none,e1,e2⟩,fun b hb=>?_,q⟩
  rcases List.mem_cons.mp hb with z | z
  · rw [z]
    exact I1.fpOk (Nat.le_succ _) (I1.hok.fresh (Nat.le_succ _))
  · rw [List.mem_singleton.mp z]
    exact I1.fpOk (Nat.le_refl _) (I1.hok.fresh (Nat.le_refl _))
end
section
variable {prog:Program} {w:World} {A:Around} {E:Value→Shared→Prop} {s:Shared}
end
section
variable {X:Cx} {e:Expr} {t:TA} {p pos kp bp:Pos} {j:Nat}
def tSortR (t:TA):TE:=fun σ H Q=>t σ H fun vs H1=>∃ p xs,vs=[.ref p]∧H1 p=some (.lst xs)∧xs.length < 2∧∀ l,H1 l=none→Q (.ref l) (upd H1 l (.lst xs))
end
section
variable {X:Cx}
def tTryE (T:Addr→St→Hp→Prop) (tb:TS) (th:TH) (te:TS):TS:=fun D σ H=>tb {D with nx:=te D} σ H∧∀ C σ' H',σ'.length=σ.length→T C σ' H'→th C D σ' H'
end
abbrev freeA (A:Around):Around:={A with handled:=none}
structure FnOkH (P:Program) (w:World) (K:PySem.W.Frag) (mg:Str→Option Value) (base:Heap) (CX:CXT) (k:Nat) (f:Addr) (fd:FuncData) (ps:List Str) (sp:Sp):Prop where
  len:∀ vs H Q E,sp vs H Q E→vs.length=ps.length
  run:∀ (A:Around) (outer:List Env) (s:Shared) (H:Hp) (args:Args) (us:List Value) (vs:List V) (Q:VK) (E:XK),Room k (freeA A)→Env0 P w K mg base A outer s H→BindsTo s fd args (ps.zip us)→Vals vs us→sp vs H Q E →
    codeAny (model P w) A (.call (.ref f) args) (CR CX outer P w H s Q E) s
section
variable {X:Cx} {CX:CXT} {k:Nat} {ι:Type} {fm C:ι→Addr} {fd:ι→FuncData} {ps:List Str} {sp:ι→Sp} {E:XK} {m:Str} {pos apos:Pos} {o:Expr} {ta:TE}
def tMethXs (C:ι→Addr) (sp:ι→Sp) (E:XK) (ta:TE):TE:=fun σ H Q=>ta σ H fun x H1=>∃ a i,x=.ref a∧H1 a=some (XO a (C i))∧sp i [.ref a] H1 Q E
end
end L2
namespace L2
open PySem PySem.Spec PyProof.Rows
section
variable {X:Cx}
def rSlS:V→Option Int→Option Int→Hp→VK→Prop:=fun x lo hi H Q=>∃ y,x=.str y∧y.length≤sizeLine∧Q (.str (Txt.slice y lo hi)) H
theorem sl_str:SlR X rSlS:=by
  intro pins s σ H x v vl vu lo hi sl Q I rx hs pl pu h
  obtain ⟨y,rfl,hy,q⟩:=h
  obtain ⟨t,rfl⟩:=rx
  have fin:∀ (l u:Option (Int×Tok)),Txt.slice y (l.map (·.1)) (u.map (·.1))=Txt.slice y lo hi→s.heap.IsSlice sl l u none→∃ T id,typeLookup (.type T) "__getitem__"=pure (some (.builtin id))∧s.TypeIs (.str y t) T∧wpAny (model X.prog X.w) X.A (getItem (.str y t) (.ref sl)) (EP X pins σ Q) X.xe s:=fun l u e h=>by
    refine ⟨"str",_,F.slot_str_getitem.lookup,typeIs_str _ _ _,wpAny_getItem_str_slice (l:=l) (u:=u) (st:=none) h rfl (post_val_or_str ⟨Nat.le_trans (Txt.slice_le y (l.map (·.1)) (u.map (·.1))) hy,fun t' k=>?_⟩)⟩
    exact ⟨.str (Txt.slice y lo hi),H,I.tok _,⟨t',by rw [← e]; rfl⟩,q⟩
  cases pl with
  | none=>cases pu with
    | none=>exact fin none none rfl hs
    | int j u=>exact fin none (some (j,u)) rfl hs
  | int i u=>cases pu with
    | none=>exact fin (some (i,u)) none rfl hs
    | int j u'=>exact fin (some (i,u)) (some (j,u')) rfl hs
end
end L2
namespace L2
open PySem PySem.Spec PyProof.Rows PySem.Builtin.Str
def Its (x:Str):It:=⟨fun i _=>i < x.cps.size,fun i H v H'=>H'=H∧∃ c,x.cps[i]?=some c∧v=.str ⟨#[c]⟩,fun i _=>i=x.cps.size⟩
theorem iter_ty (x:Str):strIterType x="str_ascii_iterator"∨strIterType x="str_iterator":=by
  unfold strIterType
  split <;> simp
theorem turn_text {P:Program} {w:World} {K:PySem.W.Frag} {tg:Expr} (it:Addr) (x:Str) (t:Tok):Turn P w K tg (Its x) [it] it (fun i h=>h.IsStrIter it (strIterType x) x t i) where
  mem:=by simp
  obj:=fun i h st b hb=>by
    have e:b=it:=by simpa using hb
    subst e
    obtain ⟨o,e,c,d⟩:=st
    exact ⟨o,e,fun v z=>by rw [d] at z; cases z⟩
  keep:=fun i h h' st k=>by
    obtain ⟨o,e,r⟩:=st
    exact ⟨o,k it (by simp) o e,r⟩
  item:=by
    intro X hP hw hK hc i pins s σ H E I hf st hg
    subst hP hw hK
    obtain ⟨f0,f1,f2,f3,f4,f5⟩:=hf it (by simp)
    have go:∀ (v:Value) (h':Heap) (tk:Nat),SignAt x i v→h'.IsStrIter it (strIterType x) x t (i + 1)→(∀ b o,b∉[it]→s.heap.get? b=some o→h'.get? b=some o)→∃ u,some v=some u ∧
      wpAny (model X.prog X.w) X.A (letOwnedTupleGo tg (.ref it) u) (fun _ s2=>∃ y H',Inv X pins σ H' s2∧RelV y u∧(Its x).yld i H y H'∧s2.heap.IsStrIter it (strIterType x) x t (i + 1)∧∀ b∈[it],H' b=none) E {s with heap:=h',toks:=tk}:=by
      rintro v h' tk ⟨c,u,hc',rfl⟩ st' kk
      have I1:Inv X pins σ H {s with heap:=h',toks:=tk}:=I.turned (fun b o hb e=>kk b o (by simpa using hb) e) f0 f1 f3 f4 f5
      obtain ⟨o,e,cl,d⟩:=id st'
      refine ⟨_,rfl,go_of (s:={s with heap:=h',toks:=tk}) e cl d (by rcases iter_ty x with z | z <;> rw [z] <;> decide) ⟨.str ⟨#[c]⟩,H,I1,⟨u,rfl⟩,⟨rfl,c,hc',rfl⟩,st',fun b hb=>(hf b hb).1⟩⟩
    rcases iter_ty x with z | z
    · rw [z] at st go ⊢
      exact (Walks.strAscii (prog:=X.prog) (w:=X.w) (I.ok.hd hc) it x t).item i s _ _ hg st fun v h' tk a b c=>go v h' tk a b c
    · rw [z] at st go ⊢
      exact (Walks.strWide (prog:=X.prog) (w:=X.w) (I.ok.hd hc) it x t).item i s _ _ hg st fun v h' tk a b c=>go v h' tk a b c
  done:=by
    intro X hP hw hK hc i pins s σ H E I hf st hg
    subst hP hw hK
    obtain ⟨f0,f1,f2,f3,f4,f5⟩:=hf it (by simp)
    cases (show i=x.cps.size from hg)
    rcases iter_ty x with z | z
    · rw [z] at st
      exact (Walks.strAscii (prog:=X.prog) (w:=X.w) (I.ok.hd hc) it x t).done s _ _ st fun h' tk kk=>⟨rfl,I.turned (fun b o hb e=>kk b o (by simpa using hb) e) f0 f1 f3 f4 f5⟩
    · rw [z] at st
      exact (Walks.strWide (prog:=X.prog) (w:=X.w) (I.ok.hd hc) it x t).done s _ _ st fun h' tk kk=>⟨rfl,I.turned (fun b o hb e=>kk b o (by simpa using hb) e) f0 f1 f3 f4 f5⟩
  self:=fun A i s Q E st h=>by
    rcases iter_ty x with z | z
    · rw [z] at st
      exact wpAny_pyIter_striter_ascii st h
    · rw [z] at st
      exact wpAny_pyIter_striter_wide st h
section
variable {X:Cx} {tg:Expr}
def iText (tl:TE):TI:=fun σ H R=>tl σ H fun x H1=>∃ y,x=.str y∧R (Its y) H1
theorem pi_text {l:Expr} {tl:TE} (hl:PE X l tl):PI X tg l (iText tl):=by
  intro pins s σ H R I h
  refine thn (hl pins s σ H _ I h) fun v s1 ⟨x,H1,I1,r1,y,e,q⟩=>?_
  subst e
  obtain ⟨t,rfl⟩:=r1
  refine wpAny_pyIter_strU ?_
  refine ⟨s1.heap.objs.size,[s1.heap.objs.size],_,_,H1,rfl,I1.kept (t':=s1.toks) fun b o e=>Heap.get?_push_of_some _ e,turn_text _ y t,⟨_,Heap.get?_push_size _ rfl,rfl,rfl⟩,fun b hb=>?_,q⟩
  have e:b=s1.heap.objs.size:=by simpa using hb
  subst e
  exact I1.fpOk (Nat.le_refl _) (I1.hok.fresh (Nat.le_refl _))
end
section
variable {x:Str} {n:Nat} {g:TG} {tc:TT} {te:TE} {σ:St} {H:Hp} {Q:VK}
theorem comp_text (Pv:Nat→List V→Hp→Prop) (h0:Pv 0 [] H) (hl:∀ i ys H,i≤x.cps.size→Pv i ys H→ys.length < sizeLine)
    (hs:∀ i c ys H,x.cps[i]?=some c→Pv i ys H→g (.str ⟨#[c]⟩) (List.replicate n none++σ) H fun σ2 H2=>σ2.drop n=σ∧tc σ2 H2 fun b H3=>if b=true then te σ2 H3 fun y H4=>Pv (i + 1) (ys++[y]) H4 else Pv (i + 1) ys H3)
    (hd:∀ ys H,Pv x.cps.size ys H→∀ p,H p=none→Q (.ref p) (upd H p (.lst ys))) :
    ∃ W:Nat→Nat→List V→Hp→Prop,(∃ m,W 0 m [] H)∧∀ i m ys H,W i m ys H→ys.length < sizeLine∧(((Its x).stop i H∧∀ p,H p=none→Q (.ref p) (upd H p (.lst ys))) ∨
      ((Its x).go i H∧∃ N:List V→Hp→Prop,(∀ ys' H',N ys' H'→∃ m',m' < m∧W (i + 1) m' ys' H')∧∀ v H',(Its x).yld i H v H'→g v (List.replicate n none++σ) H' fun σ2 H2=>σ2.drop n=σ∧tc σ2 H2 fun b H3 =>
        if b=true then te σ2 H3 fun y H4=>N (ys++[y]) H4 else N ys H3)):=by
  refine ⟨fun i m ys H=>m=x.cps.size - i∧i≤x.cps.size∧Pv i ys H,⟨x.cps.size,by simp,Nat.zero_le _,h0⟩,?_⟩
  rintro i m ys H ⟨rfl,hi,p⟩
  refine ⟨hl i ys H hi p,?_⟩
  by_cases hlt:i < x.cps.size
  · refine .inr ⟨hlt,Pv (i + 1),fun ys' H' p'=>⟨x.cps.size - (i + 1),by omega,rfl,hlt,p'⟩,fun v H' y=>?_⟩
    obtain ⟨rfl,c,hc,rfl⟩:=y
    exact hs i c ys _ hc p
  · have e:i=x.cps.size:=by omega
    subst e
    exact .inl ⟨rfl,hd ys H p⟩
end
def Itv (K:PySem.W.Frag) (a:Addr) (xs:List V):It:=⟨fun i H=>SqL K H a xs∧i < xs.length,fun i H v H'=>H'=H∧xs[xs.length - 1 - i]?=some v,fun i _=>i=xs.length⟩
section
variable {X:Cx} {tg:Expr}
def iRev (K:PySem.W.Frag) (ta:TA):TI:=fun σ H R=>ta σ H fun vs H1=>∃ a xs,vs=[.ref a]∧SqL K H1 a xs∧R (Itv K a xs) H1
def rSplit:V→List V→Hp→VK→Prop:=fun x vs H Q=>∃ t z,x=.str t∧vs=[.str z]∧(z.length == 0)=false∧t.length≤100000∧∀ l,H l=none→Q (.ref l) (upd H l (.lst ((Txt.split t z).map V.str)))
theorem vals_of_strs:∀ {l:List (Str×Tok)},Vals ((l.map (·.1)).map V.str) (strValues l)
  | []=>.nil
  | (x,t) :: l=>.cons ⟨t,rfl⟩ vals_of_strs
theorem mt_split:MtR X "str.split" rSplit:=by
  intro pins s σ H x vs v us Q I rx rv h
  obtain ⟨t,z,rfl,rfl,hz,hl,q⟩:=h
  obtain ⟨k,rfl⟩:=rx
  obtain ⟨u,rfl,ru⟩:=rv.one
  obtain ⟨k2,rfl⟩:=ru
  have big:(1000000:Nat)≤sizeLine:=by decide
  have fin:∀ (l:List (Str×Tok)) (k:Nat),l.map (·.1)=Txt.split t z→EP X pins σ Q (.ref s.heap.objs.size) {s with heap:=s.heap.push {cls:=.type "list",data:=.seq (strValues l).toArray},toks:=k}:=fun l k e=>by
    refine ⟨.ref s.heap.objs.size,upd H s.heap.objs.size (.lst ((Txt.split t z).map V.str)),I.laid (t':=k) (fun b u e=>Heap.get?_push_of_some _ e) (Nat.le_refl _) ?_,rfl,q _ (I.hok.fresh (Nat.le_refl _))⟩
    rw [← e]
    refine ⟨?_,strValues l,0,vals_of_strs,Heap.get?_push_size _ rfl⟩
    have:=PyProof.Rows.split_le t z
    rw [e,List.length_map]
    omega
  have hn:(partsBetween t (occurrences t z 0 t.length (t.length + 1)) z.length).length≤sizeLine:=by
    have e1:=StrLaws.occ_length_le t z 0 t.length (t.length + 1)
    rw [length_partsBetween]
    omega
  cases h1:(decide (t.length < z.length) || decide (strKind t < strKind z))
  · cases hf:(occurrences t z 0 t.length (t.length + 1)).isEmpty
    · refine call_meets F.slot_str_split (typeIs_str _ _ _) F.entry_str_split (F.args_str_split_2 _ _) (meets_str_split_sep t z k k2 h1 hz hf (by omega) hn) ?_
      show wants _ _ _ {s with toks:=_,heap:=s.heap.push {cls:=.type "list",data:=.seq (strsFrom s.toks (partsBetween t (occurrences t z 0 t.length (t.length + 1)) z.length)).toArray}}
      rw [strsFrom_eq]
      exact fin (numbered s.toks _) _ ((numbered_texts _ _).trans ((if_neg (ne_true_of_eq_false h1)).trans (if_neg (ne_true_of_eq_false hf))).symm)
    · exact call_meets F.slot_str_split (typeIs_str _ _ _) F.entry_str_split (F.args_str_split_2 _ _) (meets_str_split_not_found t z k k2 h1 hz hf) (fin [(t,k)] s.toks ((if_neg (ne_true_of_eq_false h1)).trans (if_pos hf)).symm)
  · exact call_meets F.slot_str_split (typeIs_str _ _ _) F.entry_str_split (F.args_str_split_2 _ _) (meets_str_split_cannot_occur t z k k2 h1) (fin [(t,k)] s.toks (if_pos h1).symm)
def sw (x y:Str):Bool:=decide (0 + y.length≤x.length) && subAt x y 0
theorem op_le_str:OpR X (compareOp .LtE) (fun x y H Q=>∃ i j,x=.str i∧y=.str j∧Q (.bl (!decide (j.cps.toList < i.cps.toList))) H):=by
  intro pins s σ H x y v u Q I rx ry h
  obtain ⟨i,j,rfl,rfl,q⟩:=h
  obtain ⟨t,rfl⟩:=rx
  obtain ⟨t',rfl⟩:=ry
  exact PySem.P.le_str (fin_bl I q rfl)
theorem range_all:∀ (bs:List Bool),(List.range bs.length).all (fun i=>(bs[i]?).getD false)=bs.all id:=fun bs=>by
  cases h:bs.all id with
  | true =>
    rw [List.all_eq_true] at h ⊢
    intro i hi
    rw [List.mem_range] at hi
    rw [List.getElem?_eq_getElem hi]
    exact h _ (List.getElem_mem hi)
  | false =>
    rw [List.all_eq_false] at h ⊢
    obtain ⟨x,hx,e⟩:=h
    obtain ⟨i,hi,rfl⟩:=List.mem_iff_getElem.mp hx
    exact ⟨i,List.mem_range.mpr hi,by rw [List.getElem?_eq_getElem hi]; exact e⟩
theorem call_allL (hc:X.calm=true):CallR X (.builtin "all") (fun xs H Q=>∃ (l:Addr) (bs:List Bool),xs=[V.ref l]∧SqL X.K H l (bs.map V.bl)∧Q (.bl (bs.all id)) H):=by
  intro pins s σ H xs us Q I r h
  obtain ⟨l,bs,rfl,hl,q⟩:=h
  obtain ⟨u,rfl,ru⟩:=vals1 r
  cases ru
  obtain ⟨its,rv,pl,hz⟩:=I.list hl
  have ltl:l < s.heap.objs.size:=let ⟨_,ho,_⟩:=pl.isList; Heap.lt_size ho
  have hlen:its.toArray.size=bs.length:=by
    rw [List.size_toArray,← rv.length,List.length_map]
  refine call_all_walk (wpAny_pyIter_list pl.isList ?_)
  refine ⟨s.heap.objs.size,[s.heap.objs.size,l],[s.heap.objs.size],its.toArray.size,_,_,fun i=>(bs[i]?).getD false,rfl,Walks.list (A:=X.A.in1) (I.ok.hd hc) s.heap.objs.size l (Nat.ne_of_lt ltl) its.toArray,⟨⟨_,Heap.get?_push_size _ rfl,rfl,rfl⟩,pl.isList.at fun o e=>Heap.get?_push_of_some _ e⟩,?_,?_⟩
  · intro i v z Q' E' hv hQ
    have hv':its[i]?=some v:=by simpa using hv
    have li:i < bs.length:=by
      have:=(List.getElem?_eq_some_iff.mp hv').1
      have:=rv.length
      rw [List.length_map] at this
      omega
    have eb:(bs.map V.bl)[i]?=some (.bl bs[i]):=by rw [List.getElem?_map,List.getElem?_eq_getElem li]; rfl
    obtain ⟨w',hw,rw'⟩:=rv.get eb
    rw [hv'] at hw
    cases hw
    cases rw'
    have e0:(bs[i]?).getD false=bs[i]:=by rw [List.getElem?_eq_getElem li]; rfl
    have hQ':Q' ((bs[i]?).getD false) z:=hQ
    rw [e0] at hQ'
    exact wpAny_truthy_bool hQ'
  · intro h' tk kk
    rw [hlen,range_all]
    refine ⟨.bl _,H,I.kept (t':=tk) fun b o e=>kk b o ?_ (Heap.get?_push_of_some _ e),rfl,q⟩
    have:=Heap.lt_size e
    intro z
    have z':b=s.heap.objs.size:=by simpa using z
    exact absurd (z' ▸ this) (Nat.lt_irrefl _)
end
end L2
namespace L2
open PySem PySem.Spec PyProof.Rows
section
variable {prog:Program} {w:World} {A:Around} {E:Value→Shared→Prop} {s:Shared}
variable {I:Addr} {fp wr:List Addr} {G:Array GenState→Array GenState→Prop} {n:Nat} {P:Nat→Value→Prop} {St:Nat→Shared→Prop} {R:Result→Shared→Prop}
end
section
variable {X:Cx}
def tListRev (K:PySem.W.Frag) (te:TE):TE:=fun σ H Q=>te σ H fun x H1=>∃ a xs,x=.ref a∧SqL K H1 a xs∧∀ l,H1 l=none→Q (.ref l) (upd H1 l (.lst xs.reverse))
end
end L2
namespace L2
open PySem PySem.Spec PyProof.Rows
def FlE (dc:Option Addr) (B:Heap) (l:List Env) (e:Addr) (cls fl:Value) (h:Heap):Prop:=
  B.StaysIn h∧B.get? e=none∧h.FunFrames B l∧∃ oe vs T oT ts,h.get? e=some oe∧oe.cls=cls∧oe.dict=dc∧oe.data=.fields vs∧vs[1]?=some (.ref T)∧B.get? T=none∧T≠e∧h.get? T=some oT∧oT.data=.fields ts∧ts[3]?=some fl
section
variable {M:Model} {A:Around} {E:Value→Shared→Prop} {s:Shared} {B:Heap} {env:Env} {outer l:List Env} {L e:Addr} {cls fl:Value} {Q:Unit→Shared→Prop} {dc:Option Addr}
theorem gl_entry {oe:Obj} {vs:Array Value} {head:Value} {nx:Bool} (hfr:A.frames=some (env :: outer)) (hl:s.heap.FunFrames B (env :: outer)) (hf:env.frame=some L) (he:s.heap.get? e=some oe) (hB:B.StaysIn s.heap) (hn:B.get? e=none)
    (hd:oe.data=.fields vs) (hz:1 < vs.size) (hdc:oe.dict=dc) (k:∀ h',FlE dc B (env :: outer) e oe.cls (rawInt L) h'→s.heap.UpToSlots h'→Q () {s with heap:=h'}) :
    wpAny M A (do let a ← frameOf env; let pl ← entryPlaceOf L nx; let b ← EntryCells.newEntry head a .none (rawInt L) .none pl; setField (.ref e) 1 b) Q E s:=by
  have ef:e∉(env :: outer).filterMap (·.frame):=fun hm=>by
    obtain ⟨_,o,ho,q⟩:=hl.mem hm
    rw [he] at ho
    cases ho
    exact q vs hd
  refine wpAny_bind (wpAny_frameOf_fun hfr hl hf fun h1 g1=>wpAny_bind (wpAny_entryPlaceOf fun pl hpl=>?_))
  unfold EntryCells.newEntry newFields
  refine wpAny_bind (wpAny_newObj_type ?_ (hpl.sizeOk5 _ _ _ _ _))
  have e1:h1.get? e=some oe:=(g1.2.1 e ef).trans he
  have b1:B.StaysIn h1:=fun b o z=>(g1.2.1 b fun hm=>by rw [(hl.mem hm).1] at z; cases z).trans (hB b o z)
  have ne:h1.objs.size≠e:=Nat.ne_of_gt (Heap.lt_size e1)
  generalize hob:({cls:=.type "traceback",dict:=none,data:=.fields ([head,.ref L,.none,rawInt L,.none]++(if pl.isEmpty then List.replicate 6 Value.none else pl)).toArray}:Obj)=ob
  have e2:(h1.push ob).get? e=some oe:=Heap.get?_push_of_some _ e1
  have t2:(h1.push ob).get? h1.objs.size=some ob:=Heap.get?_push_size h1 (by rw [← hob]; rfl)
  refine wpAny_setField e2 hd hz (k _ ?_ ?_)
  · have d3:=Obj.data_mapFields hd (·.setIfInBounds 1 (Value.ref h1.objs.size))
    have keep:∀ b o,b≠e→h1.get? b=some o→((h1.push ob).update e (Obj.mapFields (·.setIfInBounds 1 (Value.ref h1.objs.size)))).get? b=some o:=fun b o q z=>by
      rw [Heap.get?_update_other _ _ (Ne.symm q)]
      exact Heap.get?_push_of_some _ z
    refine ⟨fun b o z=>keep b o (fun q=>by rw [q,hn] at z; cases z) (b1 b o z),hn,hl.of_keeps fun b o z q=>?_,_,_,h1.objs.size,ob,_,Heap.get?_update_self _ e2 (Obj.isFreed_of_fields d3),Obj.cls_mapFields _ _,(dict_mapF _ _).trans hdc,d3,by simp [hz],b1.fresh,ne,?_,by rw [← hob],?_⟩
    · obtain ⟨sl,w⟩:=g1.2.2 b o z
      exact ⟨_,keep b _ (fun y=>by rw [y,he] at z; cases z; exact q vs hd) w,rfl⟩
    · rw [Heap.get?_update_other _ _ (Ne.symm ne)]
      exact t2
    · first | (simp; done) | (rcases hpl with rfl | ⟨_,_,_,_,_,_,_,rfl⟩ <;> simp)
  · intro b o z q
    obtain ⟨sl,w⟩:=g1.2.2 b o z
    refine ⟨sl,?_⟩
    rw [Heap.get?_update_other _ _ (fun y=>by rw [← y,he] at z; cases z; exact q vs hd)]
    exact Heap.get?_push_of_some _ w
theorem gl_note (hfr:A.frames=some (env :: outer)) (hf:env.frame=some L) (x:FlE dc B (env :: outer) e cls .none s.heap) (k:∀ h',FlE dc B (env :: outer) e cls (rawInt L) h'→s.heap.UpToSlots h'→Q () {s with heap:=h'}) :
    wpAny M A (noteFrame (.ref e) env) Q E s:=by
  obtain ⟨hB,hn,hl,oe,vs,T,oT,ts,he,rfl,hdc,hd,h1,nT,Te,hT,dT,h3⟩:=x
  unfold noteFrame
  simp only [hf]
  refine wpAny_bind (wpAny_field he hd h1 ?_)
  rw [if_pos (show (Value.ref T != Value.none)=true from by simp)]
  refine wpAny_bind (wpAny_field hT dT h3 ?_)
  rw [if_neg (show ¬ ((Value.none == rawInt L)=true) from by simp [rawInt])]
  refine wpAny_bind (wpAny_setField hT dT (Array.getElem?_eq_some_iff.mp h3).1 ?_)
  have ot:∀ b,b≠T→(s.heap.update T (Obj.mapFields (·.setIfInBounds 3 Value.none))).get? b=s.heap.get? b:=fun b hb=>Heap.get?_update_other _ _ (Ne.symm hb)
  refine gl_entry (s:={s with heap:=s.heap.update T (Obj.mapFields (·.setIfInBounds 3 Value.none))}) hfr (hl.of_keeps fun b o z q=>⟨o,(ot b (fl_notT hT dT z q)).trans z,rfl⟩) hf ((ot e (Ne.symm Te)).trans he)
    (fun b o z=>(ot b fun y=>by rw [y,nT] at z; cases z).trans (hB b o z)) hn hd (Array.getElem?_eq_some_iff.mp h1).1 hdc fun h' y1 y2=>k h' y1 fun b o z q=>y2 b o ((ot b (fl_notT hT dT z q)).trans z) q
theorem gl_lands (x:FlE dc B l e cls fl s.heap) (k:∀ h',FlE dc B l e cls .none h'→s.heap.UpToSlots h'→Q () {s with heap:=h'}):wpAny M A (setFlight (.ref e) none) Q E s:=by
  obtain ⟨hB,hn,hl,oe,vs,T,oT,ts,he,hc,hdc,hd,h1,nT,Te,hT,dT,h3⟩:=x
  have z3:3 < ts.size:=(Array.getElem?_eq_some_iff.mp h3).1
  have ot:∀ b,b≠T→(s.heap.update T (Obj.mapFields (·.setIfInBounds 3 ((none:Option Addr).elim Value.none fun f=>rawInt f)))).get? b=s.heap.get? b:=fun b hb=>Heap.get?_update_other _ _ (Ne.symm hb)
  unfold setFlight
  refine wpAny_bind (wpAny_field he hd h1 ?_)
  rw [if_pos (show (Value.ref T != Value.none)=true from by simp)]
  refine wpAny_setField hT dT z3 (k _ ⟨fun b o z=>(ot b fun y=>by rw [y,nT] at z; cases z).trans (hB b o z),hn,hl.of_keeps fun b o z q=>⟨o,(ot b (fl_notT hT dT z q)).trans z,rfl⟩,oe,vs,T,_,_,(ot e (Ne.symm Te)).trans he,hc,hdc,hd,h1,nT,Te,Heap.get?_update_self _ hT (Obj.isFreed_of_fields (Obj.data_mapFields dT _)),Obj.data_mapFields dT _,by simp [z3]⟩
    fun b o z q=>⟨o.slots,(ot b (fl_notT hT dT z q)).trans z⟩)
theorem FlE.tail (x:FlE dc B (env :: outer) e cls fl s.heap):FlE dc B outer e cls fl s.heap:=by
  obtain ⟨a,b,⟨_,_,c⟩,d⟩:=x
  exact ⟨a,b,c,d⟩
theorem FlE.there {h:Heap} (x:FlE dc B l e cls fl h):∃ ob,h.get? e=some ob∧ob.cls=cls:=by
  obtain ⟨_,_,_,oe,_,_,_,_,he,hc,_⟩:=x
  exact ⟨oe,he,hc⟩
theorem gl_made {oe:Obj} {vs:Array Value} (hfr:A.frames=some (env :: outer)) (hf:env.frame=some L) (hB:B.StaysIn s.heap) (hn:B.get? e=none) (hl:s.heap.FunFrames B (env :: outer)) (he:s.heap.get? e=some oe) (hd:oe.data=.fields vs) (h1:vs[1]?=some .none) (hdc:oe.dict=dc)
    (k:∀ h',FlE dc B outer e oe.cls .none h'→s.heap.UpToSlots h'→Q () {s with heap:=h'}):wpAny M A (leaving env (.ref e)) Q E s:=by
  unfold leaving noteFrame
  simp only [hf]
  refine wpAny_bind (wpAny_bind (wpAny_field (x:=Value.none) he hd h1 ?_))
  rw [if_neg (show ¬ ((Value.none != Value.none)=true) by decide)]
  exact gl_entry hfr hl hf he hB hn hd (Array.getElem?_eq_some_iff.mp h1).1 hdc fun h1 x1 u1=>gl_lands (s:={s with heap:=h1}) x1 fun h2 x2 u2=>k h2 (FlE.tail (s:={s with heap:=h2}) x2) (u1.trans u2)
end
theorem ns1_sl {h h':Heap} {a:Addr} {m:Str→Option Value} (x:h.Ns1 a m) (sm:h.UpToSlots h'):h'.Ns1 a m:=by
  obtain ⟨o,es,ep,e,d,r⟩:=x
  obtain ⟨sl,e'⟩:=sm a o e (fun vs q=>by rw [d] at q; cases q)
  exact ⟨_,es,ep,e',d,r⟩
structure LCls (K:PySem.W.Frag) (C D f:Addr):Prop where
  mro:(PySem.W.clsIn K C).any (fun cd=>cd.mro == [.ref C,.ref D,.type "ValueError",.type "Exception",.type "BaseException",.type "object"] && cd.hasDict)=true
  made:(K.lookup C).any (fun ob=>ob.cls == .type "type" && (match ob.data,ob.slots.toList with | .cls cd,[_,_,_,_,some (.builtin n),_]=>n == "ValueError.__new__" && !cd.hasDel | _,_=>false))=true
  tail:PySem.W.excIn K D vErr "ValueError.__new__"=true
  init:PySem.W.findIn K (.ref C) "__init__"=some (some (.ref f))
  fn:PySem.W.isFn K (.ref f)=true
  kp:PySem.W.keepIn K (.ref C)=true
  sa:PySem.W.findIn K (.ref C) "__setattr__"=some (some (.builtin "object.__setattr__"))
  nl:PySem.W.findIn K (.ref C) "line"=some none
  x:XCls K C
def lmro (C D:Addr):List Value:=[.ref C,.ref D,.type "ValueError",.type "Exception",.type "BaseException",.type "object"]
theorem LCls.cd {K:PySem.W.Frag} {C D f:Addr} (c:LCls K C D f):∃ cd,PySem.W.clsIn K C=some cd∧cd.mro=lmro C D∧cd.hasDict=true:=by
  obtain ⟨cd,a,b⟩:=PySem.W.any_some c.mro
  rw [Bool.and_eq_true,beq_iff_eq] at b
  exact ⟨cd,a,b.1,b.2⟩
theorem LCls.obj {K:PySem.W.Frag} {C D f:Addr} {h:Heap} (c:LCls K C D f) (X:K.In h):∃ nm q N bs hdct sn sub ab col dd k0 k1 k2 k3 k5,h.get? C=some (excClassObj nm q C N bs [.ref D,.type "ValueError",.type "Exception",.type "BaseException",.type "object"] hdct sn sub ab col dd k0 k1 k2 k3 k5 "ValueError.__new__"):=by
  obtain ⟨cd,hcd,hmro,hhd⟩:=c.cd
  obtain ⟨ob,e1,e2⟩:=PySem.W.any_some c.made
  have e3:=X _ _ e1
  obtain ⟨oc,od,odt,osl⟩:=ob
  cases odt with
  | cls cd' =>
    obtain ⟨sl⟩:=osl
    unfold PySem.W.clsIn at hcd
    rw [e1] at hcd
    cases hcd
    dsimp only at e2
    rw [Bool.and_eq_true,beq_iff_eq] at e2
    obtain ⟨rfl,e2⟩:=e2
    split at e2
    · rename_i _ _ cd2 k0 k1 k2 k3 n k5 hdd
      cases hdd
      rw [Bool.and_eq_true,beq_iff_eq,Bool.not_eq_true'] at e2
      obtain ⟨rfl,hdel⟩:=e2
      obtain ⟨nm,bs,mro,ns,qn,hd,sn,sub,ab,col,del⟩:=cd
      dsimp only at hmro hdel
      subst hmro hdel
      exact ⟨nm,qn,ns,bs,hd,sn,sub,ab,col,od,k0,k1,k2,k3,k5,e3⟩
    · cases e2
  | _=>rw [Bool.and_eq_true] at e2; exact absurd e2.2 (by simp)
section
variable {prog:Program} {w:World} {A:Around} {E:Value→Shared→Prop} {s:Shared} {K:PySem.W.Frag} {x C D f:Addr} {ox:Obj} {v:Value}
theorem exc_store {Q:Unit→Shared→Prop} (X:K.In s.heap) (hx:s.heap.get? x=some ox) (hc:ox.cls=.ref C) (hnc:PySem.W.notCls ox=true) (hdn:ox.dict=none) (c:LCls K C D f)
    (h:∀ h',h'.get? x=some {ox with dict:=some s.heap.objs.size}→h'.Ns1 s.heap.objs.size (fun y=>if y="line" then some v else none)→(∀ b o,b≠x→s.heap.get? b=some o→h'.get? b=some o)→Q () {s with heap:=h',toks:=s.toks + 2}) :
    wpAny (model prog w) A (setAttr (.ref x) "line" v) Q E s:=by
  have I:PySem.W.InstAt s.heap x ox C none:=⟨hx,hc,hnc,by rw [hdn]; trivial⟩
  obtain ⟨cd,hcd,hmro,hhd⟩:=c.cd
  refine PySem.W.set_plain X I c.sa ?_
  have SF:=PySem.F.store_object
  have hm:PySem.W.Looks (model prog w) s.heap (mroOf (.ref C)) (lmro C D):=by
    have z:=(PySem.W.looks_clsIn (M:=model prog w) X hcd).andThen (f:=fun cd=>pure cd.mro) .now
    rw [hmro] at z
    exact z
  have sub:PySem.W.Looks (model prog w) s.heap (isInstance (.ref x) (.type "object")) true:=I.type.andThen (PySem.W.looks_mroIn X c.x.ob)
  refine codeAny_call_builtin SF.slot.plain SF.entry (@PySem.W.check_slot (model prog w) _ _ {s with toks:=s.toks + 1} "object.__setattr__" "object" "__setattr__" (.ref x) [.str "line" s.toks,v] [] _ SF.kind SF.split sub (SF.args (.ref x) (.str "line" s.toks) v) ?_)
  rw [PySem.W.osa_eq,refuse_eq]
  have I':PySem.W.InstAt ({s with toks:=s.toks + 1}:Shared).heap x ox C none:=I
  refine wpAny_bind (wpAny_bind (I'.type.here (wpAny_bind (PySem.W.Looks.here (s:={s with toks:=s.toks + 1}) hm ?_))))
  rw [show refuseLoop (.ref x) "__setattr__" (lmro C D)=pure () from by
    unfold lmro
    rw [refuseLoop_ref,refuseLoop_ref]
    exact PySem.F.store_ValueError.passes (.ref x)]
  refine wpAny_pure (wpAny_bind (I'.type.here (wpAny_bind (PySem.W.Looks.here (s:={s with toks:=s.toks + 1}) (PySem.W.looks_findIn X c.nl) ?_))))
  refine wpAny_bind (wpAny_pure ?_)
  obtain ⟨hh,g,d,t,os⟩:=s
  dsimp only at hx h
  refine wpAny_bind (wpAny_pure (wpAny_bind (wpAny_bind (wpAny_loadPart hx ?_))))
  rw [hc]
  refine wpAny_bind (PySem.W.Looks.here (s:=⟨hh,g,d,t + 1,os⟩) (PySem.W.looks_clsIn X hcd) ?_)
  rw [hhd,hdn]
  have hxs:x≠hh.objs.size:=Nat.ne_of_lt (Heap.lt_size hx)
  have hx1:(hh.push {cls:=.type "dict",data:=.dict #[]}).get? x=some ox:=Heap.get?_push_of_some _ hx
  have nf:(({ox with dict:=some hh.objs.size}:Obj)).isFreed=false:=by
    have z:=(Heap.get?_some_iff.mp hx).2
    obtain ⟨oc,od,odt,osl⟩:=ox
    cases odt <;> first | rfl | exact z
  have hnd:((hh.push {cls:=.type "dict",data:=.dict #[]}).update x fun o=>{o with dict:=some hh.objs.size}).Ns hh.objs.size (fun _=>none):=
    ⟨_,#[],_,(Heap.get?_update_ne _ _ _ _ hxs.symm).trans (Heap.get?_push_at rfl rfl),rfl,fun e he=>absurd he (by simp),fun _=>rfl⟩
  have fin:wpAny (model prog w) A.in1 (Builtin.ObjectAttr.storeInDict hh.objs.size (.str "line" t) "line" v) (fun fin s'=>match fin with | .done f=>(match (Except.ok f:Result) with | .ok (.ret _)=>Q () s' | .ok _=>False | .error e=>E e s') | .again c'=>c'.quiet=true∧codeAny (model prog w) A c' (fun r s'=>match r with | .ok (.ret _)=>Q () s' | .ok _=>False | .error e=>E e s') s') (fun e s'=>E e s') ⟨(hh.push {cls:=.type "dict",data:=.dict #[]}).update x fun o=>{o with dict:=some hh.objs.size},g,d,t + 1,os⟩:=by
    refine wpAny_bind (wpAny_pure (wpAny_bind (wpAny_nsSet1 (Heap.Ns1.of_empty hnd) fun h' hn' hs=>?_)))
    obtain ⟨oD,esD,epD,hoD,hdD,hcD⟩:=hn'.count (Within.cons "line" v Within.nil)
    refine wpAny_bind (wpAny_lookBehind hoD (by rw [hdD]; exact pastItsLine_dict (Nat.le_trans hcD (by rw [List.length_cons,List.length_nil,sizeLine_eq]; omega))) ?_)
    refine wpAny_pure (h _ ?_ hn' fun b o hb e=>?_)
    · exact (hs.2 x hxs).trans (Heap.get?_update_self _ hx1 nf)
    · exact (hs.2 b (Nat.ne_of_lt (Heap.lt_size e))).trans ((Heap.get?_update_ne _ _ _ _ hb).trans (Heap.get?_push_of_some _ e))
  rw [if_neg (by decide)]
  dsimp only
  rw [if_neg (by simp [typeHasDict])]
  split
  · rename_i c' hcd'
    rw [PySem.W.notCls,hcd'] at hnc
    cases hnc
  · exact wpAny_bind (wpAny_alloc' (wpAny_bind (wpAny_update' hx1 (wpAny_pure fin))))
theorem exc_call {rest:List Value} {Q:Value→Shared→Prop} (X:K.In s.heap) (c:LCls K C D f) (hrest:rest.length≤sizeLine)
    (h:∀ h' e,Heap.MadeExcOf s.heap h' e (.ref C) rest→wpAny (model prog w) (A.under (.builtin "type.__call__" ⟨.ref C :: rest,[]⟩)) (call (.ref f) (.ref e :: rest)) (fun r s'=>r=.none∧Q (.ref e) s') E {s with heap:=h'}) :
    wpAny (model prog w) A (call (.ref C) rest) Q E s:=by
  obtain ⟨cd,hcd,hmro,hhd⟩:=c.cd
  have FB:=PySem.F.excBase_ValueError
  obtain ⟨hh,g,d,t,os⟩:=s
  obtain ⟨nm,q,N,bs,hdct,sn,sub,ab,col,dd,k0,k1,k2,k3,k5,hC⟩:=c.obj X
  have T:OwnTail hh vErr [.ref D,.type "ValueError",.type "Exception",.type "BaseException",.type "object"]:=by
    obtain ⟨bm,N,nm,q,bs,hdct,sn,sub,ab,col,dd,k0,k1,k2,k3,k5,mN,hD,hN,hni,_⟩:=exc_obj X c.tail
    exact .own hD hN hni .base
  have f1:=tc_lookup
  have f2:=tc_bind (.ref C)
  have hT:(⟨hh,g,d,t,os⟩:Shared).TypeIs (.ref C) "type":=⟨_,hC,rfl⟩
  refine wpAny_call (codeAny_of_tree ?_)
  show wpAny _ _ (callAny (.ref C) _) _ _ _
  repeat (any_goals (first | assumption | with_reducible refine wpAny_loadPart_at hC ?_ | wp_step))
  refine ⟨rfl,?_⟩
  refine codeAny_call_builtin_at (Code.quiet_builtin _ (by decide +kernel)) entry_typeCall (wpAny_check_type_call_sub hC ?_)
  repeat (first | with_reducible refine wpAny_loadPart_at hC ?_ | with_reducible refine wpAny_madeBy_exc hC ?_ | wp_step)
  refine codeAny_call_builtin_code (Code.quiet_builtin _ FB.quiet) (wpAny_check_new_subT FB T hC ?_)
  refine codeAny_exc_new_subT FB T hC ?_ hrest
  show wpAny _ _ _ _ _ _
  generalize hto:({cls:=.type "tuple",data:=.seq rest.toArray}:Obj)=ot
  generalize heo:({cls:=.ref C,data:=.fields #[.ref hh.objs.size,.none,.none,.none,.bool false,.none]}:Obj)=oe
  have kp:∀ b o,hh.get? b=some o→((hh.push ot).push oe).get? b=some o:=fun b o e=>Heap.get?_push_of_some _ (Heap.get?_push_of_some _ e)
  have hget:((hh.push ot).push oe).get? (hh.objs.size + 1)=some oe:=by
    have z:=Heap.get?_push_size (hh.push ot) (o:=oe) (by rw [← heo]; rfl)
    rw [Heap.size_push] at z
    exact z
  have X1:K.In ((hh.push ot).push oe):=X.keeps kp
  have J:PySem.W.InstAt ((hh.push ot).push oe) (hh.objs.size + 1) oe C none:=⟨hget,by rw [← heo],by rw [← heo]; rfl,by rw [← heo]; trivial⟩
  have et:({cls:=.type "tuple",data:=.seq ([].append rest).toArray}:Obj)=ot:=hto
  show wpAny _ _ _ _ _ ⟨(hh.push ({cls:=.type "tuple",data:=.seq ([].append rest).toArray}:Obj)).push oe,g,d,t,os⟩
  rw [et]
  unfold isInstance
  refine wpAny_bind (wpAny_bind (J.type.here (s:=⟨(hh.push ot).push oe,g,d,t,os⟩) (wpAny_isSubtype_exc (kp _ _ hC) ?_)))
  rw [show (Value.ref C :: [.ref D,.type "ValueError",.type "Exception",.type "BaseException",.type "object"]).contains (.ref C)=true by simp,if_neg (by decide)]
  refine wpAny_bind (wpAny_holding (PySem.W.special_fn (s:=⟨(hh.push ot).push oe,g,d,t,os⟩) X1 J c.init (beq_iff_eq.mp c.fn) ?_))
  refine wpAny_mono (h ((hh.push ot).push oe) (hh.objs.size + 1) ⟨kp,Heap.get?_none_of_le (Nat.le_succ _),hh.objs.size,?_,Heap.get?_none_of_le (Nat.le_refl _),?_⟩) (fun r s' z=>?_) fun _ _ z=>z
  · rw [heo]
    exact hget
  · rw [hto]
    exact Heap.get?_push_of_some _ (Heap.get?_push_size hh (by rw [← hto]; rfl))
  · obtain ⟨rfl,z⟩:=z
    exact wpAny_pure z
end
def FX (a:Addr) (ob:Obj):HO:=.ext (fun h=>h.get? a=some ob)
def lineM (u:Value):Str→Option Value:=fun y=>if y="line" then some u else none
def LdOk (d n:Nat) (h:Heap):Prop:=∃ u,RelV (.int n) u∧h.Ns1 d (lineM u)
def LD (d n:Nat):HO:=.ext (LdOk d n)
def XeOk (a C d:Addr) (h:Heap):Prop:=∃ ob,h.get? a=some ob∧ob.cls=.ref C∧ob.dict=some d∧PySem.W.notCls ob=true
def XE (a C d:Addr):HO:=.ext (XeOk a C d)
section
variable {P:Program} {w:World} {H H':Hp} {h h':Heap} {a b C d:Addr} {n:Nat} {o:HO} {ob:Obj} {fs ex:List Addr}
theorem FX.ok (e:h.get? a=some ob):ObjOk P w H h a (FX a ob):=⟨e,⟨_,e⟩,fun h1 h2 x k=>k _ x⟩
theorem LD.ok (x:LdOk d n h):ObjOk P w H h d (LD d n):=by
  obtain ⟨u,r,y⟩:=id x
  obtain ⟨o,_,_,e,_⟩:=y
  refine ⟨x,⟨o,e⟩,fun h1 h2 z k=>?_⟩
  obtain ⟨u,r,y⟩:=z
  exact ⟨u,r,y.at k⟩
theorem XE.ok (x:XeOk a C d h):ObjOk P w H h a (XE a C d):=by
  obtain ⟨ob,e,r⟩:=id x
  refine ⟨x,⟨ob,e⟩,fun h1 h2 z k=>?_⟩
  obtain ⟨ob,e,r⟩:=z
  exact ⟨ob,k _ e,r⟩
theorem LdOk.sl (x:LdOk d n h) (sm:h.UpToSlots h'):LdOk d n h':=by
  obtain ⟨u,r,y⟩:=x
  exact ⟨u,r,ns1_sl y sm⟩
theorem Un.twoL (he:H a=some o) (hno:∀ xs,o≠.tup xs) (hno2:∀ q u,o≠.frz q u) (hno3:∀ ps,o≠.tbl ps) (hd:H d=none) (nd:h.get? d=none) (hna:∃ q,h'.get? a=some q) (k:∀ b q,b≠a→h.get? b=some q→h'.get? b=some q) {o1 o2:HO}:Un fs ex H (upd (upd H d o1) a o2) h h' where
  keep:=fun b u q n _ _=>k b u (fun z=>by rw [z,he] at n; cases n) q
  slot:=fun b u q n _ _=>⟨u.slots,k b u (fun z=>by rw [z,he] at n; cases n) q⟩
  free:=fun b u q n _=>by
    rw [upd_ne (fun z=>by rw [z,he] at n; cases n),upd_ne (fun z=>by rw [z,nd] at q; cases q)]
    exact n
  there:=fun b u q _=>by
    by_cases z:b=a
    · rw [z]; exact hna
    · exact ⟨u,k b u z q⟩
  tups:=fun b xs q=>by
    rw [upd_ne (fun z=>by rw [z,he] at q; exact hno xs (Option.some.inj q)),upd_ne (ne_of_none q hd)]
    exact q
  frzs:=fun b u xs q=>by
    rw [upd_ne (fun z=>by rw [z,he] at q; exact hno2 _ _ (Option.some.inj q)),upd_ne (ne_of_none q hd)]
    exact q
  tbls:=fun b ps q=>⟨#[],by rw [upd_ne (fun z=>by rw [z,he] at q; exact hno3 _ (Option.some.inj q)),upd_ne (ne_of_none q hd),q]; simp⟩
end
section
variable {X:Cx} {pins:List (Addr×Obj)} {σ:St} {H H1:Hp} {s:Shared}
theorem Inv.lessL (I:Inv X pins σ H s) (sub:∀ a o,H1 a=some o→H a=some o) (ext:∀ a o,H a=some o→H1 a=some o∨∃ φ,o=.ext φ):Inv X pins σ H1 s:=by
  have no:∀ {a:Addr},H a=none→H1 a=none:=fun {a} z=>by
    cases q:H1 a with
    | none=>rfl
    | some o=>rw [sub a o q] at z; cases z
  refine ⟨I.ok,I.os,I.bare,⟨I.base.keep,I.base.slot,fun b o e n hx=>no (I.base.free b o e n hx),I.base.there,fun b xs e=>?_,fun b o u e=>?_,fun b ps e=>?_⟩,I.loc,I.cell,no I.free,fun x c e=>no (I.freeC x c e),fun p hp=>?_,fun b u e=>?_,I.len⟩
  · rcases ext _ _ (I.base.tups b xs e) with z | ⟨φ,z⟩
    · exact z
    · cases z
  · rcases ext _ _ (I.base.frzs b o u e) with z | ⟨φ,z⟩
    · exact z
    · cases z
  · obtain ⟨more,z⟩:=I.base.tbls b ps e
    rcases ext _ _ z with z | ⟨φ,z⟩
    · exact ⟨more,z⟩
    · cases z
  · obtain ⟨e1,e2,e3⟩:=I.pin p hp
    exact ⟨e1,no e2,e3⟩
  · refine (I.hok b u (sub b u e)).stay (fun _ _ _ q=>q) (fun c q=>?_) fun c xs q=>?_
    · rcases ext _ _ q with z | ⟨φ,z⟩
      · exact z
      · cases z
    · rcases ext _ _ q with z | ⟨φ,z⟩
      · exact z
      · cases z
theorem Inv.trackL {b:Addr} {o:HO} (I:Inv X pins σ H s) (hz:H b=none) (nl:b≠X.env.locals) (nc:∀ v,¬ s.heap.IsCell b v) (old:∀ q,X.s₀.heap.get? b=some q→b∈X.ex) (np:∀ p∈X.pn++pins,p.1≠b) (ok:ObjOk X.prog X.w (upd H b o) s.heap b o):Inv X pins σ (upd H b o) s:=by
  have ne:∀ {c:Addr} {q:HO},H c=some q→c≠b:=fun {c q} z=>ne_of_none z hz
  refine ⟨I.ok,I.os,I.bare,⟨I.base.keep,I.base.slot,fun c q e n hx=>?_,I.base.there,fun c xs e=>?_,fun c q u e=>?_,fun c ps e=>?_⟩,I.loc,I.cell,?_,fun x c e=>?_,fun p hp=>?_,fun c u e=>?_,I.len⟩
  · rw [upd_ne]
    · exact I.base.free c q e n hx
    · rintro rfl
      exact hx (old _ e)
  · have z:=I.base.tups c xs e
    rw [upd_ne (ne z)]
    exact z
  · have z:=I.base.frzs c q u e
    rw [upd_ne (ne z)]
    exact z
  · obtain ⟨more,z⟩:=I.base.tbls c ps e
    exact ⟨more,by rw [upd_ne (ne z)]; exact z⟩
  · rw [upd_ne (Ne.symm nl)]
    exact I.free
  · rw [upd_ne]
    · exact I.freeC x c e
    · rintro rfl
      obtain ⟨v,z⟩:=I.cell x _ e
      exact nc v z
  · obtain ⟨e1,e2,e3⟩:=I.pin p hp
    exact ⟨e1,by rw [upd_ne (np p hp)]; exact e2,e3⟩
  · by_cases hb:c=b
    · subst hb
      rw [upd_same] at e
      cases e
      exact ok
    · rw [upd_ne hb] at e
      exact (I.hok c u e).stay (fun _ _ _ q=>q) (fun c q=>by rw [upd_ne (ne q)]; exact q) fun c xs q=>by rw [upd_ne (ne q)]; exact q
end
section
variable {X:Cx} {C D f:Addr} {o value:Expr} {ta tv:TE} {pos pos':Pos}
def sLine (C:Addr) (ta tv:TE):TS:=fun Z σ H=>tv σ H fun y H1=>ta σ H1 fun x H2=>∃ (e:Addr) (ob:Obj) (n:Nat),x=.ref e∧y=.int n∧H2 e=some (FX e ob)∧ob.cls=.ref C∧ob.dict=none∧PySem.W.notCls ob=true ∧
  ∀ d,H2 d=none→d≠e→Z.nx σ (upd (upd H2 d (LD d n)) e (FX e {ob with dict:=some d}))
theorem ps_line (c:LCls X.K C D f) (ha:PE X o ta) (hv:PE X value tv) (hs:swapsWith value (some (.Attribute o "line" pos')) pos.line X.env=pure false):PS X (.Assign [.Attribute o "line" pos'] value pos) (sLine C ta tv):=by
  intro pins s σ H Z I h
  refine plainObj_wpAny_Assign_Attribute (thn (hv pins s σ H _ I h) fun u s1 ⟨y,H1,I1,ry,q⟩=>thn (ha pins s1 σ H1 _ I1 q) fun ov s2 ⟨x,H2,I2,rx,e,ob,n,ex,ey,he,hc,hd,hn,q2⟩=>?_) hs
  subst ex ey
  obtain rfl:ov=Value.ref e:=rx
  have e1:s2.heap.get? e=some ob:=(I2.hok e _ he).1
  refine exc_store I2.kIn e1 hc hn hd c fun h' x1 x2 x3=>⟨σ,_,?_,q2 s2.heap.objs.size (I2.hok.fresh (Nat.le_refl _)) (Nat.ne_of_gt (Heap.lt_size e1))⟩
  have nd:s2.heap.get? s2.heap.objs.size=none:=Heap.get?_none_of_le (Nat.le_refl _)
  have hz:H2 s2.heap.objs.size=none:=I2.hok.fresh (Nat.le_refl _)
  refine I2.un (t':=s2.toks + 2) (Un.twoL he (fun _ z=>by cases z) (fun _ _ z=>by cases z) (fun _ z=>by cases z) hz nd ⟨_,x1⟩ x3) fun b u eb=>?_
  by_cases hb:b=e
  · subst hb
    rw [upd_same] at eb
    cases eb
    exact FX.ok x1
  · rw [upd_ne hb] at eb
    by_cases hb2:b=s2.heap.objs.size
    · subst hb2
      rw [upd_same] at eb
      cases eb
      exact LD.ok ⟨u,ry,x2⟩
    · rw [upd_ne hb2] at eb
      have ne:∀ {c:Addr} {q:HO},H2 c=some q→(∀ φ,q≠.ext φ)→c≠e:=fun {c q} z hq y=>by
        rw [y,he] at z
        exact hq _ (Option.some.inj z).symm
      refine (I2.hok b u eb).stay (fun c v hcc qq=>x3 c v ?_ qq) (fun c qq=>?_) fun c xs qq=>?_
      · rcases hcc with rfl | hcc
        · exact hb
        · exact ne hcc fun _ z=>by cases z
      · rw [upd_ne (ne qq fun _ z=>by cases z),upd_ne (ne_of_none qq hz)]
        exact qq
      · rw [upd_ne (ne qq fun _ z=>by cases z),upd_ne (ne_of_none qq hz)]
        exact qq
end
def spLn (C:Addr):Sp:=fun vs H Q _=>∃ (e:Addr) (ob:Obj) (n:Nat),vs=[.ref e,.int n]∧H e=some (FX e ob)∧ob.cls=.ref C∧ob.dict=none∧PySem.W.notCls ob=true ∧
  ∀ d,H d=none→d≠e→Q .non (upd (upd H d (LD d n)) e (FX e {ob with dict:=some d}))
def FlyL (B:Heap) (stk:List Env) (ea C:Addr) (n:Nat) (h:Heap):Prop:=
  ∃ d,FlE (some d) B stk ea (.ref C) .none h∧d≠ea∧B.get? d=none∧d∉frs stk∧LdOk d n h
def CXl (P:Program) (w:World):CXT:=fun outer H s E e s' =>
  ∃ (ea C:Addr) (n:Nat) (H':Hp) (B:Heap),e=.ref ea∧E (.ref C) (some n) H'∧s'.os=s.os∧AllBare s'.gens∧Un (frs outer) [] H H' s.heap s'.heap∧HOk P w H' s'.heap∧FlyL B outer ea C n s'.heap ∧
    ∀ b o,(H' b≠none∨∃ o',s.heap.get? b=some o')→b∉frs outer→s'.heap.get? b=some o→B.get? b=some o
structure BodyL (X:Cx) (E:XK):Prop where
  stk:X.stack=X.env :: X.outer
  fr:X.env.frame=some X.env.locals
  ex:X.ex=[]
  xe:X.xe=fun e s'=>wpAny (model X.prog X.w) X.A (leaving X.env e) (fun _ s''=>CXl X.prog X.w X.outer X.H₀ X.s₀ E e s'') (fun e' s''=>CXl X.prog X.w X.outer X.H₀ X.s₀ E e' s'') s'
theorem body_cl {P:Program} {w:World} {K:PySem.W.Frag} {mg:Str→Option Value} {base:Heap} {N:List Str} {qual:Str} {scope:Scope} {f:Addr} {cd:Value} {A:Around} {outer:List Env} {s:Shared} {H:Hp} {E:XK} :
    BodyL (cxOf (CXl P w) P w K mg base N qual scope f cd A outer s H E) E:=⟨rfl,rfl,rfl,rfl⟩
theorem frs_tail {env:Env} {outer:List Env} {d:Addr} (h:d∉frs (env :: outer)):d∉frs outer:=fun z=>h (by
  unfold frs at z ⊢
  obtain ⟨e,he,q⟩:=List.mem_filterMap.mp z
  exact List.mem_filterMap.mpr ⟨e,List.mem_cons_of_mem _ he,q⟩)
section
variable {X:Cx} {E E':XK} {pins:List (Addr×Obj)} {σ:St} {H:Hp} {s:Shared}
structure NewX (X:Cx) (H:Hp) (a:Addr):Prop where
  no:H a=none
  old:∀ o,X.s₀.heap.get? a≠some o
  fr:a∉frs X.stack
theorem BodyL.raises (hb:BodyL X E) (I:Inv X pins σ H s) {e C d:Addr} {n:Nat} {oe:Obj} {vs:Array Value} (he:s.heap.get? e=some oe) (hcl:oe.cls=.ref C) (hdc:oe.dict=some d) (hd:oe.data=.fields vs) (h1:vs[1]?=some .none) (hne:d≠e)
    (ne:NewX X H e) (nd:NewX X H d) (ns:LdOk d n s.heap) (q:E (.ref C) (some n) H):X.xe (.ref e) s:=by
  rw [hb.xe]
  have hfr:X.A.frames=some (X.env :: X.outer):=by rw [I.ok.frames,hb.stk]
  have hin:∀ env∈X.stack,∀ a,env.frame=some a→a∈frs X.stack++[e,d]:=fun env he a ha=>List.mem_append_left _ (List.mem_filterMap.mpr ⟨env,he,ha⟩)
  have fl:s.heap.FunFrames (PySem.W.hideAll s.heap (frs X.stack++[e,d])) (X.env :: X.outer):=by
    have z:=PySem.W.funFrames_hide I.stack hin
    rw [hb.stk] at z ⊢
    exact z
  have ub:Un X.fs [] X.H₀ H X.s₀.heap s.heap:=by
    have z:=I.base
    rw [hb.ex] at z
    exact z
  have keepB:∀ b o,b∉frs X.stack→(H b≠none∨∃ o',X.s₀.heap.get? b=some o')→s.heap.get? b=some o→(PySem.W.hideAll s.heap (frs X.stack++[e,d])).get? b=some o:=fun b o n c z=>by
    refine PySem.W.hideAll_get _ z fun y=>?_
    rcases List.mem_append.mp y with y | y
    · exact n y
    · have:b=e∨b=d:=by simpa using y
      rcases this with rfl | rfl
      · rcases c with c | ⟨o',c⟩
        · exact c ne.no
        · exact ne.old _ c
      · rcases c with c | ⟨o',c⟩
        · exact c nd.no
        · exact nd.old _ c
  refine gl_made (B:=PySem.W.hideAll s.heap (frs X.stack++[e,d])) hfr hb.fr (fun b o z=>PySem.W.of_hideAll _ z) (PySem.W.hideAll_none _ (List.mem_append_right _ (by simp))) fl he hd h1 hdc fun h'' x1 sm=>?_
  rw [hcl] at x1
  have nfo:d∉frs X.outer:=by
    have z:=nd.fr
    rw [hb.stk] at z
    exact frs_tail z
  refine ⟨e,C,n,H,_,rfl,q,I.os,I.bare,ub.left (stk:=frs X.stack) x1.1 (fun b o c n e=>keepB b o n c e) I.oldfs (I.slotsOf sm),I.hok.left x1.1 (fun b o n e=>keepB b o (I.ntr b n) (.inl n) e),⟨d,x1,hne,PySem.W.hideAll_none _ (List.mem_append_right _ (by simp)),nfo,ns.sl sm⟩,?_⟩
  intro b o c n e1
  have nb:b∉frs X.stack:=by
    rcases c with c | ⟨o',c⟩
    · exact I.ntr b c
    · exact fun z=>n (I.oldfs b o' c z)
  obtain ⟨o1,e2⟩:∃ o1,s.heap.get? b=some o1:=by
    rcases c with c | ⟨o',c⟩
    · exact I.hok.has c
    · exact ub.there b o' c (by simp)
  have e3:h''.get? b=some o1:=x1.1 b o1 (keepB b o1 nb c e2)
  have e4:h''.get? b=some o:=e1
  rw [e3] at e4
  cases e4
  exact keepB b _ nb c e2
end
section
variable {X:Cx} {E:XK} {x:Str} {C D f:Addr} {np cpos pos:Pos} {e₀:Expr} {rest:List Expr} {ta:TA} {k:Nat} {fd:FuncData} {ps:List Str}
def tRaiseL (C:Addr) (E:XK) (ta:TA):TS:=fun _ σ H=>ta σ H fun vs H1=>∃ n:Nat,vs=[.int n]∧E (.ref C) (some n) H1
theorem ps_raiseL (hb:BodyL X E) (hc:X.calm=true) (c:LCls X.K C D f) (hg:Gl X x) (hm:X.mg x=some (.ref C)) (F:FnOk X.prog X.w X.K X.mg X.base CX0 k f fd ps (spLn C)) (hr:Room (k + 1) X.A) (hbn:Binds X.K fd ps []) (ha:PA X (e₀ :: rest) ta)
    (hdb:(x == ("__debug__":Str))=false:=by decide) (he:starEach (e₀ :: rest) X.env=(false,eval e₀ X.env) :: starEach rest X.env:=by rfl) (hpl:(backTo cpos (starEach rest X.env)).any (·.1)=false:=by rfl) :
    PS X (.Raise (some (.Call (.Name x np) (e₀ :: rest) [] cpos)) none pos) (tRaiseL C E ta):=by
  intro pins s σ H Z I h
  have main:wpAny (model X.prog X.w) X.A (eval (.Call (.Name x np) (e₀ :: rest) [] cpos) X.env) (fun v s2=>∃ (e t d:Addr),v=.ref e∧s2.heap.get? e=some {cls:=.ref C,dict:=some d,data:=.fields #[.ref t,.none,.none,.none,.bool false,.none]}∧X.K.In s2.heap∧X.xe (.ref e) s2) X.xe s:=by
    refine wpAny_Call_Name_kw (ld_glob I hg hm ?_ hdb)
    refine PySem.W.callWith_K (h₀:=X.base) I.ok.mod.kin c.kp (thn (ha cpos pins s σ H _ I h) fun us s1 ⟨vs,H1,I1,r,n,hvs,q⟩=>⟨I1.kIn,?_⟩) he hpl
    subst hvs
    obtain ⟨u,rfl,ru⟩:=vals1 r
    refine exc_call (D:=D) (f:=f) (rest:=[u]) I1.kIn c (by rw [List.length_singleton,sizeLine_eq]; omega) fun h' e m=>?_
    have hn:H1 e=none:=by
      cases z:H1 e with
      | none=>rfl
      | some o =>
        obtain ⟨ob,e1⟩:=I1.hok.has (b:=e) (by rw [z]; simp)
        rw [m.new] at e1
        cases e1
    obtain ⟨t1,e1,_⟩:=m.there
    generalize hob:({cls:=.ref C,data:=.fields #[.ref t1,.none,.none,.none,.bool false,.none]}:Obj)=ob at e1
    have I2:=I1.un (t':=s1.toks) (H':=upd H1 e (FX e ob)) (Un.laidN m.keeps m.new hn) (I1.hok.laidN m.keeps hn (FX.ok e1))
    have hq:spLn C [.ref e,.int n] (upd H1 e (FX e ob)) (fun v H2=>v=.non∧∃ d,H1 d=none∧d≠e∧H2=upd (upd (upd H1 e (FX e ob)) d (LD d n)) e (FX e {ob with dict:=some d})) (fun _ _ _=>False):=
      ⟨e,ob,n,rfl,upd_same,by rw [← hob],by rw [← hob],by rw [← hob]; rfl,fun d hd hde=>⟨rfl,d,by rw [← hd,upd_ne hde],hde,rfl⟩⟩
    have r2:Vals [.ref e,.int n] [Value.ref e,u]:=.cons rfl (.cons ru .nil)
    have hl:([Value.ref e,u]++[]).length=ps.length:=(F.len _ _ _ _ hq).symm ▸ rfl
    refine wpAny_call (codeAny_mono (F.run _ X.stack _ _ ⟨[Value.ref e,u],[]⟩ [Value.ref e,u] _ _ (fun _ _ _=>False) (hr.make C [u] []) (I2.env0.make C [u] []) (by have z:=hbn _ [Value.ref e,u] I2.kIn hl; rwa [List.append_nil] at z) r2 hq) fun r s' hq'=>?_)
    cases r with
    | error e=>exact False.elim hq'
    | ok fl =>
      cases fl with
      | next=>exact False.elim hq'
      | brk=>exact False.elim hq'
      | cont=>exact False.elim hq'
      | ret v =>
        obtain ⟨v',H',os,bare,un,hok,rv,ev,d,hd1,hde,hH⟩:=hq'
        have I3:=I2.call' (ch:=[]) os un hok bare (fun b z=>absurd z (by simp))
        subst ev
        have qe:H' e=some (FX e {ob with dict:=some d}):=by rw [hH,upd_same]
        have qd:H' d=some (LD d n):=by rw [hH,upd_ne hde,upd_same]
        have old:∀ b,s1.heap.get? b=none→∀ o,X.s₀.heap.get? b≠some o:=fun b hz o z=>by
          obtain ⟨o',z'⟩:=I1.base.there b o z (by rw [hb.ex]; simp)
          rw [hz] at z'
          cases z'
        have dn:s1.heap.get? d=none:=by
          cases z:s1.heap.get? d with
          | none=>rfl
          | some o =>
            have y:=un.free d o (m.keeps _ _ z) (by rw [upd_ne hde]; exact hd1) (by simp)
            rw [qd] at y
            cases y
        have nf:∀ b,H' b≠none→b∉frs X.stack:=fun b hb z=>hb (I3.stkFree b z)
        have I4:Inv X pins σ H1 s':=by
          refine I3.lessL (fun a o z=>?_) fun a o z=>?_
          · rw [hH,upd_ne (ne_of_none z hn),upd_ne (ne_of_none z hd1),upd_ne (ne_of_none z hn)]
            exact z
          · by_cases h1:a=e
            · rw [h1,qe] at z
              cases z
              exact .inr ⟨_,rfl⟩
            · by_cases h2:a=d
              · rw [h2,qd] at z
                cases z
                exact .inr ⟨_,rfl⟩
              · rw [hH,upd_ne h1,upd_ne h2,upd_ne h1] at z
                exact .inl z
        have he1:s'.heap.get? e=some {ob with dict:=some d}:=(I3.hok e _ qe).1
        refine ⟨rv,e,t1,d,rfl,by rw [he1,← hob],I4.kIn,?_⟩
        exact hb.raises I4 he1 (by rw [← hob]) rfl (by rw [← hob]) rfl hde ⟨hn,old e m.new,nf e (by rw [qe]; simp)⟩ ⟨hd1,old d dn,nf d (by rw [qd]; simp)⟩ (I3.hok d _ qd).1 q
  obtain ⟨nm,qn,N,bs,hdct,sn,sub,ab,col,dd,k0,k1,k2,k3,k5,hC⟩:=c.obj I.kIn
  rw [arm_exec_Raise]
  simp only [evalOpt,Option.map]
  refine wpAny_bind (wpAny_standAt ?_)
  unfold raiseStmt
  refine wpAny_bind (wpAny_bind (wpAny_mono main (fun v s2 z=>?_) fun _ _ z=>z))
  obtain ⟨e,t1,d1,rfl,he1,K2,hE⟩:=z
  obtain ⟨nm,qn,N,bs,hdct,sn,sub,ab,col,dd,k0,k1,k2,k3,k5,hC⟩:=c.obj K2
  refine wpAny_bind (wpAny_standAt (wpAny_pure ?_))
  obtain ⟨hp,g,dr,tk,os⟩:=s2
  have hcB:(Value.ref C :: [.ref D,.type "ValueError",.type "Exception",.type "BaseException",.type "object"]).contains (.type "BaseException")=true:=by simp
  repeat (first | with_reducible refine wpAny_loadPart_at he1 ?_ | with_reducible refine wpAny_loadPart_at hC ?_ | (with_reducible refine wpAny_isSubtype_exc hC ?_; rw [hcB]) | wp_step)
  exact wpAny_raiseNew_none (I.ok.hd hc) hE
end
section
variable {X:Cx} {pins:List (Addr×Obj)} {σ:St} {H:Hp} {s:Shared} {T:Addr→Nat→St→Hp→Prop}
def tryWL (X:Cx) (pins:List (Addr×Obj)) (T:Addr→Nat→St→Hp→Prop):Value→Shared→Prop:=fun e s' =>
  ∃ ea C n B σ H,e=.ref ea∧Inv X pins σ H s'∧FlyL B X.stack ea C n s'.heap∧Tcov X pins H B s'.heap∧T C n σ H
abbrev Cx.trL (X:Cx) (pins:List (Addr×Obj)) (T:Addr→Nat→St→Hp→Prop):Cx:={X with xe:=tryWL X pins T,pn:=X.pn++pins}
theorem Inv.trL (I:Inv X pins σ H s) (T:Addr→Nat→St→Hp→Prop):Inv (X.trL pins T) [] σ H s:=
  ⟨⟨I.ok.mod,I.ok.kind,I.ok.glob,I.ok.blt,I.ok.above,I.ok.inj,I.ok.has,I.ok.cab,I.ok.hd,I.ok.frames,I.ok.stk,I.ok.exf,I.ok.bs,I.ok.bsz,I.ok.noex,I.ok.exfs,I.ok.funs,I.ok.frf⟩,I.os,I.bare,I.base,I.loc,I.cell,I.free,I.freeC,
    fun p hp=>I.pin p (by simpa using hp),I.hok,I.len⟩
theorem Inv.untrL {pins':List (Addr×Obj)} (I:Inv (X.trL pins T) pins' σ H s):Inv X pins σ H s:=
  ⟨⟨I.ok.mod,I.ok.kind,I.ok.glob,I.ok.blt,I.ok.above,I.ok.inj,I.ok.has,I.ok.cab,I.ok.hd,I.ok.frames,I.ok.stk,I.ok.exf,I.ok.bs,I.ok.bsz,I.ok.noex,I.ok.exfs,I.ok.funs,I.ok.frf⟩,I.os,I.bare,I.base,I.loc,I.cell,I.free,I.freeC,
    fun p hp=>I.pin p (List.mem_append_left _ hp),I.hok,I.len⟩
abbrev THL:=Addr→Nat→TS
def PHsL (X:Cx) (hs:List ExceptHandler) (th:THL):Prop:=
  ∀ (pins:List (Addr×Obj)) (s:Shared) (σ:St) (H:Hp) (D:Ends) (ea C:Addr) (n:Nat) (B:Heap),Inv X pins σ H s→FlyL B X.stack ea C n s.heap→Tcov X pins H B s.heap→th C n D σ H →
    wpAny (model X.prog X.w) X.A (handleBy (.ref ea) X.env hs) (SP X pins D) X.xe s
def thNilL:THL:=fun _ _ _ _ _=>False
theorem phsL_nil:PHsL X [] thNilL:=fun _ _ _ _ _ _ _ _ _ _ _ _ h=>h.elim
def thAsL (K:PySem.W.Frag) (Ci:Addr) (i:Nat) (t:TS) (th:THL):THL:=fun C n D σ H =>
  (PySem.W.exmOne K (.ref C) (.ref Ci)=some true∧∀ ea d,H ea=none→H d=none→d≠ea→t (dropE i D) (σ.set i (some (.ref ea))) (upd (upd H d (LD d n)) ea (XE ea C d)))∨(PySem.W.exmOne K (.ref C) (.ref Ci)=some false∧th C n D σ H)
theorem Inv.adoptL {B:Heap} {ea C:Addr} {n d:Nat} {fl:Value} (I:Inv X pins σ H s) (hst:X.stack=X.env :: X.outer) (hfr:X.env.frame=some X.env.locals) (f:FlE (some d) B X.stack ea (.ref C) fl s.heap) (dne:d≠ea) (dB:B.get? d=none) (dfr:d∉frs X.stack) (ld:LdOk d n s.heap) (cov:Tcov X pins H B s.heap) :
    H ea=none∧H d=none∧Inv X pins σ (upd (upd H d (LD d n)) ea (XE ea C d)) s:=by
  obtain ⟨hB,hn,hl,oe,vs,Tr,oT,ts,he,hc,hdc,hd,_⟩:=f
  have nf:ea∉frs X.stack:=fun z=>by
    obtain ⟨_,o,ho,q⟩:=hl.mem z
    rw [he] at ho
    cases ho
    exact q vs hd
  obtain ⟨u,ru,od,es,ep,hod,hdd,hrest⟩:=id ld
  have lf:X.env.locals∈frs X.stack:=List.mem_filterMap.mpr ⟨X.env,by rw [hst]; exact List.mem_cons_self ..,hfr⟩
  have fresh:∀ {b:Addr} {o:Obj},s.heap.get? b=some o→B.get? b=none→b∉frs X.stack→H b=none∧(∀ q,X.s₀.heap.get? b=some q→b∈X.ex)∧∀ p∈X.pn++pins,p.1≠b:=fun {b o} e nB nfr=>by
    have no:∀ {q:Prop},B.get? b=some o→q:=fun z=>by rw [nB] at z; cases z
    refine ⟨?_,fun q z=>?_,fun p hp z=>?_⟩
    · cases z:H b with
      | none=>rfl
      | some y=>exact no (cov b o (.inl (by rw [z]; simp)) nfr e)
    · by_cases hx:b∈X.ex
      · exact hx
      · exact no (cov b o (.inr (.inl ⟨hx,q,z⟩)) nfr e)
    · exact no (cov b o (.inr (.inr ⟨p,hp,z⟩)) nfr e)
  obtain ⟨e1,e2,e3⟩:=fresh he hn nf
  obtain ⟨d1,d2,d3⟩:=fresh hod dB dfr
  refine ⟨e1,d1,?_⟩
  have J:=I.trackL (o:=LD d n) d1 (fun z=>dfr (z ▸ lf)) (fun v ⟨o,ho,hv⟩=>by rw [hod] at ho; cases ho; rw [hdd] at hv; cases hv) d2 d3 (LD.ok ld)
  refine J.trackL (b:=ea) (o:=XE ea C d) (by rw [upd_ne (Ne.symm dne)]; exact e1) (fun z=>nf (z ▸ lf)) (fun v ⟨o,ho,hv⟩=>by rw [he] at ho; cases ho; rw [hd] at hv; cases hv) e2 e3 (XE.ok ⟨oe,he,hc,hdc,?_⟩)
  unfold PySem.W.notCls
  rw [hd]
theorem phsL_as {x n:Str} {Ci:Addr} {np pos:Pos} {b₀:Stmt} {suite:List Stmt} {rest:List ExceptHandler} {t:TS} {th:THL} (i:Nat) (hg:Gl X x) (hm:X.mg x=some (.ref Ci)) (hN:X.N.Nodup) (hi:X.N[i]?=some n) (hk:X.env.scope.names.lookup n=some .local)
    (hsu:∀ ea,PSs (X.hdl ea) (b₀ :: suite) t) (hr:PHsL X rest th) (hd:(x == ("__debug__":Str))=false:=by decide) (hst:X.stack=X.env :: X.outer:=by rfl) (hfr:X.env.frame=some X.env.locals:=by rfl):PHsL X (.ExceptHandler (some (.Name x np)) (some n) (b₀ :: suite) pos :: rest) (thAsL X.K Ci i t th):=by
  intro pins s σ H D ea C m B I fl0 cov h
  obtain ⟨d,fl,dne,dB,dfr,ld⟩:=id fl0
  refine wpAny_handleBy_cons (codeAny_handlers_test ?_) (by intro q; cases q)
  refine ld_glob (X:=X.hdl ea) (I.hdl ea) hg hm ?_ hd
  obtain ⟨ob,hob,hc⟩:=fl.there
  have LT:PySem.W.Looks (model X.prog X.w) s.heap (typeOf (.ref ea)) (.ref C):=by
    rw [← hc]
    exact (PySem.W.Looks.ld hob).andThen .now
  rcases h with ⟨hx,q⟩ | ⟨hx,q⟩
  · refine (PySem.W.exm_one I.kIn LT hx).here ?_
    refine codeAny_handlers_suite_as (gl_lands fl fun h6 fl6 sm6=>?_)
    have I6:=I.landed fl6.1 cov sm6
    obtain ⟨hz,hzd,J⟩:=I6.adoptL hst hfr fl6 dne dB dfr (ld.sl sm6) (Tcov.land I fl6.1 cov)
    refine store_ok (X:=X.hdl ea) (v:=.ref ea) (J.hdl ea) hN hi (.inl hk) rfl (fun s2 I2=>?_) (.inr hk)
    refine wpAny_mono (hsu ea pins _ _ _ (dropE i D) I2 (q ea d hz hzd dne)) (fun f s3 z=>?_) (fun _ _ z=>False.elim z)
    show wpAny _ X.A (do bindName X.env n .none; unbindBehindTheSuite X.env n pos) (fun _ s₃=>SP X pins D f s₃) X.xe s3
    cases f with
    | next=>obtain ⟨σ',H',I3,q3⟩:=z; exact goes_ok (I3.unhdl I.ok) hN hi hk fun s4 I4=>⟨_,_,I4,q3⟩
    | brk=>obtain ⟨σ',H',I3,q3⟩:=z; exact goes_ok (I3.unhdl I.ok) hN hi hk fun s4 I4=>⟨_,_,I4,q3⟩
    | cont=>obtain ⟨σ',H',I3,q3⟩:=z; exact goes_ok (I3.unhdl I.ok) hN hi hk fun s4 I4=>⟨_,_,I4,q3⟩
    | ret u=>obtain ⟨v,σ',H',I3,r3,q3⟩:=z; exact goes_ok (I3.unhdl I.ok) hN hi hk fun s4 I4=>⟨v,_,_,I4,r3,q3⟩
  · refine (PySem.W.exm_one I.kIn LT hx).here ?_
    exact hr pins s σ H D ea C m B I fl0 cov q
def tTryL (T:Addr→Nat→St→Hp→Prop) (tb:TS) (th:THL):TS:=fun D σ H=>tb D σ H∧∀ C n σ' H',σ'.length=σ.length→T C n σ' H'→th C n D σ' H'
theorem psC_tryL {body:List Stmt} {h₀:ExceptHandler} {hs:List ExceptHandler} {pos:Pos} {tb:TS} {th:THL} (T:Addr→Nat→St→Hp→Prop) (hb:∀ pins,PSsC (X.trL pins T) body tb) (hh:PHsL X (h₀ :: hs) th)
    (hst:X.stack=X.env :: X.outer:=by rfl) (hfr:X.env.frame=some X.env.locals:=by rfl):PSC X (.Try body (h₀ :: hs) [] [] pos) (tTryL T tb th):=by
  intro pins s σ H D I h
  obtain ⟨h1,h2⟩:=h
  refine tryC (monoC (hb pins [] s σ H D (I.trL T) h1) (fun f s1 q=>?_) (fun e s1 q=>?_))
  · cases f with
    | next=>obtain ⟨σ',H',J,q⟩:=q; exact wpAny_execs_nil ⟨σ',H',J.untrL,q⟩
    | ret v=>obtain ⟨v,σ',H',J,r,q⟩:=q; exact ⟨v,σ',H',J.untrL,r,q⟩
    | brk=>obtain ⟨σ',H',J,q⟩:=q; exact ⟨σ',H',J.untrL,q⟩
    | cont=>obtain ⟨σ',H',J,q⟩:=q; exact ⟨σ',H',J.untrL,q⟩
  · obtain ⟨ea,C,n,B,σ',H',rfl,J,⟨d,fl,dne,dB,dfr,ld⟩,cov,t⟩:=q
    have fl1:FlE (some d) B (X.env :: X.outer) ea (.ref C) .none s1.heap:=by
      rw [← hst]
      exact fl
    refine gl_note (by rw [J.ok.frames,hst]) hfr fl1 fun h4 x4 s4=>?_
    refine gl_lands x4 fun h5 fl5 s5=>?_
    have J5:=J.landed fl5.1 cov (s4.trans s5)
    rw [← hst] at fl5
    exact hh pins _ σ' H' D ea C n B J5 ⟨d,fl5,dne,dB,dfr,(ld.sl s4).sl s5⟩ (Tcov.land J fl5.1 cov) (h2 C n σ' H' (by rw [J.len,I.len]) t)
def tryEL (T:Addr→Nat→St→Hp→Prop):St→XK:=fun σ c d H=>∃ C n,c=.ref C∧d=some n∧T C n σ H
theorem try_passesL:PassesS (CXl X.prog X.w) (X.trL pins T) (tryEL T):=fun pins' σ H s e s' I h=>by
  obtain ⟨ea,C,n,H',B,rfl,⟨C',n',hC,hn,q⟩,os,bare,un,hok,fl,cov⟩:=h
  cases hC
  cases hn
  have J:Inv (X.trL pins T) pins' σ H' s':=I.call' (ch:=[]) os un hok bare (fun b z=>absurd z (by simp))
  refine ⟨ea,C,n,B,σ,H',rfl,J.untrL,fl,fun b o c n e=>cov b o ?_ n e,q⟩
  rcases c with c | ⟨c1,o',c2⟩ | ⟨p,hp,rfl⟩
  · exact .inl c
  · exact .inr (I.base.there b o' c2 c1)
  · exact .inr ⟨_,(I.pin p (List.mem_append_left _ hp)).1⟩
variable {CX:CXT} {k:Nat} {f:Addr} {fd:FuncData} {ps:List Str} {sp:Sp} {E:St→XK} {x:Str} {p pos:Pos} {e:Expr} {es:List Expr} {t:TA}
theorem peC_callS (F:FnOkC X.prog X.w X.K X.mg X.base CX k f fd ps sp) (hr:Room k X.A) (hg:Gl X x) (hm:X.mg x=some (.ref f)) (hk:PySem.W.keepIn X.K (.ref f)=true) (hb:Binds X.K fd ps []) (hx:PassesS CX X E) (ha:PA X (e :: es) t)
    (hdb:(x == ("__debug__":Str))=false:=by decide) (he:starEach (e :: es) X.env=(false,eval e X.env) :: starEach es X.env:=by rfl) (hpl:(backTo pos (starEach es X.env)).any (·.1)=false:=by rfl) :
    PEC X (.Call (.Name x p) (e :: es) [] pos) (tCallS sp E t):=by
  intro pins s σ H Q I h
  rw [arm_eval_Call_Name']
  refine bindA (ld_glob I hg hm ?_ hdb)
  have h1:=ha pos pins s σ H _ I h
  show wpC _ _ (callWith pos (.ref f) [] (backTo pos (starEach (e :: es) X.env)) []) _ _ s
  rw [he] at h1 ⊢
  refine callWithC (K:=X.K) ?_ hk (Calls.evalArgs_plain (wpAny_mono h1 (fun us s1 z=>?_) fun _ _ y=>y))
  · show (false || (backTo pos (starEach es X.env)).any (·.1))=false
    rw [hpl]
    rfl
  · obtain ⟨vs,H1,I1,r,q⟩:=z
    refine ⟨I1.kIn,?_⟩
    have hl:(us++[]).length=ps.length:=by rw [List.append_nil,← r.length]; exact F.len _ _ _ _ q
    have hb1:=hb s1 us I1.kIn hl
    rw [List.append_nil] at hb1
    refine callC' (codeC_mono (F.run X.A X.stack s1 H1 ⟨us,[]⟩ us vs Q (E σ) hr I1.env0 hb1 r q) fun r s' hq=>?_)
    cases r with
    | error e=>exact hx pins σ H1 s1 e s' I1 hq
    | ok fl =>
      cases fl with
      | ret u=>exact I1.after hq
      | next=>exact False.elim hq
      | brk=>exact False.elim hq
      | cont=>exact False.elim hq
end
theorem Fun.okLC {P:Program} {w:World} {K:PySem.W.Frag} {mg:Str→Option Value} {base:Heap} {k:Nat} {f:Addr} {x qual:Str} {st:Stmt} {fd:FuncData} {N ps:List Str} {sp:Sp} (F:Fun K x qual st f fd) (S:FnScope N ps (defScope st)) (len:∀ vs H Q E,sp vs H Q E→vs.length=ps.length)
    (hbody:∀ (cdv:Value) (A:Around) (outer:List Env) (s:Shared) (H:Hp) (vs:List V) (Q:VK) (E:XK),Room k (A.deeper (envOfC qual (defScope st) s.heap.objs.size f cdv))→sp vs H Q E →
      ∃ t,PSsC (cxOf (CXl P w) P w K mg base N qual (defScope st) f cdv A outer s H E) (defBody st) t∧t {nx:=fun _ H'=>Q .non H',rt:=Q} (start N vs) H):FnOkC P w K mg base (CXl P w) (k + 1) f fd ps sp:=by
  obtain ⟨oc,od,kV,doc,pm,an,cdv,ct,osl,rfl,lk,hcd⟩:=F.ex
  exact fnC_of lk hcd S len fun A outer s H vs Q E hr hsp=>hbody cdv A outer s H vs Q E hr hsp
section
variable {prog:Program} {w:World} {A:Around} {E:Value→Shared→Prop} {s:Shared} {K:PySem.W.Frag} {x C:Addr} {ox:Obj} {od:Option Obj}
theorem exc_checkD {nameV:Value} {Q:Unit→Shared→Prop} (X:K.In s.heap) (I:PySem.W.InstAt s.heap x ox C od) (c:XCls K C) (h:Q () s):wpAny (model prog w) A (checkBuiltinCall "BaseException.__getattribute__" ⟨[.ref x,nameV],[]⟩) Q E s:=by
  obtain ⟨hh,g,d,t,os⟩:=s
  have hk:builtinKind "BaseException.__getattribute__"=some .slot:=by decide +kernel
  have hsplit:splitId "BaseException.__getattribute__"=some ("BaseException","__getattribute__"):=by decide +kernel
  have ha:=F.args_bexc_ga (.ref x) nameV
  have L0:=I.type (M:=model prog w)
  have L1:=PySem.W.looks_mroIn (M:=model prog w) X c.be
  simp only [checkBuiltinCall,hk,hsplit]
  refine wpAny_bind ?_
  unfold isInstance
  refine wpAny_bind (L0.at (L1.at ?_))
  repeat (first | assumption | wp_step)
theorem exc_classD {Q:Option Value→Shared→Prop} (X:K.In s.heap) (I:PySem.W.InstAt s.heap x ox C od) (c:XCls K C) (h:Q (some (.ref C)) {s with toks:=s.toks + 1}):wpAny (model prog w) A (getAttr? (.ref x) "__class__") Q E s:=by
  have L0:=I.type (M:=model prog w)
  have L1:=PySem.W.looks_findIn (M:=model prog w) X c.ga
  have L2':=PySem.W.looks_findIn (M:=model prog w) X c.gh
  have hf:PySem.W.findObj K C od "__class__"=some (.bind (.builtin "getset_descriptor.__get__") (.builtin "object.__class__")):=by
    obtain ⟨cd,hc⟩:=c.cs
    unfold PySem.W.findObj
    rw [hc,Option.bind_some,c.cl,Option.bind_some]
    simp [c.cn,c.ck]
  have L3:=PySem.W.looks_find (M:=model prog w) X I hf
  obtain ⟨hh,g,d,t,os⟩:=s
  unfold getAttr? getAttrBy? getAttrBy
  refine wpAny_bind (wpAny_mkText (wpAny_bind (wpAny_attempt (wpAny_holding (wpAny_bind (L0.at (wpAny_bind (L1.at ?_))))))))
  dsimp only
  rw [if_neg (show ¬ ((onTheHeap (Value.ref C) && Value.builtin "BaseException.__getattribute__" == Value.builtin "object.__getattribute__")=true) by rw [show (Value.builtin "BaseException.__getattribute__" == Value.builtin "object.__getattribute__")=false by decide +kernel,Bool.and_false]; decide)]
  unfold getAttrByItsOwn hookBefore
  rw [if_pos (show onTheHeap (Value.ref C)=true from rfl)]
  refine wpAny_bind (L2'.at (wpAny_bind (wpAny_attempt (wpAny_holding ?_))))
  unfold callGetattribute boundAndCalled
  rw [if_neg (show ¬ ((false && onTheHeap (Value.builtin "BaseException.__getattribute__"))=true) by decide),F.excAttr_ValueError.ga.bind]
  refine wpAny_bind (wpAny_pure (wpAny_call (codeAny_call_builtin F.excAttr_ValueError.ga.plain F.entry_bexc_ga (exc_checkD (s:=⟨hh,g,d,t + 1,os⟩) X I c ?_))))
  have fin:∀ (A':Around) (R:Result→Shared→Prop),R (.ok (.ret (.ref C))) ⟨hh,g,d,t + 1,os⟩→codeAny (model prog w) A' (.call (.builtin "getset_descriptor.__get__") ⟨[.builtin "object.__class__",.ref x,.ref C],[]⟩) R ⟨hh,g,d,t + 1,os⟩:=fun A' R q=>PySem.W.class_get (s:=⟨hh,g,d,t + 1,os⟩) X I c.ob q
  unfold Builtin.«object.__getattribute__» slotArgs
  refine wpAny_bind (wpAny_pure ?_)
  refine wpAny_bind (wpAny_pure ?_)
  refine wpAny_bind (L0.at (wpAny_bind (L3.at ?_)))
  unfold Builtin.ObjectAttr.bindTo
  refine wpAny_bind (wpAny_holding (wpAny_call (fin _ _ ?_)))
  refine wpAny_pure ?_
  exact PySem.W.handed_on rfl (wpAny_pure h)
theorem kitx_excD (c:XCls K C):PySem.W.KitX K (.ref x) (.ref C) (fun h=>PySem.W.InstAt h x ox C od) where
  ty:=fun _ _ _ I=>I.type
  it:=fun _ _ X _=>by
    obtain ⟨cd,hc⟩:=c.cs
    unfold PySem.W.clsIn at hc
    split at hc
    · rename_i c' d' cd' sl' ho
      intro A' Q' E' s' k q
      unfold isType loadHead
      exact wpAny_bind (wpAny_loadPart (k _ _ (X _ _ ho)) (wpAny_pure q))
    · cases hc
  ne:=(kitx_exc (x:=x) (ox:=ox) c).ne
  ca:=fun X I k=>exc_classD X I c k
theorem exc_line {v:Value} {o:Obj} {expr:Bool} {Q:Value→Shared→Prop} (X:K.In s.heap) (I:PySem.W.InstAt s.heap x ox C (some o)) (c:XCls K C) (hh:PySem.W.hasDictIn K C=true) (hn:PySem.W.findIn K (.ref C) "line"=some none) (hl:PySem.W.lookIn "line" o=some (some v))
    (hv:PySem.W.handedIn v=true) (h:Q v {s with toks:=s.toks + 1}):wpAny (model prog w) A (getAttr (.ref x) "line" expr) Q E s:=by
  have L0:=I.type (M:=model prog w)
  have L1:=PySem.W.looks_findIn (M:=model prog w) X c.ga
  have L2':=PySem.W.looks_findIn (M:=model prog w) X c.gh
  have L3:=PySem.W.looks_find (M:=model prog w) X I (PySem.W.findObj_own hh hn rfl hl)
  obtain ⟨hh,g,d,t,os⟩:=s
  unfold getAttr getAttrBy
  refine wpAny_bind (wpAny_mkText (wpAny_holding (wpAny_bind (L0.at (wpAny_bind (L1.at ?_))))))
  dsimp only
  rw [if_neg (show ¬ ((onTheHeap (Value.ref C) && Value.builtin "BaseException.__getattribute__" == Value.builtin "object.__getattribute__")=true) by rw [show (Value.builtin "BaseException.__getattribute__" == Value.builtin "object.__getattribute__")=false by decide +kernel,Bool.and_false]; decide)]
  unfold getAttrByItsOwn hookBefore
  rw [if_pos (show onTheHeap (Value.ref C)=true from rfl)]
  refine wpAny_bind (L2'.at (wpAny_bind (wpAny_attempt (wpAny_holding ?_))))
  unfold callGetattribute boundAndCalled
  rw [if_neg (show ¬ ((expr && onTheHeap (Value.builtin "BaseException.__getattribute__"))=true) by cases expr <;> decide),F.excAttr_ValueError.ga.bind]
  refine wpAny_bind (wpAny_pure (wpAny_call (codeAny_call_builtin F.excAttr_ValueError.ga.plain F.entry_bexc_ga (exc_checkD (s:=⟨hh,g,d,t + 1,os⟩) X I c ?_))))
  unfold Builtin.«object.__getattribute__» slotArgs
  refine wpAny_bind (wpAny_pure ?_)
  refine wpAny_bind (wpAny_pure ?_)
  refine wpAny_bind (L0.at (wpAny_bind (L3.at ?_)))
  refine wpAny_pure ?_
  exact PySem.W.handed_on hv h
end
section
variable {X:Cx} {pins:List (Addr×Obj)} {σ:St} {H:Hp} {s:Shared}
theorem xe_inst {a C d:Addr} {n:Nat} (ok:HOk X.prog X.w H s.heap) (e:H a=some (XE a C d)) (el:H d=some (LD d n)):∃ ox od u,PySem.W.InstAt s.heap a ox C (some od)∧RelV (.int n) u∧PySem.W.lookIn "line" od=some (some u):=by
  obtain ⟨ox,e1,c1,d1,n1⟩:=(ok a _ e).1
  obtain ⟨u,ru,ns⟩:=(ok d _ el).1
  obtain ⟨od,ho,hl⟩:=lookIn_ns ns
  refine ⟨ox,od,u,⟨e1,c1,n1,by rw [d1]; exact ho⟩,ru,?_⟩
  rw [hl]
  rfl
theorem call_isinstL:CallR X (.builtin "isinstance") (fun xs H Q=>∃ a C d n cv c b,xs=[.ref a,cv]∧RelV cv c∧(∀ u,RelV cv u→u=c)∧H a=some (XE a C d)∧H d=some (LD d n)∧XCls X.K C∧PySem.W.kitOne X.K (.ref C) c=some b∧Q (.bl b) H):=by
  intro pins s σ H xs us Q I r h
  obtain ⟨a,C,d,n,cv,c,b,rfl,_,hu,e,el,cl,k,q⟩:=h
  obtain ⟨u,w',rfl,rx,rt⟩:=vals2 r
  cases (show u=Value.ref a from rx)
  cases hu _ rt
  obtain ⟨ox,od,_,J,_⟩:=xe_inst I.hok e el
  exact PySem.W.kia_one (kitx_excD cl) I.kIn J k (fun z=>nomatch z) fun tk=>⟨.bl b,H,I.tok _,rfl,q⟩
theorem call_isinstLT:CallR X (.builtin "isinstance") (fun xs H Q=>∃ a C d n tp,∃ as:List Addr,∃ b,xs=[.ref a,.ref tp]∧H tp=some (.tup (as.map V.ref))∧H a=some (XE a C d)∧H d=some (LD d n)∧XCls X.K C∧PySem.W.kitAny X.K (.ref C) (as.map Value.ref)=some b∧Q (.bl b) H):=by
  intro pins s σ H xs us Q I r h
  obtain ⟨a,C,d,n,tp,as,b,rfl,et,e,el,cl,k,q⟩:=h
  obtain ⟨u,w',rfl,rx,rt⟩:=vals2 r
  cases (show u=Value.ref a from rx)
  cases (show w'=Value.ref tp from rt)
  obtain ⟨ox,od,_,J,_⟩:=xe_inst I.hok e el
  obtain ⟨hlen,its,rv,ob,ho,hc,m,hd⟩:=I.hok tp _ et
  have hi:its=as.map Value.ref:=by
    clear k et ho hd q hlen
    induction as generalizing its with
    | nil=>cases rv; rfl
    | cons a as ih =>
      cases rv with
      | cons h t=>rw [List.map_cons,← ih (rv:=t)]; cases (show _=Value.ref a from h); rfl
  obtain ⟨oc,odd,odt,osl⟩:=ob
  dsimp only at hc hd
  subst hc hd
  exact PySem.W.kia_tup (kitx_excD cl) I.kIn J ho (by rw [hi]; exact k) (fun z=>nomatch z) fun tk=>⟨.bl b,H,I.tok _,rfl,q⟩
def tLine (C:Addr) (ta:TE):TE:=fun σ H Q=>ta σ H fun x H1=>∃ a d n,x=.ref a∧H1 a=some (XE a C d)∧H1 d=some (LD d n)∧Q (.int (n:Nat)) H1
theorem pe_line {e:Expr} {ta:TE} {pos:Pos} {C D f:Addr} (c:LCls X.K C D f) (he:PE X e ta) (hb:attributeBase e "line" X.env (eval e X.env)=eval e X.env):PE X (.Attribute e "line" pos) (tLine C ta):=by
  intro pins s σ H Q I h
  refine attr_of hb (thn (he pins s σ H _ I h) fun u s1 ⟨x,H1,I1,rx,a,d,n,ex,ea,ed,q⟩=>?_)
  subst ex
  obtain rfl:u=Value.ref a:=rx
  obtain ⟨ox,od,u,J,ru,hl⟩:=xe_inst I1.hok ea ed
  obtain ⟨cd,hcd,_,hhd⟩:=c.cd
  exact exc_line I1.kIn J c.x (by unfold PySem.W.hasDictIn; rw [hcd]; exact hhd) c.nl hl (handed_of ru) ⟨.int n,H1,I1.tok _,ru,q⟩
end
end L2
namespace L2
open PySem PySem.Spec PyProof.Rows
theorem BodyL.own {X:Cx} {E:XK} (hb:BodyL X E):PassesOwn (model X.prog X.w) X.A X.env X.xe:=by
  rw [hb.xe]
  exact PassesOwn.leaving
def PTC (X:Cx) (e:Expr) (t:TT):Prop:=
  ∀ (whole:Sem Value) (pins:List (Addr×Obj)) (s:Shared) (σ:St) (H:Hp) (Q:Bool→Hp→Prop),whole=eval e X.env∨(∃ op es p,e=.BoolOp op es p)→Inv X pins σ H s→t σ H Q→wpC (model X.prog X.w) X.A (isTrue e X.env whole) (TP X pins σ Q) X.xe s
def PAC (X:Cx) (es:List Expr) (t:TA):Prop:=
  ∀ (pos:Pos) (pins:List (Addr×Obj)) (s:Shared) (σ:St) (H:Hp) (Q:List V→Hp→Prop),Inv X pins σ H s→t σ H Q→wpC (model X.prog X.w) X.A (spliced (backTo pos (starEach es X.env))) (AP X pins σ Q) X.xe s
section
variable {X:Cx} {a b e cc:Expr} {rest es:List Expr} {pos:Pos} {tA tB':TT} {te:TE} {t:TA} {ts us:TS}
theorem PT.c (h:PT X e tA) (hn:∀ op es p,e≠.BoolOp op es p:=by intro _ _ _ z; cases z):PTC X e tA:=fun wh pins s σ H Q hw I q=>by
  rcases hw with rfl | ⟨op,es,p,z⟩
  · exact toC (h pins s σ H Q I q)
  · exact absurd z (hn op es p)
theorem ptC_val (h:PEC X e te) (he:∀ whole,isTrue e X.env whole=(do let v ← whole; standAt e.pos; holding [v] (truthy v)):=by intro _; rfl) (hn:∀ op es p,e≠.BoolOp op es p:=by intro _ _ _ z; cases z):PTC X e (tB te):=fun wh pins s σ H Q hw I q=>by
  rcases hw with rfl | ⟨op,es,p,z⟩
  · rw [he]
    refine bindC' (thnC (h pins s σ H _ I q) fun v s1 ⟨x,H1,I1,r1,q1⟩=>?_)
    obtain ⟨d,rfl,q⟩:=q1
    cases r1
    exact toC (wpAny_bind (wpAny_standAt (wpAny_holding (wpAny_truthy_bool ⟨H1,I1,q⟩))))
  · exact absurd z (hn op es p)
theorem ptC_not (ha:PTC X a tA):PTC X (.UnaryOp .Not a pos) (tNot tA):=fun wh pins s σ H Q _ I q=>by
  show wpC _ _ (do return !(← isTrue a X.env (eval a X.env))) _ _ s
  exact bindC' (thnC (ha _ pins s σ H (fun c H1=>Q (!c) H1) (.inl rfl) I q) fun c s1 ⟨H1,I1,q1⟩=>toC (wpAny_pure ⟨H1,I1,q1⟩))
theorem ptC_and1 (ha:PTC X a tA):PTC X (.BoolOp .And [a] pos) tA:=fun wh pins s σ H Q _ I q=>by
  show wpC _ _ (isTrue a X.env (eval a X.env) >>= fun c=>match BoolOp.And,c with
    | .And,false=>pure false
    | .Or,true=>pure true
    | _,_=>allTrue .And [] X.env) _ _ s
  refine bindC' (thnC (ha _ pins s σ H Q (.inl rfl) I q) fun c s1 z=>?_)
  cases c <;> exact toC (wpAny_pure z)
theorem ptC_and (ha:PTC X a tA) (hb:PTC X (.BoolOp .And (b :: rest) pos) tB'):PTC X (.BoolOp .And (a :: b :: rest) pos) (tAnd tA tB'):=fun wh pins s σ H Q _ I q=>by
  show wpC _ _ (isTrue a X.env (eval a X.env) >>= fun c=>match BoolOp.And,c with
    | .And,false=>pure false
    | .Or,true=>pure true
    | _,_=>allTrue .And (b :: rest) X.env) _ _ s
  refine bindC' (thnC (ha _ pins s σ H _ (.inl rfl) I q) fun c s1 ⟨H1,I1,q1⟩=>?_)
  cases c with
  | true=>exact hb wh pins s1 σ H1 Q (.inr ⟨_,_,_,rfl⟩) I1 q1
  | false=>exact toC (wpAny_pure ⟨H1,I1,q1⟩)
theorem psC_ifC {x y:List Stmt} (hc:PTC X cc tA) (ha:PSsC X x ts) (hb:PSsC X y us):PSC X (.If cc x y pos) (tIfS tA ts us):=by
  intro pins s σ H D I h
  rw [exec_If]
  refine bindA (wpAny_standAt (bindC' (thnC (hc _ pins s σ H _ (.inl rfl) I h) fun d s1 ⟨H1,I1,q1⟩=>?_)))
  cases d with
  | true=>exact ha pins s1 σ H1 D I1 q1
  | false=>exact hb pins s1 σ H1 D I1 q1
end
theorem call_strV {X:Cx}:CallR X (.type "str") (fun xs H Q=>∃ x y,xs=[x]∧Shown x y∧Q (.str y) H):=by
  intro pins s σ H xs us Q I r h
  obtain ⟨x,y,rfl,sh,q⟩:=h
  rcases sh with rfl | ⟨i,rfl,l,rfl⟩
  · obtain ⟨u,rfl,t,rfl⟩:=vals1 r
    exact PySem.P.str_of_str ⟨.str y,H,I,⟨_,rfl⟩,q⟩
  · exact call_str_int pins s σ H _ us Q I r ⟨i,rfl,l,q⟩
theorem for_enum {K:PySem.W.Frag} {a:Addr} {xs:List V} {g:TG} {tb:TS} {D:Ends} {σ:St} {H:Hp} (Pv:Nat→St→Hp→Prop) (h0:Pv 0 σ H) (hl:∀ i σ H,i≤xs.length→Pv i σ H→SqL K H a xs)
    (hs:∀ i x t σ H,xs[i]?=some x→Pv i σ H→H t=none→g (.ref t) σ (upd H t (.tup [.int i,x])) fun σ2 H2=>tb {D with nx:=Pv (i + 1),ct:=Pv (i + 1),bk:=D.nx} σ2 H2) (hd:∀ σ H,Pv xs.length σ H→D.nx σ H) :
    ∃ W:Nat→Nat→St→Hp→Prop,(∃ m,W 0 m σ H)∧∀ i m σ H,W i m σ H →
      ((Ite K a).stop i H∧D.nx σ H)∨((Ite K a).go i H∧∃ N:St→Hp→Prop,(∀ σ' H',N σ' H'→∃ m',m' < m∧W (i + 1) m' σ' H')∧∀ x H',(Ite K a).yld i H x H'→g x σ H' fun σ2 H2=>tb {D with nx:=N,ct:=N,bk:=D.nx} σ2 H2):=by
  refine ⟨fun i m σ H=>m=xs.length - i∧i≤xs.length∧Pv i σ H,⟨xs.length,by simp,Nat.zero_le _,h0⟩,?_⟩
  rintro i m σ H ⟨rfl,hi,p⟩
  have q:=hl i σ H hi p
  by_cases hlt:i < xs.length
  · refine .inr ⟨⟨xs,xs[i],q,by simp [hlt]⟩,Pv (i + 1),fun σ' H' p'=>⟨xs.length - (i + 1),by omega,rfl,hlt,p'⟩,fun x H' y=>?_⟩
    obtain ⟨t,v,rfl,ht,hv,rfl⟩:=y
    exact hs i v t σ H (hv xs q) p ht
  · have e:i=xs.length:=by omega
    subst e
    exact .inl ⟨⟨xs,q,Nat.le_refl _⟩,hd σ H p⟩
end L2
namespace L2
open PySem PySem.Spec PyProof.Rows
section
variable {prog:Program} {w:World} {A:Around} {R:Result→Shared→Prop} {s:Shared} {elt target iter:Expr} {ifs:List Expr} {scope:Scope} {pos:Pos} {it acc:Value} {env:Env}
theorem compLoopC (J:Nat→Shared→Prop)
    (turn:∀ n s,J n s→wpAny (model prog w) A (pyNext it) (fun r s1=>match r with
      | none=>R (.ok .next) s1
      | some v=>wpAny (model prog w) A (letOwnedTupleGo target it v) (fun _ s2=>wpAny (model prog w) A (assign target env v) (fun _ s3 =>
          wpAny (model prog w) A (forIn ifs true fun c r=>if r=true then do let ok ← isTrue c env (eval c env); pure (ForInStep.yield ok) else pure (ForInStep.yield r)) (fun ok s4 =>
            if ok=true then wpC (model prog w) A (eval elt env) (fun x s5=>wpAny (model prog w) A (call (.builtin "list.append") [acc,x]) (fun _ s6=>∃ m,m < n∧J m s6) (fun _ _=>False) s5) (fun _ _=>False) s4
            else ∃ m,m < n∧J m s4) (fun _ _=>False) s3) (fun _ _=>False) s2) (fun _ _=>False) s1) (fun _ _=>False) s)
    (n:Nat) (h:J n s):codeC (model prog w) A (.compLoop (.ListComp elt [⟨target,iter,ifs,0⟩] scope pos) 0 it acc env) R s:=by
  refine loopC rfl J (fun n s hI=>?_) n h
  show wpC _ A ((compTurn (.ListComp elt [⟨target,iter,ifs,0⟩] scope pos) 0 it acc env).onRaise (fun x=>do noteFrame x env; theTreesLotGoes x)) _ _ s
  refine notedC ?_
  rw [compTurn_list]
  refine bindA (wpAny_standAt (bindA (wpAny_mono (turn n s hI) (fun r s1 h1=>?_) fun _ _ z=>z.elim)))
  cases r with
  | none=>exact toC (wpAny_pure h1)
  | some v =>
    refine bindA (wpAny_mono h1 (fun _ s2 h2=>?_) fun _ _ z=>z.elim)
    refine bindA (wpAny_mono h2 (fun _ s3 h3=>?_) fun _ _ z=>z.elim)
    refine bindA (wpAny_mono h3 (fun ok s4 h4=>?_) fun _ _ z=>z.elim)
    cases ok with
    | false=>exact toC (wpAny_pure (.inl ⟨rfl,h4⟩))
    | true =>
      refine bindC' (bindC' (monoC h4 (fun x s5 h5=>?_) fun _ _ z=>z.elim))
      exact toC (wpAny_bind (wpAny_mono h5 (fun _ s6 h6=>wpAny_pure (toC (wpAny_pure (.inl ⟨rfl,h6⟩)))) fun _ _ z=>z.elim))
theorem compStartC {rest:List Comprehension} (h0:codeC (model prog w) A (.compLoop (.ListComp elt (⟨target,iter,ifs,0⟩ :: rest) scope pos) 0 it acc env) R s)
    (h:wpAny (model prog w) A (pyIter it) (fun i2 z=>codeC (model prog w) A (.compLoop (.ListComp elt (⟨target,iter,ifs,0⟩ :: rest) scope pos) 0 i2 acc env) R z) (notedBy (model prog w) A env fun x z=>R (.error x) z) s) :
    codeC (model prog w) A (.compStart (.ListComp elt (⟨target,iter,ifs,0⟩ :: rest) scope pos) 0 it acc env) R s:=by
  refine treeC (toC ?_)
  show wpAny _ _ (Sem.onRaise (compStart (.ListComp elt (⟨target,iter,ifs,0⟩ :: rest) scope pos) 0 it acc env) fun x=>do noteFrame x env; standAt theWindowsPlace) _ _ s
  apply wpAny_notedAt
  unfold compStart
  show wpAny _ _ (ask >>= _) _ _ s
  apply wpAny_bind
  apply wpAny_askSetting
  apply wpAny_ite
  have k0:(Code.compLoop (.ListComp elt (⟨target,iter,ifs,0⟩ :: rest) scope pos) 0 it acc env).quiet=true:=rfl
  split
  · first
      | exact wpAny_pure ⟨k0,h0⟩
      | exact wpAny_bind (wpAny_pure (wpAny_pure ⟨k0,h0⟩))
  · have go:=wpAny_mono h (fun i2 z y=>wpAny_pure (M:=model prog w) (A:=A) (a:=Fin.again (Code.compLoop (.ListComp elt (⟨target,iter,ifs,0⟩ :: rest) scope pos) 0 i2 acc env)) (Q:=fun fin z=>match fin with | .done f=>R (.ok f) z | .again d=>d.quiet=true∧codeC (model prog w) A d R z) (E:=notedBy (model prog w) A env fun x z=>R (.error x) z) (s:=z) ⟨rfl,y⟩) fun _ _ y=>y
    apply wpAny_bind
    apply wpAny_rule
    apply wpAny_bind
    apply wpAny_standAt
    exact wpAny_bind go
end
section
variable {M:Model} {A:Around} {E:Value→Shared→Prop} {s:Shared} {env:Env}
theorem wpC_standIf {α:Type} {c:Prop} [Decidable c] {pos:Pos} {k:PUnit→Sem α} {Q:α→Shared→Prop} (h:wpC M A (k ()) Q E s):wpC M A (if c then (standAt pos >>= k) else k ()) Q E s:=by
  by_cases z:c
  · rw [if_pos z]
    exact bindA (wpAny_standAt h)
  · rw [if_neg z]
    exact h
theorem compFreeC {e:Expr} {scope:Scope} {pos:Pos} {newAcc first:Sem Value} {g:Comprehension} {gs:List Comprehension} {cl:List (Str×Addr)} {use:Option (Value→Sem Unit)} {Q:Value→Shared→Prop} (hcl:clausesOf e=g :: gs) (hs:∀ x,foldedSetIterable g.iter env x=pure x) (hclos:closureFor scope env=pure cl)
    (hkind:scope.kind=.function) (hnames:∀ x∈scope.names,x.2=.local→scope.names.lookup x.1=some .local)
    (h:wpAny M A first (fun x z1=>wpAny M A (pyIter x) (fun it z2=>wpAny M A newAcc (fun acc z3=>wpAny M A (newFunctionEnv scope env.globals cl [] env.qual none .none (some env)) (fun cenv z4 =>
        codeC M A (.compStart e 0 it acc {cenv with scope:=relabel scope env}) (compPost M A E use Q acc cenv.locals) z4) E z3) E z2) E z1) E s):wpC M A (comprehension e scope env pos newAcc false first use) Q E s:=by
  unfold comprehension
  rw [hclos,hcl]
  refine bindA (wpAny_mono h (fun x z1 h1=>bindA (wpAny_standAt (bindA (wpAny_of_eq (hs x) ?_)))) fun _ _ y=>y)
  refine bindA (wpAny_holding (wpAny_mono h1 (fun it z2 h2=>?_) fun _ _ y=>y))
  refine wpC_standIf (bindA (wpAny_mono h2 (fun acc z3 h3=>bindA (wpAny_pure (bindA (wpAny_mono h3 (fun cenv z4 h4=>?_) fun _ _ y=>y)))) fun _ _ y=>y))
  dsimp only
  have hv:∀ x∈(scope.names.filter fun x=>(x.2 == .local || x.2 == .cell) && x.1 != (".0":Str)).reverse,x.2=.local→Env.kindOf {cenv with scope:=relabel scope env} x.1=some .local:=fun x hx hl=>lookup_relabel_local (hnames x (List.mem_filter.mp (List.mem_reverse.mp hx)).1 hl)
  refine holdingC (bindC' (attemptC (holdingC (runC (codeC_mono h4 fun r z hr=>?_)))))
  have hv2:∀ x∈(scope.names.filter fun x=>(x.2 == .local || x.2 == .cell) && x.1 != (".0":Str)).reverse.drop 1++(scope.names.filter fun x=>(x.2 == .local || x.2 == .cell) && x.1 != (".0":Str)).reverse.take 1,x.2=.local→Env.kindOf {cenv with scope:=relabel scope env} x.1=some .local:=fun x hx hl=>(List.mem_append.mp hx).elim (fun a=>hv x (List.mem_of_mem_drop a) hl) fun a=>hv x (List.mem_of_mem_take a) hl
  cases r with
  | ok f =>
    cases use with
    | none =>
      obtain ⟨m,hn,hr⟩:=hr
      exact toC (wpAny_bind (wpAny_holding (wpAny_comp_letGo (cenv:={cenv with scope:=relabel scope env}) hkind _ z m hv hn fun h' m' _ hs'=>wpAny_pure (hr h' hs'))))
    | some u =>
      apply toC
      apply wpAny_bind
      apply wpAny_rule
      apply wpAny_bind
      refine wpAny_holding (wpAny_mono hr (fun _ y z2=>?_) fun _ _ y=>y)
      obtain ⟨m,hn,k⟩:=z2
      apply wpAny_bind
      exact wpAny_comp_letGo (cenv:={cenv with scope:=relabel scope env}) hkind _ y m hv2 hn fun h' m' _ hs'=>wpAny_pure (k h' hs')
  | error x =>
    have hr2:∃ m,z.heap.Ns cenv.locals m∧∀ h',Heap.SameBut cenv.locals z.heap h'→∀ c2:Env,c2.locals=cenv.locals→wpAny M A (passOn "comprehension.variables-let-go" x c2:Sem Value) (fun _ _=>False) E {z with heap:=h'}:=by cases use <;> exact hr
    obtain ⟨m,hn,hr⟩:=hr2
    exact toC (wpAny_bind (wpAny_holding (wpAny_comp_letGo (cenv:={cenv with scope:=relabel scope env}) hkind _ z m hv hn fun h' m' _ hs'=>wpAny_mono (hr h' hs' _ rfl) (fun _ _ f=>f.elim) fun _ _ y=>y)))
end
section
variable {X:Cx}
theorem comp_genC {elt target iter:Expr} {ifs:List Expr} {scope:Scope} {NN:List Str} {pos pos':Pos} {wi:TI} {g:TG} {tc:TT} {te:TE} {use:Option (Value→Sem Unit)} {Qv:Value→Shared→Prop} (own:List Str) (ok:CompOk X scope NN) (hc:X.calm=true) (hi:PI X target iter wi)
    (hg:∀ fp s₂ H₂ C,PG (cxC X scope (own++NN) fp s₂ H₂ C) target g) (ht:∀ fp s₂ H₂ C,PTs (cxC X scope (own++NN) fp s₂ H₂ C) ifs tc) (he:∀ fp s₂ H₂ C,PEC (cxC X scope (own++NN) fp s₂ H₂ C) elt te)
    (hs:∀ x,foldedSetIterable iter X.env x=pure x) {pins:List (Addr×Obj)} {s:Shared} {σ:St} {H:Hp} {Q:VK} (I:Inv X pins σ H s) (h:tComp own.length wi g tc te σ H Q)
    (hfin:∀ (s4:Shared) (C D:Addr) (H':Hp) (m:Str→Option Value),s4.heap.Ns C m→Inv X pins σ H' s4→H' C=none→C≠X.env.locals→X.s₀.heap.objs.size≤C→(∀ x c,X.env.cells.lookup x=some c→c≠C)→(∀ p∈X.pn++pins,p.1≠C)→Q (.ref D) H' →
      compPost (model X.prog X.w) X.A X.xe use Qv (.ref D) C (.ok .next) s4) :
    wpC (model X.prog X.w) X.A (comprehension (.ListComp elt [⟨target,iter,ifs,0⟩] scope pos) scope X.env pos' (newList []) false (eval iter X.env) use) Qv X.xe s:=by
  have hfr:∀ y∈scope.names,y.2=.free→∃ c,X.env.cells.lookup y.1=some c:=fun y hy e=>I.ok.has _ (ok.far y hy e)
  have okclos:closureFor scope X.env=pure (clOf X.env scope.names []):=by
    unfold closureFor
    rw [← clOf_for scope.names [] hfr]
    simp
  have oksub:∀ n c,(clOf X.env scope.names []).lookup n=some c→X.env.cells.lookup n=some c:=fun n c e=>clOf_sub (fun n c e=>by simp at e) e
  have okfar:∀ n,(scope.names.lookup n=some .cell∨scope.names.lookup n=some .free)→(∃ c,(clOf X.env scope.names []).lookup n=some c)∧(X.env.kindOf n=some .cell∨X.env.kindOf n=some .free):=fun n e=>by
    rcases e with e | e
    · exact absurd rfl (ok.nocell _ (PySem.mem_of_lookup e))
    · have m:=PySem.mem_of_lookup e
      exact ⟨clOf_has m (hfr _ m rfl),ok.far _ m rfl⟩
  refine compFreeC (use:=use) rfl hs okclos ok.kind ok.names (thn (hi pins s σ H _ I h) fun xv s1 h1=>thn h1 fun itv s2 h2=>?_)
  obtain ⟨it,fp,tn,J,H2,e,I2,T,st2,f2,W,⟨m0,w0⟩,turn⟩:=h2
  subst e
  have fpLt:∀ b∈fp,b < s2.heap.objs.size:=fun b hb=>by
    obtain ⟨o,e,_⟩:=T.obj _ _ st2 b hb
    exact Heap.lt_size e
  refine wpAny_newObj_type (wpAny_newFunctionEnv ok.nocell (by intro y hy; simp at hy) (fun h1 hns hsb=>?_) ok.kind)
  dsimp only at hns hsb ⊢
  generalize hP:s2.heap.push {cls:=.type "list",dict:=none,data:=.seq ([]:List Value).toArray}=P at hns hsb ⊢
  have hC:P.objs.size=s2.heap.objs.size + 1:=by rw [← hP,Heap.size_push]
  have hDC:s2.heap.objs.size≠P.objs.size:=by rw [hC]; exact Nat.ne_of_lt (Nat.lt_succ_self _)
  have leC:s2.heap.objs.size≤P.objs.size:=by rw [hC]; exact Nat.le_succ _
  have old:∀ b o,s2.heap.get? b=some o→h1.get? b=some o:=fun b o e =>
    hsb.extBut b o (by rw [hC]; exact Nat.ne_of_lt (Nat.lt_succ_of_lt (Heap.lt_size e))) (Heap.get?_push_of_some _ (hP ▸ Heap.get?_push_of_some _ e))
  have accAt:h1.get? s2.heap.objs.size=some {cls:=.type "list",data:=.seq ([]:List Value).toArray 0}:=hsb.extBut _ _ hDC (Heap.get?_push_of_some _ (hP ▸ Heap.get?_push_size _ rfl))
  -- the block's context is well made
  have okC:(cxC X scope (own++NN) fp s2 H2 P.objs.size).Ok:=by
    refine ⟨I.ok.mod,ok.kind,I.ok.glob,I.ok.blt,by show s2.heap.objs.size≤P.objs.size; omega,fun y z c a b=>I.ok.inj y z c (oksub _ _ a) (oksub _ _ b),fun y hy=>(okfar y (rl_far hy)).1,fun y c z _=>Bool.noConfusion z,I.ok.hd,I.ok.frames,.inl rfl,
      fun b hb=>⟨fun z=>?_,fun y c e=>(f2 b hb).2.2.2.2.1 y c (oksub _ _ e)⟩,I2.bs,Nat.le_trans I.ok.bsz I2.sz,fun b o e hb=>?_,fun b hb z=>?_,I2.stack,I2.stkFree⟩
    · exact Nat.ne_of_lt (Nat.lt_of_lt_of_le (fpLt b hb) leC) z
    · rcases (f2 b hb).2.2.2.1 with q | q
      · exact I.ok.noex b o e q
      · exact absurd (Nat.lt_of_lt_of_le (Heap.lt_size e) (Nat.le_trans I.ok.bsz q)) (Nat.lt_irrefl _)
    · rcases List.mem_cons.mp (I2.stkSub b z) with q | q
      · exact (f2 b hb).2.1 q
      · exact (f2 b hb).2.2.1 q
  have fpOk:∀ {H':Hp} {o:Obj},(∀ b∈fp,H' b=none)→∀ b∈fp,FpOk (cxC X scope (own++NN) fp s2 H2 P.objs.size) [(s2.heap.objs.size,o)] H' b:=fun {H' o} hn b hb=>by
    have lt:=fpLt b hb
    refine ⟨hn b hb,fun z=>?_,fun z=>okC.exfs b hb z,.inl hb,fun y c e=>(okC.exf b hb).2 y c e,fun p hp z=>?_⟩
    · exact Nat.ne_of_lt (Nat.lt_of_lt_of_le lt leC) z
    · have hp':p=(s2.heap.objs.size,o):=by simpa using hp
      subst hp'
      exact Nat.ne_of_lt lt (Eq.symm z)
  have cellNe:∀ y c,(clOf X.env scope.names []).lookup y=some c→c < s2.heap.objs.size:=fun y c e=>by
    obtain ⟨v,q⟩:=I2.cell y c (oksub _ _ e)
    exact q.lt
  have start:Inv (cxC X scope (own++NN) fp s2 H2 P.objs.size) [] (List.replicate own.length none++σ) H2 {s2 with heap:=h1,toks:=s2.toks + ([]:List (Str×Value)).length}:=by
    refine ⟨okC,rfl,I2.bare,Un.kept old,⟨_,hns,fun i y v e1 e2 e3=>?_⟩,fun y c e=>?_,I2.hok.fresh (by show s2.heap.objs.size≤P.objs.size; omega),fun y c e=>I2.freeC y c (oksub _ _ e),fun p hp=>absurd (show p∈([]:List (Addr×Obj)) from by simpa using hp) (by simp),I2.hok.kept old,?_⟩
    · by_cases hi:i < own.length
      · rw [List.getElem?_append_left (by simpa using hi),List.getElem?_replicate,if_pos hi] at e2
        cases e2
      · have e1n:NN[i - own.length]?=some y:=by
          have z:(own++NN)[i]?=some y:=e1
          rw [List.getElem?_append_right (by omega)] at z
          exact z
        rw [List.getElem?_append_right (by simpa using hi),List.length_replicate] at e2
        obtain ⟨ap1,ap2⟩:=ok.apart _ y e1n
        rcases e3 with e3 | e3
        · exact absurd (rl_local e3) ap1
        · obtain ⟨⟨c,hcl⟩,kc⟩:=okfar y (rl_far e3)
          have e1':X.N[i - own.length]?=some y:=by
            rcases ap2 with z | z
            · exact z
            · rcases rl_far e3 with q | q <;> (rw [z] at q; cases q)
          obtain ⟨m,hn,hl⟩:=I2.loc
          obtain ⟨u,r,l⟩:=hl (i - own.length) y v e1' e2 (.inr kc)
          refine ⟨u,r,.inr ⟨e3,c,hcl,?_⟩⟩
          rcases l with ⟨l,_⟩ | ⟨_,c',e',q⟩
          · rcases kc with kc | kc <;> (rw [l] at kc; cases kc)
          · rw [oksub _ _ hcl] at e'
            cases e'
            exact q.keeps old
    · obtain ⟨v,q⟩:=I2.cell y c (oksub _ _ e)
      exact ⟨v,q.keeps old⟩
    · show (List.replicate own.length none++σ).length=(own++NN).length
      rw [List.length_append,List.length_append,List.length_replicate,I2.len,ok.len]
  have nDC:s2.heap.objs.size≠P.objs.size:=hDC
  have nDf:s2.heap.objs.size∉frs X.stack:=fun z=>by
    rcases List.mem_cons.mp (I2.stkSub _ z) with q | q
    · exact Nat.ne_of_lt I2.lt (Eq.symm q)
    · exact I2.nofs (Nat.le_refl _) q
  have loop:∀ s₃:Shared,s₃={s2 with heap:=h1,toks:=s2.toks + ([]:List (Str×Value)).length} →
      codeC (model X.prog X.w) X.A (.compLoop (.ListComp elt [⟨target,iter,ifs,0⟩] scope pos) 0 (.ref it) (.ref s2.heap.objs.size) (compEnvC scope (clOf X.env scope.names []) P.objs.size X.env))
        (compPost (model X.prog X.w) X.A X.xe use Qv (.ref s2.heap.objs.size) P.objs.size) s₃:=by
    rintro s₃ rfl
    refine compLoopC (fun n s'=>∃ (i:Nat) (ys:List V) (H':Hp) (its:List Value) (k:Nat),Inv (cxC X scope (own++NN) fp s2 H2 P.objs.size) [] (List.replicate own.length none++σ) H' s'∧tn i s'.heap∧(∀ b∈fp,H' b=none)∧H' s2.heap.objs.size=none∧Vals ys its ∧
      s'.heap.get? s2.heap.objs.size=some {cls:=.type "list",data:=.seq its.toArray k}∧W i n ys H') ?_ m0
      ⟨0,[],H2,[],0,start,T.keep _ _ _ st2 (fun b _ o e=>old b o e),fun b hb=>(f2 b hb).1,I2.hok.fresh (Nat.le_refl _),.nil,accAt,w0⟩
    rintro n s3 ⟨i,ys,H3,its,k,I3,st3,fr3,nD,rv,hD,w3⟩
    have Ip:Inv (cxC X scope (own++NN) fp s2 H2 P.objs.size) [(s2.heap.objs.size,{cls:=.type "list",data:=.seq its.toArray k})] (List.replicate own.length none++σ) H3 s3:=I3.pins_of fun p hp=>by
      have hp':p=(s2.heap.objs.size,{cls:=.type "list",data:=.seq its.toArray k}):=by simpa using hp
      subst hp'
      exact ⟨hD,nD,nDC,nDf,fun v z=>by cases z⟩
    obtain ⟨hl,hw⟩:=turn i n ys H3 w3
    rcases hw with ⟨stop,fin⟩ | ⟨go,N,hN,step⟩
    · refine thn (T.done (cxC X scope (own++NN) fp s2 H2 P.objs.size) rfl rfl rfl hc i _ s3 _ H3 _ Ip (fpOk fr3) st3 stop) fun r s4 z=>?_
      obtain ⟨hr,I4⟩:=z
      subst hr
      obtain ⟨m,hn,_⟩:=I4.loc
      have hD4:s4.heap.get? s2.heap.objs.size=some {cls:=.type "list",data:=.seq its.toArray k}:=(I4.pin _ (List.mem_append_right _ List.mem_cons_self)).1
      obtain ⟨h',eh'⟩:∃ h',h'=s4.heap:=⟨_,rfl⟩
      have sb':∀ b o,b≠P.objs.size→s4.heap.get? b=some o→h'.get? b=some o:=fun b o hb e=>by rw [eh']; exact e
      have oldNe:∀ b o,s2.heap.get? b=some o→b≠P.objs.size∧b≠s2.heap.objs.size:=fun b o e=>by
        have lt:=Heap.lt_size e
        exact ⟨Nat.ne_of_lt (Nat.lt_of_lt_of_le lt leC),Nat.ne_of_lt lt⟩
      have trNe:∀ b u,H3 b=some u→b≠P.objs.size∧b≠s2.heap.objs.size:=fun b u e=>by
        refine ⟨fun z=>?_,fun z=>?_⟩
        · have q:H3 P.objs.size=none:=I4.free
          rw [← z,e] at q
          cases q
        · rw [z,nD] at e
          cases e
      have un:Un (frs X.stack) fp H2 (upd H3 s2.heap.objs.size (.lst ys)) s2.heap h':=by
        have B:=I4.base
        refine ⟨fun b o e q hb hx=>sb' b o (oldNe b o e).1 (B.keep b o e q hb hx),fun b o e q hb hx=>?_,fun b o e q hx=>?_,fun b o e hx=>?_,fun b xs e=>?_,fun b o u e=>?_,fun b ps e=>?_⟩
        · obtain ⟨sl,e1⟩:=B.slot b o e q hb hx
          exact ⟨sl,sb' _ _ (oldNe b o e).1 e1⟩
        · rw [upd_ne (oldNe b o e).2]
          exact B.free b o e q hx
        · obtain ⟨o',e1⟩:=B.there b o e hx
          exact ⟨o',sb' _ _ (oldNe b o e).1 e1⟩
        · have q:=B.tups b xs e
          rw [upd_ne (trNe _ _ q).2]
          exact q
        · have q:=B.frzs b o u e
          rw [upd_ne (trNe _ _ q).2]
          exact q
        · obtain ⟨more,q⟩:=B.tbls b ps e
          refine ⟨more,?_⟩
          rw [upd_ne (trNe _ _ q).2]
          exact q
      have hok:HOk X.prog X.w (upd H3 s2.heap.objs.size (.lst ys)) h':=fun b u e=>by
        by_cases hb:b=s2.heap.objs.size
        · subst hb
          rw [upd_same] at e
          cases e
          exact ⟨Nat.le_of_lt hl,its,k,rv,sb' _ _ nDC hD4⟩
        · rw [upd_ne hb] at e
          refine (I4.hok b u e).stay (fun c v hc q=>sb' c v ?_ q) (fun c q=>?_) fun c xs q=>?_
          · rcases hc with z | z
            · rw [z]
              exact (trNe _ _ e).1
            · exact (trNe _ _ z).1
          · rw [upd_ne (trNe _ _ q).2]
            exact q
          · rw [upd_ne (trNe _ _ q).2]
            exact q
      have J:=I2.call' (s':={s4 with heap:=h'}) (ch:=fp) I4.os un hok I4.bare fun b hb=>⟨(f2 b hb).2.2.2.1,(f2 b hb).2.1,(f2 b hb).2.2.2.2.1,(f2 b hb).2.2.2.2.2⟩
      subst eh'
      refine hfin s4 P.objs.size s2.heap.objs.size (upd H3 s2.heap.objs.size (.lst ys)) m hn J ?_ ?_ ?_ (fun y c e=>?_) (fun q hq=>?_) (fin _ nD)
      · rw [upd_ne nDC.symm]
        exact I4.free
      · exact Nat.ne_of_gt (Nat.lt_of_lt_of_le I2.lt leC)
      · exact Nat.le_trans I2.sz leC
      · obtain ⟨v,z⟩:=I2.cell y c e
        exact Nat.ne_of_lt (Nat.lt_of_lt_of_le z.lt leC)
      · exact Nat.ne_of_lt (Nat.lt_of_lt_of_le (Heap.lt_size (I2.pin q hq).1) leC)
    · refine thn (T.item (cxC X scope (own++NN) fp s2 H2 P.objs.size) rfl rfl rfl hc i _ s3 _ H3 _ Ip (fpOk fr3) st3 go) fun r s4 z=>?_
      obtain ⟨u,hr,h4⟩:=z
      subst hr
      refine thn h4 fun _ s5 z=>?_
      obtain ⟨x,H5,I5,r5,y5,st5,fr5⟩:=z
      have I5':=I5.pinned (fpOk fr5) (T.obj _ _ st5)
      refine thn (hg fp s2 H2 P.objs.size _ s5 _ H5 x u _ I5' r5 (step x H5 y5)) fun _ s6 z=>?_
      obtain ⟨σ6,H6,I6,hσ,q6⟩:=z
      refine thn (ht fp s2 H2 P.objs.size _ s6 σ6 H6 _ I6 q6) fun okb s7 z=>?_
      obtain ⟨H7,I7,q7⟩:=z
      have pinD:∀ {H8:Hp} {s8:Shared},Inv (cxC X scope (own++NN) fp s2 H2 P.objs.size) ([(s2.heap.objs.size,{cls:=.type "list",data:=.seq its.toArray k})]++pinsAt fp s5.heap) σ6 H8 s8 →
          s8.heap.get? s2.heap.objs.size=some {cls:=.type "list",data:=.seq its.toArray k}∧H8 s2.heap.objs.size=none:=fun I8=>by
        have z:=I8.pin (s2.heap.objs.size,{cls:=.type "list",data:=.seq its.toArray k}) (List.mem_append_right _ (List.mem_append_left _ List.mem_cons_self))
        exact ⟨z.1,z.2.1⟩
      have pinF:∀ {H8:Hp} {s8:Shared},Inv (cxC X scope (own++NN) fp s2 H2 P.objs.size) ([(s2.heap.objs.size,{cls:=.type "list",data:=.seq its.toArray k})]++pinsAt fp s5.heap) σ6 H8 s8 →
          tn (i + 1) s8.heap∧∀ b∈fp,H8 b=none:=fun {H8 s8} I8=>by
        refine ⟨T.keep _ _ _ st5 fun b hb o e=>(I8.pin (b,o) (List.mem_append_right _ (List.mem_append_right _ (mem_pinsAt hb e)))).1,fun b hb=>?_⟩
        obtain ⟨o,e,_⟩:=T.obj _ _ st5 b hb
        exact (I8.pin (b,o) (List.mem_append_right _ (List.mem_append_right _ (mem_pinsAt hb e)))).2.1
      have len6:(List.replicate own.length none++σ).length=σ6.length:=by rw [I6.len,start.len]
      cases okb with
      | false =>
        have q7':N ys H7:=q7
        obtain ⟨m',lt,w'⟩:=hN _ _ q7'
        obtain ⟨d1,d2⟩:=pinD I7
        obtain ⟨p1,p2⟩:=pinF I7
        have J7:Inv (cxC X scope (own++NN) fp s2 H2 P.objs.size) [] σ6 H7 s7:=I7.pins_of (fun p hp=>absurd hp (by simp))
        exact ⟨m',lt,i + 1,ys,H7,its,k,J7.weak len6 (drop_get hσ),p1,p2,d2,rv,d1,w'⟩
      | true =>
        refine thnC (he fp s2 H2 P.objs.size _ s7 σ6 H7 _ I7 q7) fun v8 s8 z=>?_
        obtain ⟨y,H8,I8,r8,n8⟩:=z
        obtain ⟨m',lt,w'⟩:=hN _ _ n8
        obtain ⟨d1,d2⟩:=pinD I8
        obtain ⟨p1,p2⟩:=pinF I8
        refine append_at (hsz:=by rw [List.size_toArray,← rv.length]; exact Nat.le_of_lt hl) d1 fun h9 sb hD9=>?_
        have J8:Inv (cxC X scope (own++NN) fp s2 H2 P.objs.size) [] σ6 H8 s8:=I8.pins_of (fun p hp=>absurd hp (by simp))
        have J9:Inv (cxC X scope (own++NN) fp s2 H2 P.objs.size) [] σ6 H8 {s8 with heap:=h9}:=J8.turned (t':=s8.toks) (it:=s2.heap.objs.size) (fun b o hb e=>sb.extBut b o hb e) d2 nDC (.inr (Nat.le_refl _)) (fun y c e=>Nat.ne_of_lt (cellNe y c e)) (fun p hp=>absurd hp (by simp))
        refine ⟨m',lt,i + 1,ys++[y],H8,its++[v8],k + 1,J9.weak len6 (drop_get hσ),T.keep _ _ _ p1 (fun b hb o e=>sb.extBut b o (Nat.ne_of_lt (fpLt b hb)) e),p2,d2,rv.append (.cons r8 .nil),?_,w'⟩
        show h9.get? _=_
        rw [hD9,List.push_toArray]
  exact compStartC (loop _ rfl) (T.self X.A 0 _ _ _ (T.keep _ _ _ st2 (fun b _ o e=>old b o e)) (loop _ rfl))
theorem psC_comp {elt target iter:Expr} {ifs:List Expr} {scope:Scope} {NN:List Str} {pos pos' spos:Pos} {wi:TI} {g:TG} {tc:TT} {te:TE} {i:Nat} {x:Str} (own:List Str) (ok:CompOk X scope NN) (hc:X.calm=true) (hN:X.N.Nodup) (hx0:X.N[i]?=some x) (hx:Loc X.env.scope x) (hi:PI X target iter wi)
    (hg:∀ fp s₂ H₂ C,PG (cxC X scope (own++NN) fp s₂ H₂ C) target g) (ht:∀ fp s₂ H₂ C,PTs (cxC X scope (own++NN) fp s₂ H₂ C) ifs tc) (he:∀ fp s₂ H₂ C,PEC (cxC X scope (own++NN) fp s₂ H₂ C) elt te)
    (hs:∀ x,foldedSetIterable iter X.env x=pure x:=by intro _; rfl) (hf:X.fn x=true∨X.env.scope.names.lookup x=some .local:=by first | exact .inl rfl | exact .inr rfl | assumption)
    (hsw:swapsWith (.ListComp elt [⟨target,iter,ifs,0⟩] scope pos) (some (.Name x pos')) spos.line X.env=pure true:=by rfl):PSC X (.Assign [.Name x pos'] (.ListComp elt [⟨target,iter,ifs,0⟩] scope pos) spos) (tAsg (tComp own.length wi g tc te) (gName i)):=by
  intro pins s σ H D I h
  rw [exec_Assign_Name_used _ _ _ _ hsw]
  refine bindA (wpAny_standAt (bindC' ?_))
  show wpC _ X.A (do let _ ← comprehension (.ListComp elt [⟨target,iter,ifs,0⟩] scope pos) scope X.env _ (newList []) false (eval iter X.env) (some (assign (.Name x pos') X.env))) _ _ s
  refine bindC' (monoC (comp_genC (use:=some (assign (.Name x pos') X.env)) (Qv:=fun _ s'=>SP X pins D .next s') own ok hc hi hg ht he hs I h fun s4 C DD H' m hn J n1 n2 n3 n4 n5 q=>?_) (fun _ s' hq=>toC (wpAny_pure (toC (wpAny_pure hq)))) fun _ _ e=>e)
  show wpAny _ X.A (assign (.Name x pos') X.env (.ref DD)) _ _ s4
  refine wpAny_assign_Name (store_ok2 J hN hx0 hx (show RelV (.ref DD) (.ref DD) from rfl) (fun s' J' z=>?_) hf)
  obtain ⟨a,sb,ha⟩:=z
  have na:C≠a:=by
    rcases ha with ha | ha
    · rw [ha]
      exact n2
    · exact (n4 x a ha).symm
  refine ⟨m,hn.at' fun o e=>sb.extBut C o na e,fun h' sb2=>⟨_,H',J'.turned (t':=s'.toks) (it:=C) (fun b o hb e=>sb2.extBut b o hb e) n1 n2 (.inr n3) n4 n5,q⟩⟩
end
end L2
namespace L2
open PySem PySem.Spec PyProof.Rows
section
variable {prog:Program} {w:World} {A:Around} {E:Value→Shared→Prop} {s:Shared}
theorem drop_more (ys:Array Value) {j:Nat} (n:Nat) (l:j < ys.size):(ys.toList.drop j).take (n + 1)=ys[j] :: (ys.toList.drop (j + 1)).take n:=by
  rw [List.drop_eq_getElem_cons (by simpa using l),List.take_succ_cons]
  simp
theorem draw_listU {u l:Addr} {ys:Array Value} (nu:l≠u):∀ (n j:Nat) (s:Shared) (R:List Value→Shared→Prop),s.heap.IsListIter u l j→s.heap.IsList l ys→j + n≤ys.size →
    (∀ g:Heap,g.IsListIter u l (j + n)→Heap.SameBut u s.heap g→R ((ys.toList.drop j).take n) {s with heap:=g})→wpAny (model prog w) A (draw (.ref u) n) R E s
  | 0,j,s,R,hu,_,_,kR=>wpAny_pure (by simpa using kR s.heap hu (Heap.SameBut.refl ..))
  | n + 1,j,s,R,hu,hy,hb,kR=>by
    have lj:j < ys.size:=by omega
    refine wpAny_bind (m:=pyNext (.ref u)) (wpAny_pyNext_list_item hu hy (x:=ys[j]) (by simp [lj]) fun g1 u1 s1=>wpAny_bind (wpAny_holding (draw_listU nu n (j + 1) _ _ u1 (hy.extBut s1.extBut nu) (by omega) fun g2 u2 s2=>wpAny_pure ?_)))
    have z:=kR g2 (by rw [← Nat.add_assoc,Nat.add_right_comm]; exact u2) (s1.trans s2)
    rw [drop_more ys n lj] at z
    exact z
theorem unpack_listU {l:Addr} {ys:Array Value} {R:List Value→Shared→Prop} (hd:A.handled=none) (hy:s.heap.IsList l ys)
    (kR:∀ g,Heap.ExtBut s.heap.objs.size s.heap g→R ys.toList {s with heap:=g}):wpAny (model prog w) A (unpackItems (.ref l) ys.size none) R E s:=by
  have ne:l≠s.heap.objs.size:=by
    obtain ⟨o,e,_⟩:=hy
    exact Nat.ne_of_lt (Heap.lt_size e)
  unfold unpackItems notIterableAtAll
  refine wpAny_bind (wpAny_bind (wpAny_specialOf hy.typeIs slot_list_iter.lookup (wpAny_pure ?_)))
  simp only [Bool.false_eq_true,if_false]
  refine wpAny_bind (wpAny_holding (wpAny_pyIter_list hy (wpAny_bind (wpAny_holding (draw_listU ne ys.size 0 _ _ ⟨_,Heap.get?_push_size _ rfl,rfl,rfl⟩ (hy.push _) (by omega) fun g1 u1 s1=>?_)))))
  rw [List.drop_zero,List.take_of_length_le (by simp),if_neg (by simp)]
  refine wpAny_bind (wpAny_holding (wpAny_pyNext_list_end hd u1 ((hy.push _).extBut s1.extBut ne) (by simp) fun g2 e2=>?_))
  simp only [Option.isSome_none,Bool.false_eq_true,if_false]
  exact wpAny_pure (kR g2 fun b o nb e=>e2 b o nb (s1.extBut b o nb (Heap.get?_push_of_some _ e)))
end
section
variable {X:Cx} {pos:Pos}
def gLst (K:PySem.W.Frag) (n:Nat) (t:TGs):TG:=fun v σ H Q=>∃ a xs,v=.ref a∧SqL K H a xs∧xs.length=n∧t xs σ H Q
theorem pg_lst {es:List Expr} {k:Nat} {t:TGs} {n:Nat} (hc:X.calm=true) (h:PGs X es t) (hn:(assignEach es X.env).length=n:=by rfl) (hf:(assignEach es X.env).findIdx? (·.1)=none:=by rfl):PG X (.Tuple es k pos) (gLst X.K n t):=by
  intro pins s σ H v u Q I r ⟨a,xs,ea,hq,hl,hw⟩
  subst ea
  cases r
  obtain ⟨its,rv,hp,_⟩:=I.list hq
  rw [assign_Tuple]
  refine wpAny_bind (wpAny_standAt ?_)
  unfold unpack
  rw [show (assignEach es X.env).length=its.toArray.size by simp [hn,← hl,rv.length],hf]
  refine wpAny_bind (wpAny_holding (unpack_listU (I.ok.hd hc) hp.isList fun g ex=>?_))
  exact h pins _ σ H xs _ Q (I.kept (t':=s.toks) fun b o e=>ex b o (Nat.ne_of_lt (Heap.lt_size e)) e) (by simpa using rv) hw
end
end L2
namespace My
open PySem L2
def top (i:Nat):Stmt:=PySem.Challenge.pw_momentloom_k79_lines_of_no_book.main.body.getD i (.Pass ⟨0,0,0,0⟩)
abbrev s_Fault_word:Stmt:=inClass (top 2) 0
abbrev s_NoText_init:Stmt:=inClass (top 5) 0
abbrev s_lines_of:Stmt:=top 9
abbrev s_is_name:Stmt:=top 10
abbrev s_number_in:Stmt:=top 11
abbrev s_read_book:Stmt:=top 14
abbrev s_ending_of:Stmt:=top 15
abbrev s_take_line:Stmt:=top 16
abbrev s_take_inner:Stmt:=top 17
abbrev s_happening_of:Stmt:=top 18
abbrev s_write_of:Stmt:=top 19
abbrev s_numbers_in:Stmt:=top 20
abbrev s_law_purse:Stmt:=top 22
abbrev s_law_take:Stmt:=top 23
abbrev s_law_names:Stmt:=top 24
abbrev s_law_worth:Stmt:=top 25
abbrev s_law_far:Stmt:=top 26
abbrev s_law_happening:Stmt:=top 27
abbrev s_law_write:Stmt:=top 28
abbrev s_law_record:Stmt:=top 29
abbrev s_law_ending:Stmt:=top 30
abbrev s_law_book:Stmt:=top 31
abbrev s_law_joined:Stmt:=top 32
abbrev s_law_happening_line:Stmt:=top 33
abbrev s_law_lines:Stmt:=top 34
abbrev s_law_odd:Stmt:=top 35
abbrev s_law_refused:Stmt:=top 36
abbrev s_law_good:Stmt:=top 37
abbrev s_law:Stmt:=top 38
end My
namespace My
open PySem L2
structure Df (K:PySem.W.Frag) (mg:Str→Option Value) (x:Str) (st:Stmt) (ps:List Str) (f:Addr) (fd:FuncData):Prop where
  F:Fun K x x st f fd
  b:Binds K fd ps []
  m:mg x=some (.ref f)
structure Bl (mg:Str→Option Value):Prop where
  len:mg "len"=none
  abs:mg "abs"=none
  isi:mg "isinstance"=none
  list:mg "list"=none
  tuple:mg "tuple"=none
  str:mg "str"=none
  int:mg "int"=none
  bool:mg "bool"=none
  range:mg "range"=none
  max:mg "max"=none
  dict:mg "dict"=none
theorem boot_abs:bootBuiltins "abs"=some (.builtin "abs"):=by decide +kernel
theorem boot_isi:bootBuiltins "isinstance"=some (.builtin "isinstance"):=by decide +kernel
theorem boot_list:bootBuiltins "list"=some (.type "list"):=by decide +kernel
theorem boot_tuple:bootBuiltins "tuple"=some (.type "tuple"):=by decide +kernel
theorem boot_str:bootBuiltins "str"=some (.type "str"):=by decide +kernel
theorem boot_int:bootBuiltins "int"=some (.type "int"):=by decide +kernel
def But (p:Addr) (H H':Hp):Prop:=∀ b o,H b=some o→b≠p→H' b=some o
theorem But.refl (p:Addr) (H:Hp):But p H H:=fun _ _ e _=>e
theorem But.trans {p:Addr} {H H1 H2:Hp} (a:But p H H1) (b:But p H1 H2):But p H H2:=fun c o e n=>b c o (a c o e n) n
theorem But.upd (p:Addr) (H:Hp) (o:HO):But p H (upd H p o):=fun b u e n=>by rw [upd_ne n]; exact e
theorem But.same {p:Addr} {H H1 H2:Hp} (a:But p H H1) (b:Same H1 H2):But p H H2:=fun c o e n=>b c o (a c o e n)
theorem same_new {H:Hp} {p:Addr} (h:H p=none) (o:HO):Same H (upd H p o):=fun b u q=>by rw [upd_ne (ne_of_none q h)]; exact q
theorem lt2:2≤sizeLine:=by decide
end My
namespace My
open PySem L2
def rLenK (K:PySem.W.Frag):List V→Hp→VK→Prop:=fun xs H Q=>∃ p ys,xs=[.ref p]∧(SqL K H p ys∨SqT K H p ys)∧Q (.int ys.length) H
theorem call_lenK {X:Cx} (K:PySem.W.Frag) (hK:X.K=K):CallR X (.builtin "len") (rLenK K):=by
  rw [← hK]
  exact call_len_seq
theorem ix_listK {X:Cx} (K:PySem.W.Frag) (hK:X.K=K):IxR X (rIxL K):=by
  rw [← hK]
  exact ix_list
theorem ret_i {te:TE} {D:Ends} {σ:St} {H:Hp} (h:te σ H D.rt):tRet te D σ H:=h
end My
namespace My
open PySem L2
section
variable {X:Cx} {es:List Expr} {te:TE} {t:TA}
theorem pa_tup {es':List Expr} {k:Nat} {p:Pos} (ha:PE X (.Tuple es' k p) te) (hr:PA X es t):PA X (.Tuple es' k p :: es) (tCons te t):=pa_cons ha hr (by rfl)
theorem pa_lst {es':List Expr} {p:Pos} (ha:PE X (.List es' p) te) (hr:PA X es t):PA X (.List es' p :: es) (tCons te t):=pa_cons ha hr (by rfl)
theorem pa_c {c:Const} {k:Nat} {p:Pos} (ha:PE X (.Constant c k p) te) (hr:PA X es t):PA X (.Constant c k p :: es) (tCons te t):=pa_cons ha hr (by rfl)
theorem pa_n {x:Str} {p:Pos} (ha:PE X (.Name x p) te) (hr:PA X es t):PA X (.Name x p :: es) (tCons te t):=pa_cons ha hr (by rfl)
theorem pa_f {g:Expr} {as:List Expr} {ks:List Keyword} {p:Pos} (ha:PE X (.Call g as ks p) te) (hr:PA X es t):PA X (.Call g as ks p :: es) (tCons te t):=pa_cons ha hr (by rfl)
theorem pa_s {a b:Expr} {p:Pos} (ha:PE X (.Subscript a b p) te) (hr:PA X es t):PA X (.Subscript a b p :: es) (tCons te t):=pa_cons ha hr (by rfl)
theorem pa_b {a b:Expr} {o:Operator} {p:Pos} (ha:PE X (.BinOp a o b p) te) (hr:PA X es t):PA X (.BinOp a o b p :: es) (tCons te t):=pa_cons ha hr (by rfl)
end
def Det (t:L2.TT) (σ:St) (H:Hp) (b:Bool):Prop:=∀ Q:Bool→Hp→Prop,Q b H→t σ H Q
end My
namespace L2
open PySem PySem.Spec PyProof.Rows
def CDivC (_ j:Int):Prop:=0 < j∧j < 2 ^ 80
theorem op_fdivC {X:Cx}:OpR X (binaryOp .FloorDiv) (rI CDivC fun i j=>.int (i / j)):=opI fun i j _ _ _ _ _ hc q=>by
  have h1:(0:Int) < j:=hc.1
  have h2:j < 2 ^ 80:=hc.2
  have h3:j.natAbs < 2 ^ 80:=by omega
  exact floordiv_int (by omega) (by rw [Int.fdiv_eq_ediv_of_nonneg i (by omega)]; exact q) (.inl (PyProof.noPylong_of_log2 (Nat.lt_trans ((Nat.log2_lt (show j.natAbs≠0 by omega)).mpr h3) (by decide))))
end L2
namespace My
open PySem L2
theorem seq_i {t u:TS} {D:Ends} {σ:St} {H:Hp} (h:t {D with nx:=u D} σ H):tSeq t u D σ H:=h
theorem asg_i {te:TE} {g:TG} {D:Ends} {σ:St} {H:Hp} (h:te σ H fun x H1=>g x σ H1 D.nx):tAsg te g D σ H:=h
theorem gname_i {i:Nat} {v:V} {σ:St} {H:Hp} {Q:St→Hp→Prop} (h:Q (σ.set i (some v)) H):gName i v σ H Q:=h
theorem line1000:1000 < sizeLine:=by decide
def abc:Str:="abcdefghijklmnopqrstuvwxyz"
theorem abc_len:abc.cps.toList.length=26:=by decide +kernel
theorem abc_short:abc.length≤sizeLine:=by decide +kernel
theorem abc_at {z:Int} (h0:0≤z) (h1:z < 26):∃ c,atI abc.cps.toList z=some c:=by
  obtain ⟨j,rfl⟩:∃ j:Nat,z=(j:Int):=⟨z.toNat,by omega⟩
  have l:j < abc.cps.toList.length:=by rw [abc_len]; omega
  exact ⟨abc.cps.toList[j],atI_nat (List.getElem?_eq_getElem l)⟩
theorem str_len_app (x y:Str):(x++y).length=x.length + y.length:=by
  show (x++y).cps.size=x.cps.size + y.cps.size
  show (x.cps++y.cps).size=_
  rw [Array.size_append]
section
variable {P:Program} {w:World} {K:PySem.W.Frag} {mg:Str→Option Value} {base:Heap} {f fT fW:Addr} {fd fdT fdW:FuncData}
seal L2.PS L2.PSs L2.PE L2.PA L2.PT L2.PW L2.PI L2.PG L2.PGs L2.PC
def Purse (H:Hp) (p:Addr):Prop:=∃ x y:Int,H p=some (.lst [.int x,.int y])
theorem Purse.same {H H':Hp} {p:Addr} (a:Purse H p) (b:Same H H'):Purse H' p:=by
  obtain ⟨x,y,e⟩:=a
  exact ⟨x,y,b _ _ e⟩
theorem small_mod (x:Int):-(2 ^ 64) < x % 2147483629∧x % 2147483629 < 2 ^ 64:=by
  have h1:=Int.emod_nonneg x (show (2147483629:Int)≠0 by decide)
  have h2:=Int.emod_lt_of_pos x (show (0:Int) < 2147483629 by decide)
  omega
theorem comp_rngT {n:Nat} {ti:TE} {g:TG} {tc:L2.TT} {te:TE} {σ:St} {H:Hp} {Q:VK} (P:Nat→Hp→Prop) (hi:∀ R:VK,(∀ (m:Nat) (H1:Hp),P m H1→R (.int m) H1)→ti σ H R) (hb:∀ m H1,P m H1→m < 1000) (Pv:Nat→Hp→Nat→List V→Hp→Prop) (h0:∀ m H1,P m H1→Pv m H1 0 [] H1) (hl:∀ m H1,P m H1→∀ i ys H,i≤m→Pv m H1 i ys H→ys.length < sizeLine)
    (hs:∀ m H1,P m H1→∀ i ys H,i < m→Pv m H1 i ys H→g (.int (0 + i)) (List.replicate n none++σ) H fun σ2 H2=>σ2.drop n=σ∧tc σ2 H2 fun b H3=>if b=true then te σ2 H3 fun y H4=>Pv m H1 (i + 1) (ys++[y]) H4 else Pv m H1 (i + 1) ys H3)
    (hd:∀ m H1,P m H1→∀ ys H,Pv m H1 m ys H→∀ p,H p=none→Q (.ref p) (upd H p (.lst ys))):tComp n (iRng1 (tCons ti tNil)) g tc te σ H Q:=
  hi _ fun m H1 p=>⟨(m:Int),rfl,by have:=hb m H1 p; omega,by have:=hb m H1 p; omega,by
    rw [Int.toNat_natCast]
    exact comp_rng (Pv m H1) (h0 m H1 p) (hl m H1 p) (hs m H1 p) (hd m H1 p)⟩
theorem newp {p:Addr} {G:Hp} {a:Addr} (h:Purse G p) (n:G a=none):a≠p:=by
  obtain ⟨x,y,e⟩:=h
  exact (ne_of_none e n).symm
theorem purse_upd {p:Addr} {G:Hp} (h:Purse G p) {a:Addr} {o:HO} (n:a≠p):Purse (upd G a o) p:=by
  obtain ⟨x,y,e⟩:=h
  exact ⟨x,y,by rw [upd_ne n.symm]; exact e⟩
theorem comp_listT {K:PySem.W.Frag} {n:Nat} {ti:TE} {g:TG} {tc:L2.TT} {te:TE} {σ:St} {H:Hp} {Q:VK} {a:Addr} {xs:List V} (hi:∀ R:VK,R (.ref a) H→ti σ H R) (hx:SqL K H a xs) (Pv:Nat→List V→Hp→Prop) (h0:Pv 0 [] H) (hl:∀ i ys H,i≤xs.length→Pv i ys H→SqL K H a xs∧ys.length < sizeLine)
    (hs:∀ i x ys H,xs[i]?=some x→Pv i ys H→g x (List.replicate n none++σ) H fun σ2 H2=>σ2.drop n=σ∧tc σ2 H2 fun b H3=>if b=true then te σ2 H3 fun y H4=>Pv (i + 1) (ys++[y]) H4 else Pv (i + 1) ys H3)
    (hd:∀ ys H,Pv xs.length ys H→∀ p,H p=none→Q (.ref p) (upd H p (.lst ys))):tComp n (iList K ti) g tc te σ H Q:=
  hi _ ⟨a,rfl,⟨xs,hx⟩,comp_list Pv h0 hl hs hd⟩
theorem cut_mem {xs:List V} {lo hi:Option Int} {v:V} (h:v∈cutV xs lo hi):v∈xs:=by
  unfold cutV at h
  exact List.mem_of_mem_drop (List.mem_of_mem_take h)
theorem at_mod {xs:List V} (h:xs≠[]) (z:Int):∃ v,atI xs (z % (xs.length:Int))=some v∧v∈xs:=by
  have hl:0 < xs.length:=List.length_pos_iff.mpr h
  have h0:=Int.emod_nonneg z (show (xs.length:Int)≠0 by omega)
  have h1:=Int.emod_lt_of_pos z (show (0:Int) < (xs.length:Int) by omega)
  obtain ⟨j,hj⟩:∃ j:Nat,z % (xs.length:Int)=(j:Int):=⟨(z % (xs.length:Int)).toNat,by omega⟩
  rw [hj] at h1 ⊢
  have hj2:j < xs.length:=by omega
  exact ⟨xs[j],atI_nat (List.getElem?_eq_getElem hj2),List.getElem_mem hj2⟩
abbrev nT:List Str:=["_law_purse_here","_law_many","_law_at","_law_found"]
abbrev pT:List Str:=["_law_purse_here","_law_many"]
theorem scT:FnScope nT pT (defScope s_law_take):=⟨rfl,rfl,rfl,by decide +kernel,rfl,by decide +kernel,by decide +kernel⟩
def spTake:Sp:=fun vs H Q _=>∃ (p:Addr) (n:Int),vs=[.ref p,.int n]∧Purse H p∧0 < n∧n < 2 ^ 80∧∀ (r:Int) (H':Hp),0≤r→r < n→Purse H' p→But p H H'→Q (.int r) H'
theorem ok_take (D:Df K mg "_law_take" s_law_take pT f fd) (B:Bl mg):FnOk P w K mg base CX0 1 f fd pT spTake:=by
  refine D.F.ok scT (fun vs H Q E h=>?_) (fun cdv A outer s H vs Q E hr h=>?_)
  · obtain ⟨p,n,rfl,_⟩:=h
    rfl
  obtain ⟨p,n,rfl,⟨x,y,hp⟩,hn,hn2,q⟩:=h
  refine ⟨_,pss_cons (ps_set (i:=2) scT.nd rfl (Or.inl rfl) (pe_callTy call_int1 (by rfl) B.int boot_int (pa_cons (pe_cmpR op_eq (pe_ix ix_list (pv 0) pe_int (fun _ _=>rfl)) pe_int (nomark _)) pa_nil)))
    (pss_cons (ps_set (i:=3) scT.nd rfl (Or.inl rfl) (pe_op op_mod (pe_ix ix_list (pv 0) (pv 2) (fun _ _=>rfl)) (pv 1)))
    (pss_cons (ps_asg (pe_op op_fdivC (pe_ix ix_list (pv 0) (pv 2) (fun _ _=>rfl)) (pv 1)) (pg_sub (pv 0) (pv 2) set_list))
    (pss_one (ps_ret (pv 3))))),?_⟩
  refine seq_i (asg_i ?_)
  refine ⟨_,rfl,p,_,_,_,rfl,rfl,SqL.of hp,rfl,rfl,.inr ⟨_,rfl,?_⟩⟩
  refine gname_i ?_
  dsimp only
  generalize hb:decide (V.int x=V.int 0)=b
  refine seq_i (asg_i ?_)
  cases b with
  | true =>
    refine ⟨_,rfl,_,rfl,p,_,_,_,rfl,rfl,SqL.of hp,rfl,_,rfl,_,_,rfl,rfl,hn,?_⟩
    refine gname_i ?_
    dsimp only
    refine ⟨_,rfl,_,rfl,p,_,_,_,rfl,rfl,SqL.of hp,rfl,_,rfl,_,_,rfl,rfl,⟨hn,hn2⟩,_,rfl,_,rfl,p,_,_,_,rfl,rfl,hp,rfl,?_⟩
    refine ⟨_,rfl,?_⟩
    exact q _ _ (Int.emod_nonneg _ (by omega)) (Int.emod_lt_of_pos _ hn) ⟨_,_,upd_same⟩ (But.upd p H _)
  | false =>
    refine ⟨_,rfl,_,rfl,p,_,_,_,rfl,rfl,SqL.of hp,rfl,_,rfl,_,_,rfl,rfl,hn,?_⟩
    refine gname_i ?_
    dsimp only
    refine ⟨_,rfl,_,rfl,p,_,_,_,rfl,rfl,SqL.of hp,rfl,_,rfl,_,_,rfl,rfl,⟨hn,hn2⟩,_,rfl,_,rfl,p,_,_,_,rfl,rfl,hp,rfl,?_⟩
    refine ⟨_,rfl,?_⟩
    exact q _ _ (Int.emod_nonneg _ (by omega)) (Int.emod_lt_of_pos _ hn) ⟨_,_,upd_same⟩ (But.upd p H _)
abbrev nW:List Str:=["_law_purse_here","_law_sort"]
abbrev pW:List Str:=["_law_purse_here"]
def spWorth:Sp:=fun vs H Q _=>∃ p:Addr,vs=[.ref p]∧Purse H p∧∀ (r:Int) (H':Hp),-(10 ^ 15)≤r→r≤10 ^ 15→Purse H' p→But p H H'→Q (.int r) H'
abbrev nP:List Str:=["_law_script","_law_cells","_law_found","_law_number","_law_k","_law_cell"]
abbrev pP:List Str:=["_law_script"]
theorem scP:FnScope nP pP (defScope s_law_purse):=⟨rfl,rfl,rfl,by decide +kernel,rfl,by decide +kernel,by decide +kernel⟩
def spPurse (K:PySem.W.Frag):Sp:=fun vs H Q _=>∃ (a:Addr) (ns:List Int),vs=[.ref a]∧SqL K H a (ns.map V.int)∧ns.length≤63∧(∀ x∈ns,Builtin.Int.intBits x≤1048576)∧∀ (p:Addr) (H':Hp),H p=none→Purse H' p→Same H H'→Q (.ref p) H'
theorem ok_purse (D:Df K mg "_law_purse" s_law_purse pP f fd) (B:Bl mg):FnOk P w K mg base CX0 1 f fd pP (spPurse K):=by
  refine D.F.ok scP (fun vs H Q E h=>?_) (fun cdv A outer s H vs Q E hr h=>?_)
  · obtain ⟨a,ns,rfl,_⟩:=h
    rfl
  obtain ⟨a,ns,rfl,hS,hlen,hbits,q⟩:=h
  refine ⟨_,pss_cons (ps_set (i:=1) scP.nd rfl (Or.inl rfl) (pe_op op_cat (pe_slice sl_list (pv 0) po_none (po_some pe_int)) (pe_lst (pa_c pe_int pa_nil))))
    (pss_cons (ps_set (i:=2) scP.nd rfl (Or.inl rfl) pe_int)
    (pss_cons (ps_set (i:=3) scP.nd rfl (Or.inl rfl) pe_int)
    (pss_cons (ps_for PassesOwn.never rfl (pi_range1 (by rfl) B.range (pa_c pe_int pa_nil)) (pg_name (i:=4) scP.nd rfl (Or.inl rfl)) (pss_cons (ps_set (i:=5) scP.nd rfl (Or.inl rfl) (pe_ix ix_list (pv 1) (pe_op op_mod (pv 4) (pe_callB (call_lenK K (by rfl)) (by rfl) B.len PySem.boot_len (pa_n (pv 1) pa_nil))) (fun _ _=>rfl)))
    (pss_cons (ps_set (i:=3) scP.nd rfl (Or.inl rfl) (pe_op op_mod (pe_op op_add (pe_op op_add (pe_op op_add (pe_op op_mul (pv 3) (pv 3)) (pv 5)) (pe_op op_mul pe_int (pv 4))) pe_int) pe_int))
    (pss_one (ps_set (i:=2) scP.nd rfl (Or.inl rfl) (pe_op op_add (pe_op op_mul (pv 2) pe_int) (pe_op op_mod (pe_op op_mul (pv 3) (pv 3)) pe_int)))))))
    (pss_cons (ps_if (pt_cmpR op_eq (pe_op op_mod (pe_ix ix_list (pv 1) pe_int (fun _ _=>rfl)) pe_int) pe_int (nomark _)) (pss_one (ps_ret (pe_lst (pa_b (pe_op op_fdivC (pe_callB call_abs (by rfl) B.abs boot_abs (pa_s (pe_ix ix_list (pv 1) pe_int (fun _ _=>rfl)) pa_nil)) pe_int) (pa_n (pv 2) pa_nil))))) pss_nil)
    (pss_one (ps_ret (pe_lst (pa_c pe_int (pa_n (pv 2) pa_nil))))))))),?_⟩
  have big:=line1000
  refine seq_i (asg_i ?_)
  refine ⟨_,rfl,_,rfl,a,_,rfl,hS,fun l hl=>⟨(by show 1≤sizeLine; decide),fun m hm=>?_⟩⟩
  have hlm:l≠m:=ne_of_none (upd_same:upd H l (.lst (cutV (ns.map V.int) none (some 63))) l=_) hm
  have cl:(cutV (ns.map V.int) none (some 63)).length≤63:=Nat.le_trans (cutV_length _ _ _) (by rw [List.length_map]; exact hlen)
  have l64:(cutV (ns.map V.int) none (some 63)).length + [V.int 1].length≤sizeLine:=by
    rw [List.length_singleton]
    omega
  refine ⟨l,m,_,_,rfl,rfl,(by rw [upd_ne hlm]; exact upd_same),upd_same,l64,fun c hc=>?_⟩
  generalize hcs:cutV (ns.map V.int) none (some 63)++[V.int 1]=cs at hc ⊢
  have sc:Same H (upd (upd (upd H l (.lst (cutV (ns.map V.int) none (some 63)))) m (.lst [.int 1])) c (.lst cs)):=(same_new hl _).trans ((same_new hm _).trans (same_new hc _))
  generalize hH:upd (upd (upd H l (.lst (cutV (ns.map V.int) none (some 63)))) m (.lst [.int 1])) c (.lst cs)=H1 at sc ⊢
  have hc1:H1 c=some (.lst cs):=by rw [← hH]; exact upd_same
  have nonil:cs≠[]:=by rw [← hcs]; simp
  have cells:∀ v∈cs,∃ z:Int,v=.int z∧Builtin.Int.intBits z≤1048576:=fun v hv=>by
    rw [← hcs] at hv
    rcases List.mem_append.mp hv with z | z
    · obtain ⟨n,hn,rfl⟩:=List.mem_map.mp (cut_mem z)
      exact ⟨n,rfl,hbits n hn⟩
    · rw [List.mem_singleton.mp z]
      exact ⟨1,rfl,by decide⟩
  refine gname_i ?_
  dsimp only
  refine seq_i (asg_i ?_)
  refine gname_i ?_
  dsimp only
  refine seq_i (asg_i ?_)
  refine gname_i ?_
  dsimp only
  refine seq_i ?_
  refine ⟨120,rfl,by decide,by decide,for_range (n:=120) (fun i σ H2=>∃ (z y:Int) (u v:Option V),σ=[some (.ref a),some (.ref c),some (.int z),some (.int y),u,v]∧-(2 ^ 64) < y∧y < 2 ^ 64∧H2=H1) ⟨1,5,none,none,rfl,by decide,by decide,rfl⟩ ?_ ?_⟩
  · rintro i σ H2 hi ⟨z,y0,u0,v,rfl,hy1,hy2,rfl⟩
    obtain ⟨u,hu,hm2⟩:=at_mod nonil (0 + (i:Int))
    obtain ⟨y,rfl,hy⟩:=cells u hm2
    have lpos:(0:Int) < (cs.length:Int):=by
      have:=List.length_pos_iff.mpr nonil
      omega
    refine seq_i (asg_i ?_)
    refine ⟨_,rfl,_,rfl,_,rfl,c,_,rfl,.inl (SqL.of hc1),_,_,rfl,rfl,lpos,c,_,_,_,rfl,rfl,SqL.of hc1,hu,?_⟩
    refine gname_i ?_
    dsimp only
    refine seq_i (asg_i ?_)
    refine ⟨_,rfl,_,rfl,_,_,rfl,rfl,.inl ⟨hy1,hy2⟩,_,rfl,_,_,rfl,rfl,_,rfl,_,_,rfl,rfl,.inl ⟨by decide,by decide⟩,_,_,rfl,rfl,_,_,rfl,rfl,_,_,rfl,rfl,(by show (0:Int) < 2147483629; decide),?_⟩
    refine gname_i ?_
    dsimp only
    refine asg_i ?_
    refine ⟨_,rfl,_,_,rfl,rfl,.inr ⟨by decide,by decide⟩,_,rfl,_,rfl,_,_,rfl,rfl,.inl (small_mod _),_,_,rfl,rfl,(by show (0:Int) < 2147483587; decide),_,_,rfl,rfl,?_⟩
    refine gname_i ?_
    exact ⟨_,_,_,_,rfl,(small_mod _).1,(small_mod _).2,rfl⟩
  · rintro σ H2 ⟨z,y0,u0,v,rfl,hy1,hy2,rfl⟩
    obtain ⟨x0,hx0⟩:∃ x0,cs[0]?=some x0:=by
      cases cs with
      | nil=>exact absurd rfl nonil
      | cons x0 r=>exact ⟨x0,rfl⟩
    obtain ⟨y,rfl,hy⟩:=cells x0 (List.mem_of_getElem? hx0)
    have a0:atI cs 0=some (.int y):=atI_nat (j:=0) hx0
    refine seq_i ?_
    refine ⟨_,rfl,c,_,_,_,rfl,rfl,SqL.of hc1,a0,_,_,rfl,rfl,(by show (0:Int) < 2; decide),rfl,_,rfl,?_⟩
    refine ite2 (fun _=>?_) (fun _=>?_)
    · refine ⟨_,rfl,c,_,_,_,rfl,rfl,SqL.of hc1,a0,_,rfl,_,_,rfl,rfl,⟨by decide,by decide⟩,_,rfl,lt2,fun p hp=>?_⟩
      exact q p _ (sc.free hp) ⟨_,_,upd_same⟩ (sc.trans (same_new hp _))
    · refine ⟨_,rfl,lt2,fun p hp=>?_⟩
      exact q p _ (sc.free hp) ⟨_,_,upd_same⟩ (sc.trans (same_new hp _))
end
end My
namespace My
open PySem L2
theorem fold_size (z:Str):∀ (ps:List Str) (acc:Array Nat),(ps.foldl (fun acc p=>acc++z.cps++p.cps) acc).size=acc.size + (ps.map fun x=>x.length).sum + ps.length * z.length
  | [],acc=>by simp
  | p :: ps,acc=>by
    rw [List.foldl_cons,fold_size z ps,Array.size_append,Array.size_append,List.map_cons,List.sum_cons,List.length_cons,Nat.succ_mul]
    show acc.size + z.length + p.length + _ + _=_
    omega
theorem join_len (z:Str) (ys:List Str):(Txt.join z ys).length≤jsz z ys:=by
  cases ys with
  | nil=>exact Nat.zero_le _
  | cons p ps =>
    show (ps.foldl (fun acc p=>acc++z.cps++p.cps) p.cps).size≤_
    rw [fold_size]
    unfold jsz
    rw [List.map_cons,List.sum_cons,List.length_cons,Nat.succ_mul]
    show p.length + _ + _≤_
    omega
theorem fold_pre (z:Str) (a:Array Nat):∀ (ps:List Str) (acc:Array Nat),ps.foldl (fun acc p=>acc++z.cps++p.cps) (a++acc)=a++ps.foldl (fun acc p=>acc++z.cps++p.cps) acc
  | [],acc=>rfl
  | p :: ps,acc=>by
    rw [List.foldl_cons,List.foldl_cons,← fold_pre z a ps,Array.append_assoc,Array.append_assoc,Array.append_assoc]
theorem join_cons (z x y:Str) (ys:List Str):Txt.join z (x :: y :: ys)=x++z++Txt.join z (y :: ys):=by
  show (⟨ys.foldl (fun acc p=>acc++z.cps++p.cps) (x.cps++z.cps++y.cps)⟩:Str)=⟨x.cps++z.cps++ys.foldl (fun acc p=>acc++z.cps++p.cps) y.cps⟩
  rw [fold_pre]
theorem jsz_le {z:Str} {ys:List Str} {k:Nat} (h:∀ x∈ys,x.length≤k):jsz z ys≤ys.length * (k + z.length):=by
  unfold jsz
  induction ys with
  | nil=>simp
  | cons y ys ih =>
    have h1:=h y (List.mem_cons_self ..)
    have h2:=ih fun x hx=>h x (List.mem_cons_of_mem _ hx)
    rw [List.map_cons,List.sum_cons,List.length_cons,Nat.succ_mul,Nat.succ_mul]
    omega
def Ltr (x:Str):Prop:=∀ c∈x.cps.toList,97≤c∧c≤122
def Nam (x:Str):Prop:=1≤x.length∧x.length≤6∧Ltr x
theorem abc_ltr:∀ c∈abc.cps.toList,97≤c∧c≤122:=by decide +kernel
theorem ltr_at {z:Int} {c:Nat} (h:atI abc.cps.toList z=some c):97≤c∧c≤122:=by
  unfold atI at h
  obtain ⟨j,_,e⟩:=Option.bind_eq_some_iff.mp h
  exact abc_ltr c (List.mem_of_getElem? e)
theorem ltr_one {c:Nat} (h:97≤c∧c≤122):Ltr ⟨#[c]⟩:=fun d hd=>by
  have e:d=c:=by simpa using hd
  rw [e]
  exact h
theorem ltr_app {x y:Str} (h:Ltr x) (k:Ltr y):Ltr (x++y):=fun c hc=>by
  have hc':c∈(x.cps++y.cps).toList:=hc
  rw [Array.toList_append] at hc'
  rcases List.mem_append.mp hc' with z | z
  · exact h c z
  · exact k c z
theorem ltr_join:∀ {ts:List Str},(∀ x∈ts,Ltr x)→Ltr (Txt.join "" ts)
  | [],_=>fun c hc=>by
    have e:(Txt.join "" []).cps.toList=[]:=by decide
    rw [e] at hc
    cases hc
  | [x],h=>h x (List.mem_cons_self ..)
  | x :: y :: ts,h=>by
    rw [join_cons]
    exact ltr_app (ltr_app (h x (List.mem_cons_self ..)) (fun c hc=>by cases hc)) (ltr_join fun z hz=>h z (List.mem_cons_of_mem _ hz))
section
variable {P:Program} {w:World} {K:PySem.W.Frag} {mg:Str→Option Value} {base:Heap} {f fT fW:Addr} {fd fdT fdW:FuncData}
seal L2.PS L2.PSs L2.PE L2.PA L2.PT L2.PW L2.PI L2.PG L2.PGs L2.PC
abbrev nN:List Str:=["_law_purse_here","_law_many","_law_letters","_law_first","_law_found","_law_k","_law_size","_law_tail"]
abbrev pN:List Str:=["_law_purse_here","_law_many"]
theorem scN:FnScope nN pN (defScope s_law_names):=⟨rfl,rfl,rfl,by decide +kernel,rfl,by decide +kernel,by decide +kernel⟩
theorem ndN:((["_law_j"]:List Str)++nN).Nodup:=by decide +kernel
def spNames:Sp:=fun vs H Q _=>∃ (p:Addr) (n:Int),vs=[.ref p,.int n]∧Purse H p∧0≤n∧n≤9 ∧
  ∀ (l:Addr) (ss:List Str) (H':Hp),H l=none→H' l=some (.lst (ss.map V.str))→(ss.length:Int)=n→(∀ x∈ss,Nam x)→Purse H' p→But p H H'→Q (.ref l) H'
theorem ok_names (D:Df K mg "_law_names" s_law_names pN f fd) (DT:Df K mg "_law_take" s_law_take pT fT fdT) (B:Bl mg):FnOk P w K mg base CX0 2 f fd pN spNames:=by
  have GT:FnOk P w K mg base CX0 1 fT fdT pT spTake:=ok_take DT B
  refine D.F.ok scN (fun vs H Q E h=>?_) (fun cdv A outer s H vs Q E r1 h=>?_)
  · obtain ⟨p,n,rfl,_⟩:=h
    rfl
  obtain ⟨p,n,rfl,hp,hn0,hn9,q⟩:=h
  refine ⟨_,pss_cons (ps_set (i:=2) scN.nd rfl (Or.inr rfl) pe_str)
    (pss_cons (ps_set (i:=3) scN.nd rfl (Or.inl rfl) (pe_call GT r1 (by rfl) DT.m DT.F.kp DT.b .nil pass0 (pa_n (pv 0) (pa_c pe_int pa_nil))))
    (pss_cons (ps_set (i:=4) scN.nd rfl (Or.inl rfl) (pe_lst pa_nil))
    (pss_cons (ps_for PassesOwn.never rfl (pi_range1 (by rfl) B.range (pa_n (pv 1) pa_nil)) (pg_name (i:=5) scN.nd rfl (Or.inl rfl)) (pss_cons (ps_set (i:=6) scN.nd rfl (Or.inl rfl) (pe_call GT r1 (by rfl) DT.m DT.F.kp DT.b .nil pass0 (pa_n (pv 0) (pa_c pe_int pa_nil))))
    (pss_cons (ps_comp (i:=7) ["_law_j"] (CompOk.open (NN:=nN) (N:=nN) (sc:=defScope s_law_names) rfl rfl (by decide +kernel) rfl (by decide +kernel) (by decide +kernel) rfl (by decide +kernel)) rfl scN.nd rfl (Or.inl rfl) (pi_range1 (by rfl) B.range (pa_n (pv 6) pa_nil)) (fun _ _ _ _=>pg_name (i:=0) ndN rfl (Or.inl rfl)) (fun _ _ _ _=>pts_nil) (fun _ _ _ _=>pe_ix ix_str (pv 3) (pe_call GT r1 (by rfl) DT.m DT.F.kp DT.b .nil pass0 (pa_n (pv 1) (pa_c pe_int pa_nil))) (fun _ _=>rfl)))
    (pss_one (ps_expr (pe_bm PySem.F.plainAttrs_list PySem.F.slot_list_append PySem.F.type_list_append mt_append (pv 4) (pa_b (pe_op op_add_str (pe_ix ix_str (pv 2) (pe_op op_mod (pe_op op_add (pv 3) (pe_op op_mul pe_int (pv 5))) pe_int) (fun _ _=>rfl)) (pe_bm PySem.F.plainAttrs_str PySem.F.slot_str_join PySem.F.type_str_join mt_join pe_str (pa_n (pv 7) pa_nil))) pa_nil)))))))
    (pss_one (ps_ret (pv 4)))))),?_⟩
  have big:=line1000
  refine seq_i (asg_i ?_)
  refine gname_i ?_
  dsimp only
  refine seq_i (asg_i ?_)
  refine ⟨_,rfl,p,26,rfl,hp,by decide,by decide,fun first H1 f0 f1 hp1 b1=>?_⟩
  refine gname_i ?_
  dsimp only
  refine seq_i (asg_i ?_)
  refine ⟨Nat.zero_le _,fun l hl=>?_⟩
  have s3:=same_new hl (.lst [])
  have nl:l≠p:=newp hp1 hl
  have hlH:H l=none:=by
    cases e:H l with
    | none=>rfl
    | some o =>
      rw [b1 l o e nl] at hl
      cases hl
  refine gname_i ?_
  dsimp only
  refine seq_i ?_
  refine ⟨_,rfl,n,rfl,by omega,by omega,for_range (n:=n.toNat) (fun i σ G=>∃ (ss:List Str) (v6 v7 v8:Option V),σ=[some (.ref p),some (.int n),some (.str abc),some (.int first),some (.ref l),v6,v7,v8]∧i≤n.toNat∧G l=some (.lst (ss.map V.str))∧ss.length=i∧(∀ x∈ss,Nam x)∧Purse G p∧But p H G)
    ⟨[],none,none,none,rfl,Nat.zero_le _,upd_same,rfl,(fun x e=>by cases e),hp1.same s3,b1.same s3⟩ ?_ ?_⟩
  · rintro i σ G hi ⟨ss,v6,v7,v8,rfl,hi2,hG,hss,gn,pu,bt⟩
    refine seq_i (asg_i ?_)
    refine ⟨_,rfl,p,6,rfl,pu,by decide,by decide,fun m G1 m0 m1 pu1 bt1=>?_⟩
    refine gname_i ?_
    dsimp only
    have hG1:=bt1 _ _ hG nl
    obtain ⟨k,rfl⟩:∃ k:Nat,m=(k:Int):=⟨m.toNat,by omega⟩
    refine seq_i (asg_i ?_)
    refine comp_rngT (fun m G'=>m=k∧G'=G1) (fun R hR=>⟨_,rfl,hR k G1 ⟨rfl,rfl⟩⟩) (fun m G' h=>by omega) (fun m G' i ys G2=>∃ ts:List Str,ys=ts.map V.str∧ts.length=i∧(∀ x∈ts,x.length≤1∧Ltr x)∧Purse G2 p∧But p G1 G2) ?_ ?_ ?_ ?_
    · rintro m G' ⟨rfl,rfl⟩
      exact ⟨[],rfl,rfl,(fun x e=>by cases e),pu1,But.refl _ _⟩
    · rintro m G' ⟨rfl,rfl⟩ i ys G2 hi ⟨ts,rfl,hts,_⟩
      rw [List.length_map]
      omega
    · rintro m G' ⟨rfl,rfl⟩ j ys G2 hj ⟨ts,rfl,hts,lts,pu2,bt2⟩
      refine gname_i ⟨rfl,?_⟩
      unfold tAll
      refine iteT ?_
      refine ⟨_,rfl,_,rfl,p,26,rfl,pu2,by decide,by decide,fun r G3 r0 r1' pu3 bt3=>?_⟩
      obtain ⟨c,hc⟩:=abc_at r0 r1'
      refine ⟨abc,_,c,rfl,rfl,abc_short,hc,ts++[⟨#[c]⟩],by rw [List.map_append]; rfl,by rw [List.length_append]; show _=j + 1; rw [hts]; rfl,fun x hx=>?_,pu3,bt2.trans bt3⟩
      rcases List.mem_append.mp hx with z | z
      · exact lts x z
      · rw [List.mem_singleton.mp z]
        exact ⟨Nat.le_refl 1,ltr_one (ltr_at hc)⟩
    · rintro m G' ⟨rfl,rfl⟩ ys G2 ⟨ts,rfl,hts,lts,pu2,bt2⟩ lt hlt
      refine gname_i ?_
      dsimp only
      have st:=same_new hlt (.lst (ts.map V.str))
      have hG2:=st _ _ (bt2 _ _ hG1 nl)
      have pu3:=pu2.same st
      have z1:=abc_at (Int.emod_nonneg (first + 3 * (0 + (i:Int))) (show (26:Int)≠0 by decide)) (Int.emod_lt_of_pos (first + 3 * (0 + (i:Int))) (by decide))
      obtain ⟨c,hc⟩:=z1
      have js:jsz "" ts≤5:=by
        have:=jsz_le (z:="") fun x hx=>(lts x hx).1
        have e0:("":Str).length=0:=by decide
        rw [e0,hts] at this
        omega
      have jl:=join_len "" ts
      refine ⟨_,rfl,.inl ⟨rfl,_,SqL.of hG2⟩,_,rfl,_,rfl,_,rfl,_,_,rfl,rfl,.inl ⟨by decide,by decide⟩,_,_,rfl,rfl,_,_,rfl,rfl,(by show (0:Int) < 26; decide),abc,_,c,rfl,rfl,abc_short,hc,rfl,_,rfl,_,lt,ts,rfl,rfl,.inl (SqL.of upd_same),by omega,_,_,rfl,rfl,?_,l,_,_,rfl,rfl,hG2,(by rw [List.length_map]; omega),?_⟩
      · show 1 + (Txt.join "" ts).length≤sizeLine
        omega
      · refine ⟨ss++[⟨#[c]⟩++Txt.join "" ts],_,_,_,rfl,by omega,by rw [List.map_append]; exact upd_same,by rw [List.length_append,hss]; rfl,fun x hx=>?_,purse_upd pu3 nl,?_⟩
        · rcases List.mem_append.mp hx with z | z
          · exact gn x z
          · rw [List.mem_singleton.mp z]
            refine ⟨?_,?_,ltr_app (ltr_one (ltr_at hc)) (ltr_join fun x hx=>(lts x hx).2)⟩
            · rw [str_len_app]
              show 1≤1 + _
              omega
            · rw [str_len_app]
              show 1 + _≤6
              omega
        · intro b o e n
          have nb:b≠l:=ne_of_none e hlH
          rw [upd_ne nb]
          exact st _ _ (bt2 _ _ (bt1 _ _ (bt _ _ e n) n) n)
  · rintro σ G ⟨ss,v6,v7,v8,rfl,hi2,hG,hss,gn,pu,bt⟩
    refine ⟨_,rfl,?_⟩
    exact q l ss G hlH hG (by omega) gn pu bt
end
end My
namespace My
open PySem L2
def Wo (a:Int):Prop:=-(10 ^ 15)≤a∧a≤10 ^ 15
theorem tj (z:Str):∀ ys:List Str,Txt.join z ys=Str.join z ys
  | []=>by
    show (⟨_⟩:Str)=Str.empty
    rfl
  | [x]=>rfl
  | x :: y :: ys=>by
    rw [join_cons,tj z (y :: ys)]
    rfl
theorem cut_eq {c:Nat}:∀ {p q A B:List Nat},c∉p→c∉q→p++c :: A=q++c :: B→p=q∧A=B
  | [],[],_,_,_,_,h=>⟨rfl,(List.cons.inj h).2⟩
  | [],y :: q,_,_,_,hq,h=>absurd ((List.cons.inj h).1 ▸ List.mem_cons_self ..) hq
  | x :: p,[],_,_,hp,_,h=>absurd ((List.cons.inj h).1 ▸ List.mem_cons_self ..) hp
  | x :: p,y :: q,A,B,hp,hq,h=>by
    obtain ⟨h1,h2⟩:=List.cons.inj h
    obtain ⟨h3,h4⟩:=cut_eq (fun z=>hp (List.mem_cons_of_mem _ z)) (fun z=>hq (List.mem_cons_of_mem _ z)) h2
    exact ⟨by rw [h1,h3],h4⟩
theorem join_list (c:Nat) (p q:Str) (r:List Str):(Str.join ⟨#[c]⟩ (p :: q :: r)).cps.toList=p.cps.toList++c :: (Str.join ⟨#[c]⟩ (q :: r)).cps.toList:=by
  show ((p.cps++#[c])++(Str.join ⟨#[c]⟩ (q :: r)).cps).toList=_
  simp
theorem join_inj (c:Nat):∀ {ps qs:List Str},ps≠[]→qs≠[]→(∀ p∈ps,c∉p.cps.toList)→(∀ p∈qs,c∉p.cps.toList)→(Str.join ⟨#[c]⟩ ps).cps.toList=(Str.join ⟨#[c]⟩ qs).cps.toList→ps=qs
  | [],_,h,_,_,_,_=>absurd rfl h
  | _ :: _,[],_,h,_,_,_=>absurd rfl h
  | [p],[q],_,_,_,_,h=>by
    have e:p=q:=Str.ext' (Array.toList_inj.mp h)
    rw [e]
  | [p],q :: q' :: qs,_,_,hp,_,h=>by
    rw [join_list] at h
    exact absurd (show c∈p.cps.toList by rw [show p.cps.toList=_ from h]; simp) (hp p (List.mem_cons_self ..))
  | p :: p' :: ps,[q],_,_,_,hq,h=>by
    rw [join_list] at h
    exact absurd (show c∈q.cps.toList by rw [show q.cps.toList=_ from h.symm]; simp) (hq q (List.mem_cons_self ..))
  | p :: p' :: ps,q :: q' :: qs,_,_,hp,hq,h=>by
    rw [join_list,join_list] at h
    obtain ⟨h1,h2⟩:=cut_eq (hp p (List.mem_cons_self ..)) (hq q (List.mem_cons_self ..)) h
    have e:p=q:=Str.ext' (Array.toList_inj.mp h1)
    rw [e,join_inj c (by simp) (by simp) (fun x hx=>hp x (List.mem_cons_of_mem _ hx)) (fun x hx=>hq x (List.mem_cons_of_mem _ hx)) h2]
theorem split_joinC (c:Nat) {ws:List Str} (ne:ws≠[]) (h:∀ w∈ws,c∉w.cps.toList):Txt.split (Txt.join ⟨#[c]⟩ ws) ⟨#[c]⟩=ws:=by
  rw [tj]
  have j:=StrLaws.join_split (Str.join ⟨#[c]⟩ ws) ⟨#[c]⟩
  have p:=PyProof.Rows.split_pos (Str.join ⟨#[c]⟩ ws) ⟨#[c]⟩
  exact join_inj c (List.length_pos_iff.mp p) ne (fun w hw=>StrLaws.split_free _ c w hw) h (congrArg (fun x:Str=>x.cps.toList) j)
theorem split_join {ws:List Str} (ne:ws≠[]) (h:∀ w∈ws,32∉w.cps.toList):Txt.split (Txt.join " " ws) " "=ws:=by
  have e0:(" ":Str)=⟨#[32]⟩:=by decide
  rw [e0]
  exact split_joinC 32 ne h
def numIn (w:Str) (lo hi:Int):Option Int:=if w.length > 21 then none else
  match PySem.intText? w with
  | none=>none
  | some z=>if Str.ofString (toString z)≠w∨z < lo∨hi < z then none else some z
def isName (w:Str):Bool:=decide (1≤w.length) && decide (w.length≤6) && w.cps.toList.all fun c=>decide (97≤c) && decide (c≤122)
theorem isName_ok {x:Str} (h:Nam x):isName x=true:=by
  unfold isName
  rw [decide_eq_true h.1,decide_eq_true h.2.1]
  show (x.cps.toList.all _)=true
  rw [List.all_eq_true]
  intro c hc
  obtain ⟨h1,h2⟩:=h.2.2 c hc
  rw [decide_eq_true h1,decide_eq_true h2]
  rfl
theorem boot_all:bootBuiltins "all"=some (.builtin "all"):=by decide +kernel
theorem dint (a b:Int):decide (V.int a=V.int b)=decide (a=b):=by
  by_cases c:a=b
  · rw [c,decide_eq_true rfl,decide_eq_true rfl]
  · rw [decide_eq_false c,decide_eq_false fun z=>c (V.int.inj z)]
theorem dstr (a b:Str):decide (V.str a=V.str b)=decide (a=b):=by
  by_cases c:a=b
  · rw [c,decide_eq_true rfl,decide_eq_true rfl]
  · rw [decide_eq_false c,decide_eq_false fun z=>c (V.str.inj z)]
end My
namespace My
open PySem L2
section
variable {P:Program} {w:World} {K:PySem.W.Frag} {mg:Str→Option Value} {base:Heap} {f fN fW fI:Addr} {fd fdN fdW fdI:FuncData}
seal L2.PS L2.PSs L2.PE L2.PA L2.PT L2.PW L2.PI L2.PG L2.PGs L2.PC L2.PSC L2.PSsC L2.PEC
theorem comp_textT {x:Str} {n i:Nat} {g:TG} {tc:L2.TT} {te:TE} {σ:St} {H:Hp} {Q:VK} (hv:σ[i]?=some (some (.str x))) (Pv:Nat→List V→Hp→Prop) (h0:Pv 0 [] H) (hl:∀ i ys H,i≤x.cps.size→Pv i ys H→ys.length < sizeLine)
    (hs:∀ i c ys H,x.cps[i]?=some c→Pv i ys H→g (.str ⟨#[c]⟩) (List.replicate n none++σ) H fun σ2 H2=>σ2.drop n=σ∧tc σ2 H2 fun b H3=>if b=true then te σ2 H3 fun y H4=>Pv (i + 1) (ys++[y]) H4 else Pv (i + 1) ys H3)
    (hd:∀ ys H,Pv x.cps.size ys H→∀ p,H p=none→Q (.ref p) (upd H p (.lst ys))):tComp n (iText (tVar i)) g tc te σ H Q:=⟨_,hv,x,rfl,comp_text Pv h0 hl hs hd⟩
def spNm:Sp:=fun vs H Q _=>∃ x:Str,vs=[.str x]∧x.length≤1000∧∀ H',Same H H'→Q (.bl (isName x)) H'
abbrev nNm:List Str:=["word"]
abbrev pNm:List Str:=["word"]
theorem scNm:FnScope nNm pNm (defScope s_is_name):=⟨rfl,rfl,rfl,by decide +kernel,rfl,by decide +kernel,by decide +kernel⟩
theorem ndNm:((["sign"]:List Str)++nNm).Nodup:=by decide +kernel
theorem lt_one (a b:Nat):decide (((⟨#[a]⟩:Str).cps.toList) < (⟨#[b]⟩:Str).cps.toList)=decide (a < b):=by
  show decide ([a] < [b])=decide (a < b)
  by_cases c:a < b
  · rw [decide_eq_true c,decide_eq_true]
    exact List.Lex.rel c
  · rw [decide_eq_false c,decide_eq_false]
    intro h
    cases h with
    | rel h=>exact c h
    | cons h=>cases h
theorem ok_nm (D:Df K mg "is_name" s_is_name pNm f fd) (B:Bl mg) (MA:mg "all"=none):FnOk P w K mg base CX0 1 f fd pNm spNm:=by
  refine D.F.ok scNm (fun vs H Q E h=>?_) (fun cdv A outer s H vs Q E hr h=>?_)
  · obtain ⟨x,rfl,_⟩:=h
    rfl
  obtain ⟨x,rfl,xl,q⟩:=h
  refine ⟨_,pss_one (ps_ret (pe_and (pe_chain op_le op_le pe_int (pe_callB call_len_str (by rfl) B.len PySem.boot_len (pa_n (pv 0) pa_nil)) pe_int) (pe_one (pe_callB (call_allL rfl) (by rfl) MA boot_all (pa_cons (pe_comp ["sign"] (CompOk.open (NN:=nNm) (N:=nNm) (sc:=defScope s_is_name) rfl rfl (by decide +kernel) rfl (by decide +kernel) (by decide +kernel) rfl (by decide +kernel)) rfl (pi_text (pv 0)) (fun _ _ _ _=>pg_name (i:=0) ndNm rfl (Or.inl rfl)) (fun _ _ _ _=>pts_nil) (fun _ _ _ _=>pe_chain op_le_str op_le_str pe_str (pv 0) pe_str)) pa_nil))))),?_⟩
  have big:=line1000
  refine ret_i ?_
  have ca:("a":Str)=⟨#[97]⟩∧("z":Str)=⟨#[122]⟩:=by decide
  obtain ⟨c1,c2⟩:=ca
  refine ⟨_,rfl,x,rfl,by omega,1,_,rfl,rfl,_,rfl,?_⟩
  have no:isName x=false→Q (.bl false) H:=fun e=>by
    have:=q H (Same.refl _)
    rw [e] at this
    exact this
  rcases Nat.lt_or_ge x.length 1 with h1 | h1
  · rw [decide_eq_false (show ¬ (1:Int)≤(x.length:Int) by omega)]
    refine iteF ⟨_,rfl,iteF (no ?_)⟩
    unfold isName
    rw [decide_eq_false (show ¬ 1≤x.length by omega)]
    rfl
  rw [decide_eq_true (show (1:Int)≤(x.length:Int) by omega)]
  refine iteT ⟨_,_,rfl,rfl,_,rfl,?_⟩
  rcases Nat.lt_or_ge 6 x.length with h2 | h2
  · rw [decide_eq_false (show ¬ (x.length:Int)≤6 by omega)]
    refine iteF (no ?_)
    unfold isName
    rw [decide_eq_false (show ¬ x.length≤6 by omega),Bool.and_false]
    rfl
  rw [decide_eq_true (show (x.length:Int)≤6 by omega)]
  refine iteT ?_
  have cs:x.cps.size≤6:=h2
  dsimp only [tCB,tCons]
  refine comp_textT (x:=x) rfl (fun i ys G=>ys=(x.cps.toList.take i).map (fun c=>V.bl (decide (97≤c) && decide (c≤122)))∧G=H) ⟨rfl,rfl⟩ ?_ ?_ ?_
  · rintro i ys G hi ⟨rfl,rfl⟩
    rw [List.length_map,List.length_take]
    omega
  · rintro i c ys G hc ⟨rfl,rfl⟩
    refine gname_i ⟨rfl,?_⟩
    unfold tAll
    refine iteT ?_
    have hc':x.cps.toList[i]?=some c:=by rw [Array.getElem?_toList]; exact hc
    have nx:∀ b:Bool,(decide (97≤c) && decide (c≤122))=b→(x.cps.toList.take i).map (fun c=>V.bl (decide (97≤c) && decide (c≤122)))++[V.bl b]=(x.cps.toList.take (i + 1)).map (fun c=>V.bl (decide (97≤c) && decide (c≤122))):=fun b e=>by
      rw [List.take_add_one,hc',List.map_append,← e]
      rfl
    refine ⟨_,rfl,_,_,rfl,rfl,_,rfl,?_⟩
    rw [c1,lt_one]
    by_cases k1:c < 97
    · rw [decide_eq_true k1]
      exact iteF ⟨nx false (by rw [decide_eq_false (by omega)]; rfl),rfl⟩
    · rw [decide_eq_false k1]
      refine iteT ⟨_,_,rfl,rfl,?_⟩
      rw [c2,lt_one]
      by_cases k2:122 < c
      · rw [decide_eq_true k2]
        exact ⟨nx false (by rw [decide_eq_false (show ¬ c≤122 by omega),Bool.and_false]),rfl⟩
      · rw [decide_eq_false k2]
        exact ⟨nx true (by rw [decide_eq_true (show 97≤c by omega),decide_eq_true (show c≤122 by omega)]; rfl),rfl⟩
  · rintro ys G ⟨rfl,rfl⟩ l hl
    refine ⟨l,(x.cps.toList.take x.cps.size).map (fun c=>decide (97≤c) && decide (c≤122)),rfl,SqL.of (by rw [List.map_map]; exact upd_same),?_⟩
    have:=q _ (same_new hl (.lst ((x.cps.toList.take x.cps.size).map (fun c=>V.bl (decide (97≤c) && decide (c≤122))))))
    have e:isName x=((x.cps.toList.take x.cps.size).map (fun c=>decide (97≤c) && decide (c≤122))).all id:=by
      unfold isName
      rw [decide_eq_true h1,decide_eq_true h2,show x.cps.size=x.cps.toList.length from (Array.length_toList).symm,List.take_length,List.all_map]
      rfl
    rw [e] at this
    exact this
end
end My
namespace My
open PySem L2
open NumText in
theorem step_small {p q:Array Nat×Bool} {c:Nat} (h:NumText.step 10 p c=some q) (hp:∀ d∈p.1,d < 10):∀ d∈q.1,d < 10:=by
  unfold NumText.step at h
  repeat' split at h
  all_goals first
    | (cases h; exact hp)
    | (cases h
       intro d hd
       rcases Array.mem_push.mp hd with z | z
       · exact hp d z
       · omega)
    | cases h
open NumText in
theorem fold_small:∀ (cs:List Nat) {p q:Array Nat×Bool},cs.foldlM (NumText.step 10) p=some q→(∀ d∈p.1,d < 10)→∀ d∈q.1,d < 10
  | [],p,q,h,hp=>by
    cases (Option.some.inj h:p=q)
    exact hp
  | c :: cs,p,q,h,hp=>by
    rw [List.foldlM_cons] at h
    cases hs:NumText.step 10 p c with
    | none =>
      rw [hs] at h
      exact absurd h (by simp)
    | some p' =>
      rw [hs] at h
      exact fold_small cs (show cs.foldlM (NumText.step 10) p'=some q from h) (step_small hs hp)
theorem val_small:∀ (l:List Nat) (a:Nat),(∀ d∈l,d < 10)→l.foldl (fun acc d=>acc * 10 + d) a < (a + 1) * 10 ^ l.length
  | [],a,_=>by simp
  | d :: l,a,h=>by
    have ih:=val_small l (a * 10 + d) fun x hx=>h x (List.mem_cons_of_mem _ hx)
    have hd:=h d (List.mem_cons_self ..)
    rw [List.foldl_cons,List.length_cons,Nat.pow_succ]
    have e:(a * 10 + d + 1) * 10 ^ l.length≤((a + 1) * 10) * 10 ^ l.length:=Nat.mul_le_mul_right _ (by omega)
    have e2:(a + 1) * (10 ^ l.length * 10)=((a + 1) * 10) * 10 ^ l.length:=by
      rw [Nat.mul_comm (10 ^ l.length) 10,← Nat.mul_assoc]
    omega
open NumText in
theorem read_small {w:Str} {z:Int} (l:w.length≤21) (h:PySem.intText? w=some z):z.natAbs < 10 ^ 21:=by
  unfold PySem.intText? at h
  split at h
  · cases hd:digits? 10 (core (numSeenOf w)) with
    | none =>
      rw [hd] at h
      cases h
    | some ds =>
      rw [hd] at h
      dsimp only at h
      split at h
      · cases h
        have sz:ds.size≤21:=Nat.le_trans (digits_size hd) (Nat.le_trans (core_length _) (Nat.le_trans (seen_length w) l))
        have sm:∀ d∈ds.toList,d < 10:=by
          unfold digits? at hd
          cases hf:(core (numSeenOf w)).foldlM (NumText.step 10) ((#[]:Array Nat),false) with
          | none =>
            rw [hf] at hd
            exact absurd hd (by simp)
          | some q =>
            rw [hf] at hd
            have h2:(if q.2=true then some q.1 else none)=some ds:=hd
            have:=fold_small _ hf (fun d hd=>absurd hd (by simp))
            split at h2
            · cases h2
              intro d hd
              exact this d (Array.mem_def.mpr hd)
            · cases h2
        have v:=val_small ds.toList 0 sm
        rw [Array.foldl_toList,Array.length_toList,Nat.zero_add,Nat.one_mul] at v
        have le:10 ^ ds.size≤10 ^ 21:=Nat.pow_le_pow_right (by decide) sz
        have fin:(worth (sign ((numSeenOf w).dropWhile blank)).1 ds).natAbs=ds.foldl (fun acc d=>acc * 10 + d) 0:=by
          unfold worth
          split <;> simp
        rw [fin]
        omega
      · cases h
  · cases h
theorem log_small {z:Int} (h:z.natAbs < 10 ^ 21):z.natAbs.log2 < 1920:=by
  by_cases c:z.natAbs=0
  · rw [c]
    decide
  · have h1:z.natAbs < 2 ^ 70:=Nat.lt_trans h (by decide)
    have:=(Nat.log2_lt c).mpr h1
    omega
theorem repr_small {w:Str} (l:w.length≤640) (h:∀ c∈w.cps.toList,c < 128):(reprText w).length≤10000:=by
  have:=StrLaws.reprText_len w fun c hc=>Nat.lt_trans (h c hc) (by decide)
  omega
end My
namespace My
open PySem L2
section
variable {P:Program} {w:World} {K:PySem.W.Frag} {mg:Str→Option Value} {base:Heap} {f fN fW fI:Addr} {fd fdN fdW fdI:FuncData}
seal L2.PS L2.PSs L2.PE L2.PA L2.PT L2.PW L2.PI L2.PG L2.PGs L2.PC L2.PSC L2.PSsC L2.PEC
def optV:Option Int→V
  | none=>.non
  | some z=>.int z
def spNi:Sp:=fun vs H Q _=>∃ (x:Str) (lo hi:Int),vs=[.str x,.int lo,.int hi]∧(∀ c∈x.cps.toList,c < 128)∧x.length≤1000∧∀ H',Same H H'→Q (optV (numIn x lo hi)) H'
abbrev nNi:List Str:=["word","least","most","number"]
abbrev pNi:List Str:=["word","least","most"]
theorem scNi:FnScope nNi pNi (defScope s_number_in):=⟨rfl,rfl,rfl,by decide +kernel,rfl,by decide +kernel,by decide +kernel⟩
theorem ok_ni (D:Df K mg "number_in" s_number_in pNi f fd) (B:Bl mg) (MV:mg "ValueError"=none):FnOkC P w K mg base CX0 1 f fd pNi spNi:=by
  refine D.F.okC scNi (fun vs H Q E h=>?_) (fun cdv A outer s H vs Q E hr h=>?_)
  · obtain ⟨x,lo,hi,rfl,_⟩:=h
    rfl
  obtain ⟨x,lo,hi,rfl,asc,xl,q⟩:=h
  refine ⟨_,pssC_cons (ps_if (pt_cmpR op_gt (pe_callB call_len_str (by rfl) B.len PySem.boot_len (pa_n (pv 0) pa_nil)) pe_int (nomark _)) (pss_one (ps_ret pe_non)) pss_nil).c
    (pssC_cons (psC_tryInt (j:=0) (i:=3) scNi.nd rfl (Or.inl rfl) (pv 0) (by rfl) B.int (by rfl) MV rfl (fun _=>pss_one (ps_ret pe_non)))
    (pss_cons (ps_if ((pw_or (pt_cmpR op_ne (pe_callTy call_str_int (by rfl) B.str boot_str (pa_n (pv 3) pa_nil)) (pv 0) (nomark _)) (pw_or (pt_cmpR op_lt (pv 3) (pv 1) (nomark _)) (pw_or1 (pt_cmpR op_gt (pv 3) (pv 2) (nomark _))))).pt) (pss_one (ps_ret pe_non)) pss_nil)
    (pss_one (ps_ret (pv 3)))).c),?_⟩
  have big:=line1000
  have fin:∀ v,optV (numIn x lo hi)=v→Q v H:=fun v e=>e ▸ q H (Same.refl _)
  refine seq_i ?_
  refine ⟨_,rfl,x,rfl,by omega,_,_,rfl,rfl,_,rfl,?_⟩
  rcases Nat.lt_or_ge 21 x.length with h1 | h1
  · rw [decide_eq_true (show (21:Int) < (x.length:Int) by omega)]
    refine iteT (fin _ ?_)
    unfold numIn
    rw [if_pos h1]
    rfl
  rw [decide_eq_false (show ¬ (21:Int) < (x.length:Int) by omega)]
  refine iteF ?_
  dsimp only [tNext]
  refine seq_i ⟨x,rfl,by omega,repr_small (by omega) asc,fun z hz=>?_,fun hz=>?_⟩
  · dsimp only
    have rs:=read_small h1 hz
    have ni:numIn x lo hi=if Str.ofString (toString z)≠x∨z < lo∨hi < z then none else some z:=by
      unfold numIn
      rw [if_neg (by omega),hz]
    refine seq_i ?_
    refine ⟨_,rfl,z,rfl,log_small rs,_,rfl,rfl,_,rfl,?_⟩
    rw [dstr]
    by_cases c1:Str.ofString (toString z)=x
    · rw [decide_eq_true c1]
      refine iteF ?_
      refine ⟨_,rfl,_,rfl,_,_,rfl,rfl,_,rfl,?_⟩
      by_cases c2:z < lo
      · rw [decide_eq_true c2]
        exact iteT (iteT (fin _ (by rw [ni,if_pos (.inr (.inl c2))]; rfl)))
      · rw [decide_eq_false c2]
        refine iteF ⟨_,rfl,_,rfl,_,_,rfl,rfl,_,rfl,?_⟩
        by_cases c3:hi < z
        · rw [decide_eq_true c3]
          exact iteT (fin _ (by rw [ni,if_pos (.inr (.inr c3))]; rfl))
        · rw [decide_eq_false c3]
          refine iteF ?_
          dsimp only [tNext]
          refine ret_i ⟨_,rfl,fin _ ?_⟩
          rw [ni,if_neg]
          · rfl
          · rintro (y | y | y)
            · exact y c1
            · exact c2 y
            · exact c3 y
    · rw [decide_eq_false c1]
      exact iteT (iteT (fin _ (by rw [ni,if_pos (.inl c1)]; rfl)))
  · refine fin _ ?_
    unfold numIn
    rw [if_neg (by omega),hz]
    rfl
end
end My
namespace My
open PySem L2
def numsIn:List Str→Option (List Int)
  | []=>some []
  | w :: ws=>match numIn w (1 - 10 ^ 20) (10 ^ 20 - 1),numsIn ws with
    | some z,some zs=>some (z :: zs)
    | _,_=>none
def numOs (ws:List Str):List V:=ws.map fun w=>optV (numIn w (1 - 10 ^ 20) (10 ^ 20 - 1))
theorem flat_opt (o:Option Int):flatV (optV o)=true:=by cases o <;> rfl
theorem nums_no:∀ {ws:List Str},numsIn ws=none→inV .non (numOs ws)=true
  | [],h=>by cases h
  | w :: ws,h=>by
    rw [numsIn] at h
    show (eqV (optV _) .non || inV .non (numOs ws))=true
    cases e:numIn w (1 - 10 ^ 20) (10 ^ 20 - 1) with
    | none=>rfl
    | some z =>
      rw [e] at h
      cases e2:numsIn ws with
      | none=>rw [nums_no e2,Bool.or_true]
      | some zs=>rw [e2] at h; cases h
theorem nums_yes:∀ {ws:List Str} {zs:List Int},numsIn ws=some zs→inV .non (numOs ws)=false∧numOs ws=zs.map V.int
  | [],zs,h=>by cases h; exact ⟨rfl,rfl⟩
  | w :: ws,zs,h=>by
    rw [numsIn] at h
    cases e:numIn w (1 - 10 ^ 20) (10 ^ 20 - 1) with
    | none=>rw [e] at h; cases h
    | some z =>
      rw [e] at h
      cases e2:numsIn ws with
      | none=>rw [e2] at h; cases h
      | some zs' =>
        rw [e2] at h
        cases h
        obtain ⟨i1,i2⟩:=nums_yes e2
        refine ⟨?_,?_⟩
        · show (eqV (optV _) .non || inV .non (numOs ws))=false
          rw [e,i1]
          rfl
        · show optV _ :: numOs ws=_
          rw [e,i2]
          rfl
theorem nums_flat:∀ ws:List Str,(numOs ws).all flatV=true
  | []=>rfl
  | w :: ws=>by
    show (flatV (optV _) && (numOs ws).all flatV)=true
    rw [flat_opt,nums_flat ws]
    rfl
section
variable {P:Program} {w:World} {K:PySem.W.Frag} {mg:Str→Option Value} {base:Heap} {f fN:Addr} {fd fdN:FuncData}
seal L2.PS L2.PSs L2.PE L2.PA L2.PT L2.PW L2.PI L2.PG L2.PGs L2.PC L2.PSC L2.PSsC L2.PEC L2.PTC L2.PAC L2.PPs
def spNb:Sp:=fun vs H Q _=>∃ (l:Addr) (ws:List Str),vs=[.ref l]∧H l=some (.lst (ws.map V.str))∧(∀ y∈ws,(∀ c∈y.cps.toList,c < 128)∧y.length≤1000)∧ws.length≤900 ∧
  (∀ H',numsIn ws=none→Same H H'→Q .non H')∧∀ zs p H',numsIn ws=some zs→H p=none→Same H H'→H' p=some (.lst (zs.map V.int))→Q (.ref p) H'
abbrev nNb:List Str:=["words","numbers"]
abbrev pNb:List Str:=["words"]
theorem scNb:FnScope nNb pNb (defScope s_numbers_in):=⟨rfl,rfl,rfl,by decide +kernel,rfl,by decide +kernel,by decide +kernel⟩
theorem ndNb:((["word"]:List Str)++nNb).Nodup:=by decide +kernel
theorem ok_nb (D:Df K mg "numbers_in" s_numbers_in pNb f fd) (DN:Df K mg "number_in" s_number_in pNi fN fdN) (B:Bl mg) (MV:mg "ValueError"=none):FnOkC P w K mg base CX0 2 f fd pNb spNb:=by
  have GN:FnOkC P w K mg base CX0 1 fN fdN pNi spNi:=ok_ni DN B MV
  refine D.F.okC scNb (fun vs H Q E h=>?_) (fun cdv A outer s H vs Q E hr h=>?_)
  · obtain ⟨l,ws,rfl,_⟩:=h
    rfl
  obtain ⟨l,ws,rfl,hl,asc,many,qn,q⟩:=h
  have r1:Room 1 _:=hr
  refine ⟨_,pssC_cons (psC_comp (i:=1) ["word"] (CompOk.open (NN:=nNb) (N:=nNb) (sc:=defScope s_numbers_in) rfl rfl (by decide +kernel) rfl (by decide +kernel) (by decide +kernel) rfl (by decide +kernel)) rfl scNb.nd rfl (Or.inl rfl) (pi_list (pv 0)) (fun _ _ _ _=>pg_name (i:=0) ndNb rfl (Or.inl rfl)) (fun _ _ _ _=>pts_nil) (fun _ _ _ _=>peC_call GN r1 (by rfl) DN.m DN.F.kp DN.b .nil pass0 (pa_n (pv 0) (pa_b (pe_op op_sub pe_int (pe_op op_pow pe_int pe_int)) (pa_b (pe_op op_sub (pe_op op_pow pe_int pe_int) pe_int) pa_nil)))))
    (pss_one (ps_ret (pe_ifExp (pt_cmpR op_in_seq pe_non (pv 1) (by with_unfolding_all rfl)) pe_non (pv 1)))).c,?_⟩
  have big:=line1000
  have wl:(ws.map V.str).length=ws.length:=List.length_map ..
  refine seq_i (asg_i (comp_listT (K:=K) (a:=l) (xs:=ws.map V.str) (fun R hR=>⟨_,rfl,hR⟩) (SqL.of hl) (fun i zs G=>Same H G∧zs=numOs (ws.take i)) ⟨Same.refl _,rfl⟩ ?_ ?_ ?_))
  · rintro i zs G hi ⟨sg,rfl⟩
    refine ⟨SqL.of (sg _ _ hl),?_⟩
    unfold numOs
    rw [List.length_map,List.length_take]
    omega
  · rintro i x zs G hu ⟨sg,rfl⟩
    obtain ⟨y,hy,rfl⟩:∃ y,ws[i]?=some y∧x=V.str y:=by
      rw [List.getElem?_map] at hu
      obtain ⟨y,e1,e2⟩:=Option.map_eq_some_iff.mp hu
      exact ⟨y,e1,e2.symm⟩
    obtain ⟨ya,yl⟩:=asc y (List.mem_of_getElem? hy)
    have cp:CPow 10 20:=⟨by decide,by decide,by decide⟩
    refine gname_i ⟨rfl,?_⟩
    unfold tAll
    refine iteT ⟨_,rfl,_,_,rfl,rfl,cp,_,_,rfl,rfl,_,_,rfl,rfl,cp,_,_,rfl,rfl,y,1 - 10 ^ 20,10 ^ 20 - 1,rfl,ya,yl,fun G1 g1=>⟨sg.trans g1,?_⟩⟩
    unfold numOs
    rw [List.take_succ,hy,List.map_append]
    rfl
  rintro zs G ⟨sg,rfl⟩ p hp
  rw [wl,List.take_length]
  refine gname_i ?_
  dsimp only
  have s1:=sg.trans (same_new hp (.lst (numOs ws)))
  have hpH:H p=none:=by
    cases z:H p with
    | none=>rfl
    | some o=>rw [sg _ _ z] at hp; cases hp
  refine ret_i ⟨_,rfl,p,_,rfl,.inl (SqL.of upd_same),rfl,nums_flat ws,_,rfl,?_⟩
  cases e:numsIn ws with
  | none =>
    rw [show (if false=true then !inV .non (numOs ws) else inV .non (numOs ws))=true from nums_no e]
    exact iteT (qn _ e s1)
  | some zs =>
    obtain ⟨e1,e2⟩:=nums_yes e
    rw [show (if false=true then !inV .non (numOs ws) else inV .non (numOs ws))=false from e1]
    exact iteF ⟨_,rfl,q zs p _ e hpH s1 (by rw [upd_same,e2])⟩
end
end My
namespace My
open PySem L2
theorem cut_to (xs:List V) (k:Nat):cutV xs none (some (k:Int))=xs.take k:=by
  unfold cutV
  rw [HT.sIx_none,HT.sIx_nat,List.drop_zero,Nat.sub_zero]
  rcases Nat.le_total k xs.length with h | h
  · rw [Nat.min_eq_left h]
  · rw [Nat.min_eq_right h,List.take_length,List.take_of_length_le h]
theorem cut_from (xs:List V) (k:Nat):cutV xs (some (k:Int)) none=xs.drop k:=by
  unfold cutV
  rw [HT.sIx_none,HT.sIx_nat]
  rcases Nat.le_total k xs.length with h | h
  · rw [Nat.min_eq_left h,← List.length_drop,List.take_length]
  · rw [Nat.min_eq_right h,List.drop_length,List.drop_of_length_le h]
    exact List.take_nil
theorem seq_g {t u:TS} {D:Ends} {σ:St} {H:Hp} (h:∀ nx:St→Hp→Prop,(∀ σ H,u D σ H→nx σ H)→t {D with nx:=nx} σ H):tSeq t u D σ H:=h _ fun _ _ z=>z
structure Hap where
  ks:List Int
  to:Int
  nm:Str
  a:Int
  b:Int
def HapIn (H:Hp) (h:Hap) (v:V):Prop:=∃ t k,v=.ref t∧H t=some (.tup [.ref k,.int h.to,.str h.nm,.int h.a,.int h.b])∧H k=some (.tup (h.ks.map V.int))
theorem not_some {α:Type} {x:Option α} (h:∀ o,x≠some o):x=none:=by
  cases x with
  | none=>rfl
  | some o=>exact absurd rfl (h o)
def hapW (kind:Str) (ws:List Str):Option Hap:=match ws with
  | [w0,w1,w2,w3,w4,w5,w6,w7,w8]=>if w0=kind∧isName w6=true then
      (match numsIn [w1,w2,w3,w4,w5,w7,w8] with
      | some [a,b,c,d,e,x,y]=>some ⟨[a,b,c,d],e,w6,x,y⟩
      | _=>none) else none
  | _=>none
theorem hap_len {kind:Str} {ws:List Str} (h:ws.length≠9):hapW kind ws=none:=by
  unfold hapW
  split
  · exact absurd rfl h
  · rfl
theorem list9 {α:Type} {l:List α} (h:l.length=9):∃ a b c d e f g i j,l=[a,b,c,d,e,f,g,i,j]:=by
  match l,h with
  | [a,b,c,d,e,f,g,i,j],_=>exact ⟨a,b,c,d,e,f,g,i,j,rfl⟩
theorem nums_len:∀ {ws:List Str} {zs:List Int},numsIn ws=some zs→zs.length=ws.length
  | [],zs,h=>by cases h; rfl
  | w :: ws,zs,h=>by
    rw [numsIn] at h
    cases e:numIn w (1 - 10 ^ 20) (10 ^ 20 - 1) with
    | none=>rw [e] at h; cases h
    | some z =>
      rw [e] at h
      cases e2:numsIn ws with
      | none=>rw [e2] at h; cases h
      | some zs' =>
        rw [e2] at h
        cases h
        rw [List.length_cons,List.length_cons,nums_len e2]
theorem list7 {α:Type} {l:List α} (h:l.length=7):∃ a b c d e f g,l=[a,b,c,d,e,f,g]:=by
  match l,h with
  | [a,b,c,d,e,f,g],_=>exact ⟨a,b,c,d,e,f,g,rfl⟩
section
variable {P:Program} {w:World} {K:PySem.W.Frag} {mg:Str→Option Value} {base:Heap} {f fB fI fN:Addr} {fd fdB fdI fdN:FuncData}
seal L2.PS L2.PSs L2.PE L2.PA L2.PT L2.PW L2.PI L2.PG L2.PGs L2.PC L2.PSC L2.PSsC L2.PEC L2.PTC L2.PAC L2.PPs
def spHo:Sp:=fun vs H Q _=>∃ (kind:Str) (l:Addr) (ws:List Str),vs=[.str kind,.ref l]∧H l=some (.lst (ws.map V.str))∧(∀ y∈ws,(∀ c∈y.cps.toList,c < 128)∧y.length≤1000)∧ws.length≤900 ∧
  (∀ H',hapW kind ws=none→Same H H'→Q .non H')∧∀ h v H',hapW kind ws=some h→Same H H'→HapIn H' h v→Q v H'
abbrev nHo:List Str:=["kind","words","numbers"]
abbrev pHo:List Str:=["kind","words"]
theorem scHo:FnScope nHo pHo (defScope s_happening_of):=⟨rfl,rfl,rfl,by decide +kernel,rfl,by decide +kernel,by decide +kernel⟩
theorem ok_ho (D:Df K mg "happening_of" s_happening_of pHo f fd) (DB:Df K mg "numbers_in" s_numbers_in pNb fB fdB) (GB:FnOkC P w K mg base CX0 2 fB fdB pNb spNb) (DI:Df K mg "is_name" s_is_name pNm fI fdI) (B:Bl mg) (MA:mg "all"=none):FnOkC P w K mg base CX0 3 f fd pHo spHo:=by
  have GI:FnOk P w K mg base CX0 2 fI fdI pNm spNm:=(ok_nm DI B MA).mono (by omega)
  refine D.F.okC scHo (fun vs H Q E h=>?_) (fun cdv A outer s H vs Q E hr h=>?_)
  · obtain ⟨kind,l,ws,rfl,_⟩:=h
    rfl
  obtain ⟨kind,l,ws,rfl,hl,ok,many,qn,q⟩:=h
  have r2:Room 2 _:=hr
  refine ⟨_,pssC_cons (ps_if ((pw_or (pt_cmpR op_ne (pe_callB (call_lenK K (by rfl)) (by rfl) B.len PySem.boot_len (pa_n (pv 1) pa_nil)) pe_int (nomark _)) (pw_or (pt_cmpR op_ne (pe_ix ix_list (pv 1) pe_int (fun _ _=>rfl)) (pv 0) (nomark _)) (pw_or1 (pt_not (pt_val (pe_call GI r2 (by rfl) DI.m DI.F.kp DI.b .nil pass0 (pa_s (pe_ix ix_list (pv 1) pe_int (fun _ _=>rfl)) pa_nil))))))).pt) (pss_one (ps_ret pe_non)) pss_nil).c
    (pssC_cons (psC_set (i:=2) scHo.nd rfl (Or.inl rfl) (peC_call GB r2 (by rfl) DB.m DB.F.kp DB.b .nil pass0 (pa_b (pe_op op_cat (pe_slice sl_list (pv 1) (po_some pe_int) (po_some pe_int)) (pe_slice sl_list (pv 1) (po_some pe_int) po_none)) pa_nil)))
    (pss_cons (ps_if (pt_cmpR op_isN (pv 2) pe_non (nomark _)) (pss_one (ps_ret pe_non)) pss_nil)
    (pss_one (ps_ret (pe_tup (pa_f (pe_callTy call_tuple_of (by rfl) B.tuple boot_tuple (pa_s (pe_slice sl_list (pv 2) po_none (po_some pe_int)) pa_nil)) (pa_s (pe_ix ix_list (pv 2) pe_int (fun _ _=>rfl)) (pa_s (pe_ix ix_list (pv 1) pe_int (fun _ _=>rfl)) (pa_s (pe_ix ix_list (pv 2) pe_int (fun _ _=>rfl)) (pa_s (pe_ix ix_list (pv 2) pe_int (fun _ _=>rfl)) pa_nil))))))))).c),?_⟩
  have big:=line1000
  refine seq_i ⟨_,rfl,l,_,rfl,.inl (SqL.of hl),rfl,_,rfl,?_⟩
  rw [dint,List.length_map]
  by_cases h9:¬ ws.length=9
  · rw [decide_eq_false (show ¬ (ws.length:Int)=9 by omega)]
    exact iteT (iteT (qn _ (hap_len h9) (Same.refl _)))
  replace h9:=Decidable.not_not.mp h9
  rw [decide_eq_true (show (ws.length:Int)=9 by omega)]
  refine iteF ?_
  obtain ⟨w0,w1,w2,w3,w4,w5,w6,w7,w8,rfl⟩:=list9 h9
  have o6:=ok w6 (by simp)
  have rdw:hapW kind [w0,w1,w2,w3,w4,w5,w6,w7,w8]=if w0=kind∧isName w6=true then
      (match numsIn [w1,w2,w3,w4,w5,w7,w8] with
      | some [a,b,c,d,e,x,y]=>some ⟨[a,b,c,d],e,w6,x,y⟩
      | _=>none) else none:=rfl
  generalize hapW kind [w0,w1,w2,w3,w4,w5,w6,w7,w8]=rr at rdw qn q
  refine ⟨_,rfl,l,_,0,_,rfl,rfl,SqL.of hl,rfl,_,rfl,rfl,_,rfl,?_⟩
  rw [dstr]
  by_cases c0:¬ w0=kind
  · rw [decide_eq_false c0]
    exact iteT (iteT (qn _ (by rw [rdw,if_neg fun z=>c0 z.1]) (Same.refl _)))
  replace c0:=Decidable.not_not.mp c0
  rw [decide_eq_true c0]
  refine iteF ⟨_,rfl,l,_,6,_,rfl,rfl,SqL.of hl,rfl,w6,rfl,o6.2,fun G1 s1=>⟨_,rfl,?_⟩⟩
  cases c6:isName w6 with
  | false=>exact iteT (qn _ (by rw [rdw,if_neg fun z=>by rw [z.2] at c6; cases c6]) s1)
  | true =>
    refine iteF ?_
    rw [if_pos ⟨c0,c6⟩] at rdw
    dsimp only [tNext]
    have hl1:=s1 _ _ hl
    refine seq_i (asg_i ⟨_,rfl,1,rfl,6,rfl,l,_,rfl,SqL.of hl1,fun p1 hp1=>?_⟩)
    have t1:=same_new hp1 (.lst ([w1,w2,w3,w4,w5].map V.str))
    refine ⟨_,rfl,7,rfl,l,_,rfl,SqL.of (t1 _ _ hl1),fun p2 hp2=>?_⟩
    have t2:=same_new hp2 (.lst ([w7,w8].map V.str))
    refine ⟨p1,p2,[w1,w2,w3,w4,w5].map V.str,[w7,w8].map V.str,rfl,rfl,t2 _ _ upd_same,upd_same,by show 5 + 2≤sizeLine; omega,fun p3 hp3=>?_⟩
    have t3:=same_new hp3 (.lst ([w1,w2,w3,w4,w5,w7,w8].map V.str))
    have s13:=((s1.trans t1).trans t2).trans t3
    refine ⟨p3,[w1,w2,w3,w4,w5,w7,w8],rfl,upd_same,fun y m=>ok y (by simp at m ⊢; rcases m with h | h | h | h | h | h | h <;> simp [h]),(show 7≤900 by decide),fun G e g=>gname_i ?_,fun zs p4 G e hp4 g hzs=>gname_i ?_⟩
    · dsimp only
      rw [e] at rdw
      refine seq_i ⟨_,rfl,rfl,_,rfl,iteT (qn _ rdw (s13.trans g))⟩
    · dsimp only
      have zl:=nums_len e
      obtain ⟨a,b,c,d,e5,x,y,rfl⟩:=list7 (show zs.length=7 from zl)
      rw [e] at rdw
      refine seq_i ⟨_,rfl,rfl,_,rfl,iteF ?_⟩
      dsimp only [tNext]
      have hlG:=g _ _ (t3 _ _ (t2 _ _ (t1 _ _ hl1)))
      refine ret_i ⟨_,rfl,4,rfl,p4,_,rfl,SqL.of hzs,fun p5 hp5=>?_⟩
      have t5:=same_new hp5 (.lst ([a,b,c,d].map V.int))
      refine ⟨p5,[a,b,c,d].map V.int,rfl,.inl ⟨SqL.of upd_same,fun p6 hp6=>?_⟩⟩
      have t6:=same_new hp6 (.tup ([a,b,c,d].map V.int))
      have h46:=t6 _ _ (t5 _ _ hzs)
      have hl6:=t6 _ _ (t5 _ _ hlG)
      refine ⟨_,rfl,p4,_,4,_,rfl,rfl,SqL.of h46,rfl,_,rfl,l,_,6,_,rfl,rfl,SqL.of hl6,rfl,_,rfl,p4,_,5,_,rfl,rfl,SqL.of h46,rfl,_,rfl,p4,_,6,_,rfl,rfl,SqL.of h46,rfl,by show 5≤sizeLine; omega,fun p7 hp7=>?_⟩
      have t7:=same_new hp7 (.tup [.ref p6,.int e5,.str w6,.int x,.int y])
      exact q ⟨[a,b,c,d],e5,w6,x,y⟩ _ _ rdw ((((s13.trans g).trans t5).trans t6).trans t7) ⟨p7,p6,rfl,upd_same,t7 _ _ upd_same⟩
inductive Wr where
  | box (n:Str) (z:Int)
  | queue (n:Str) (zs:List Int)
def WrF (H:Hp) (x:Wr) (v:V) (fp:List Addr):Prop:=match x with
  | .box n z=>fp=[]∧∃ t,v=.ref t∧H t=some (.tup [.str n,.int z])
  | .queue n zs=>∃ t q,fp=[q]∧v=.ref t∧H t=some (.tup [.str n,.ref q])∧H q=some (.lst (zs.map V.int))
def wrW (ws:List Str):Option Wr:=match ws with
  | w0 :: w1 :: r=>(match numsIn r with
    | none=>none
    | some zs=>if isName w1=true then (if w0="queue" then some (.queue w1 zs) else if w0="box" then (match zs with | [z]=>some (.box w1 z) | _=>none) else none) else none)
  | _=>none
def spWr:Sp:=fun vs H Q _=>∃ (l:Addr) (ws:List Str),vs=[.ref l]∧H l=some (.lst (ws.map V.str))∧(∀ y∈ws,(∀ c∈y.cps.toList,c < 128)∧y.length≤1000)∧ws.length≤900 ∧
  (∀ H',wrW ws=none→Same H H'→Q .non H')∧∀ x v fp H',wrW ws=some x→Same H H'→WrF H' x v fp→(∀ a∈fp,H a=none)→Q v H'
abbrev nWr:List Str:=["words","held"]
abbrev pWr:List Str:=["words"]
theorem scWr:FnScope nWr pWr (defScope s_write_of):=⟨rfl,rfl,rfl,by decide +kernel,rfl,by decide +kernel,by decide +kernel⟩
theorem ok_wr (D:Df K mg "write_of" s_write_of pWr f fd) (DB:Df K mg "numbers_in" s_numbers_in pNb fB fdB) (GB:FnOkC P w K mg base CX0 2 fB fdB pNb spNb) (DI:Df K mg "is_name" s_is_name pNm fI fdI) (B:Bl mg) (MA:mg "all"=none):FnOkC P w K mg base CX0 3 f fd pWr spWr:=by
  have GI:FnOk P w K mg base CX0 2 fI fdI pNm spNm:=(ok_nm DI B MA).mono (by omega)
  refine D.F.okC scWr (fun vs H Q E h=>?_) (fun cdv A outer s H vs Q E hr h=>?_)
  · obtain ⟨l,ws,rfl,_⟩:=h
    rfl
  obtain ⟨l,ws,rfl,hl,ok,many,qn,q⟩:=h
  have r2:Room 2 _:=hr
  refine ⟨_,pssC_cons (psC_set (i:=1) scWr.nd rfl (Or.inl rfl) (peC_call GB r2 (by rfl) DB.m DB.F.kp DB.b .nil pass0 (pa_s (pe_slice sl_list (pv 0) (po_some pe_int) po_none) pa_nil)))
    (pss_cons (ps_if ((pw_or (pt_cmpR op_lt (pe_callB (call_lenK K (by rfl)) (by rfl) B.len PySem.boot_len (pa_n (pv 0) pa_nil)) pe_int (nomark _)) (pw_or (pt_not (pt_val (pe_call GI r2 (by rfl) DI.m DI.F.kp DI.b .nil pass0 (pa_s (pe_ix ix_list (pv 0) pe_int (fun _ _=>rfl)) pa_nil)))) (pw_or1 (pt_cmpR op_isN (pv 1) pe_non (nomark _))))).pt) (pss_one (ps_ret pe_non)) pss_nil)
    (pss_cons (ps_if (pt_cmpR op_eq (pe_ix ix_list (pv 0) pe_int (fun _ _=>rfl)) pe_str (nomark _)) (pss_one (ps_ret (pe_tup (pa_s (pe_ix ix_list (pv 0) pe_int (fun _ _=>rfl)) (pa_n (pv 1) pa_nil))))) pss_nil)
    (pss_cons (ps_if ((pw_and (pt_cmpR op_eq (pe_ix ix_list (pv 0) pe_int (fun _ _=>rfl)) pe_str (nomark _)) (pw_and1 (pt_cmpR op_eq (pe_callB (call_lenK K (by rfl)) (by rfl) B.len PySem.boot_len (pa_n (pv 1) pa_nil)) pe_int (nomark _)))).pt) (pss_one (ps_ret (pe_tup (pa_s (pe_ix ix_list (pv 0) pe_int (fun _ _=>rfl)) (pa_s (pe_ix ix_list (pv 1) pe_int (fun _ _=>rfl)) pa_nil))))) pss_nil)
    (pss_one (ps_ret pe_non))))).c,?_⟩
  have big:=line1000
  refine seq_g fun nx hnx=>?_
  have fin:∀ vh G,Same H G→((numsIn (ws.drop 2)=none∧vh=.non)∨∃ zs p,numsIn (ws.drop 2)=some zs∧H p=none∧vh=.ref p∧G p=some (.lst (zs.map V.int)))→nx [some (.ref l),some vh] G:=fun vh G sG hh=>hnx _ _ (by
    have hlG:=sG _ _ hl
    refine seq_i ⟨_,rfl,l,_,rfl,.inl (SqL.of hlG),_,_,rfl,rfl,_,rfl,?_⟩
    rw [List.length_map]
    match ws,hlG,ok,qn,q,hh with
    | [],_,_,qn,_,_=>exact iteT (iteT (qn _ rfl sG))
    | [w0],_,_,qn,_,_=>exact iteT (iteT (qn _ rfl sG))
    | w0 :: w1 :: r,hlG,ok,qn,q,hh =>
      rw [decide_eq_false (show ¬ (((w0 :: w1 :: r).length:Nat):Int) < 2 by rw [List.length_cons,List.length_cons]; omega)]
      have hh':(numsIn r=none∧vh=.non)∨∃ zs p,numsIn r=some zs∧H p=none∧vh=.ref p∧G p=some (.lst (zs.map V.int)):=hh
      have wd:wrW (w0 :: w1 :: r)=(match numsIn r with
        | none=>none
        | some zs=>if isName w1=true then (if w0="queue" then some (.queue w1 zs) else if w0="box" then (match zs with | [z]=>some (.box w1 z) | _=>none) else none) else none):=rfl
      have o1:=ok w1 (by simp)
      refine iteF ⟨_,rfl,l,_,1,.str w1,rfl,rfl,SqL.of hlG,atI_nat (j:=1) rfl,w1,rfl,o1.2,fun G1 g1=>⟨_,rfl,?_⟩⟩
      have s1:=sG.trans g1
      have hl1:=g1 _ _ hlG
      cases c1:isName w1 with
      | false =>
        refine iteT (iteT (qn _ ?_ s1))
        rw [wd,c1]
        cases numsIn r <;> rfl
      | true =>
        refine iteF ⟨_,rfl,rfl,_,rfl,?_⟩
        rcases hh' with ⟨e,rfl⟩ | ⟨zs,p,e,pn,rfl,hp⟩
        · refine iteT (qn _ ?_ s1)
          rw [wd,e]
        · have hp1:=g1 _ _ hp
          rw [e,c1] at wd
          dsimp only at wd
          rw [if_pos rfl] at wd
          refine iteF ?_
          dsimp only [tNext]
          refine seq_i ⟨_,rfl,l,_,0,.str w0,rfl,rfl,SqL.of hl1,atI_nat (j:=0) rfl,rfl,_,rfl,?_⟩
          rw [dstr]
          by_cases cq:w0="queue"
          · rw [decide_eq_true cq]
            rw [if_pos cq] at wd
            refine iteT (ret_i ⟨_,rfl,l,_,1,.str w1,rfl,rfl,SqL.of hl1,atI_nat (j:=1) rfl,_,rfl,by show 2≤sizeLine; omega,fun t ht=>?_⟩)
            have t1:=same_new ht (.tup [.str w1,.ref p])
            exact q _ _ [p] _ wd (s1.trans t1) ⟨t,p,rfl,rfl,upd_same,t1 _ _ hp1⟩ fun a m=>by rw [List.mem_singleton.mp m]; exact pn
          · rw [decide_eq_false cq]
            rw [if_neg cq] at wd
            refine iteF ?_
            dsimp only [tNext]
            refine seq_i ⟨_,rfl,l,_,0,.str w0,rfl,rfl,SqL.of hl1,atI_nat (j:=0) rfl,rfl,_,rfl,?_⟩
            rw [dstr]
            by_cases cb:w0="box"
            · rw [decide_eq_true cb]
              rw [if_pos cb] at wd
              refine iteT ⟨_,rfl,p,_,rfl,.inl (SqL.of hp1),rfl,_,rfl,?_⟩
              rw [dint,List.length_map]
              by_cases l1:zs.length=1
              · rw [decide_eq_true (show (zs.length:Int)=1 by omega)]
                match zs,l1 with
                | [z],_ =>
                  refine iteT (ret_i ⟨_,rfl,l,_,1,.str w1,rfl,rfl,SqL.of hl1,atI_nat (j:=1) rfl,_,rfl,p,_,0,.int z,rfl,rfl,SqL.of hp1,rfl,by show 2≤sizeLine; omega,fun t ht=>?_⟩)
                  exact q _ _ [] _ wd (s1.trans (same_new ht _)) ⟨rfl,t,rfl,upd_same⟩ fun a m=>by cases m
              · rw [decide_eq_false (show ¬ (zs.length:Int)=1 by omega)]
                refine iteF ?_
                dsimp only [tNext]
                refine ret_i (qn _ ?_ s1)
                rw [wd]
                split
                · exact absurd rfl l1
                · rfl
            · rw [decide_eq_false cb]
              rw [if_neg cb] at wd
              refine iteF (iteF ?_)
              dsimp only [tNext]
              exact ret_i (qn _ wd s1))
  clear hnx
  refine asg_i ⟨_,rfl,2,rfl,l,_,rfl,SqL.of hl,fun p1 hp1=>?_⟩
  have t1:=same_new hp1 (.lst (cutV (ws.map V.str) (some 2) none))
  have e1:(upd H p1 (.lst (cutV (ws.map V.str) (some 2) none))) p1=some (.lst ((ws.drop 2).map V.str)):=by
    rw [upd_same,show cutV (ws.map V.str) (some 2) none=(ws.map V.str).drop 2 from cut_from _ 2,List.map_drop]
  refine ⟨p1,ws.drop 2,rfl,e1,fun y m=>ok y (List.mem_of_mem_drop m),by rw [List.length_drop]; omega,fun G e g=>gname_i (fin _ _ (t1.trans g) (.inl ⟨e,rfl⟩)),fun zs p G e hp g hz=>gname_i (fin _ _ (t1.trans g) (.inr ⟨zs,p,e,not_some (fun o z=>by rw [t1 _ _ z] at hp; cases hp),rfl,hz⟩))⟩
end
end My
namespace My
open PySem L2
section
variable {P:Program} {w:World} {K:PySem.W.Frag} {mg:Str→Option Value} {base:Heap} {f fH fW:Addr} {fd fdH fdW:FuncData}
seal L2.PS L2.PSs L2.PE L2.PA L2.PT L2.PW L2.PI L2.PG L2.PGs L2.PC L2.PSC L2.PSsC L2.PEC L2.PTC L2.PAC L2.PPs
def spTi:Sp:=fun vs H Q _=>∃ (rt l wl sl:Addr) (v0 v1 v2 v3 v4:V) (wv sv:List V) (ws:List Str),vs=[.ref rt,.ref l]∧H rt=some (.tup [v0,v1,v2,v3,v4,.ref wl,.ref sl])∧H wl=some (.lst wv)∧H sl=some (.lst sv)∧wv.length≤900∧sv.length≤900 ∧
  H l=some (.lst (ws.map V.str))∧(∀ y∈ws,(∀ c∈y.cps.toList,c < 128)∧y.length≤1000)∧ws.length≤900 ∧
  (∀ h v G,hapW "sent" ws=some h→Same H G→HapIn G h v→Q (.bl true) (upd G sl (.lst (sv++[v])))) ∧
  (∀ G,hapW "sent" ws=none→(wrW ws=none∨sv≠[])→Same H G→Q (.bl false) G) ∧
  (∀ x v fp G,hapW "sent" ws=none→sv=[]→wrW ws=some x→Same H G→WrF G x v fp→(∀ a∈fp,H a=none)→Q (.bl true) (upd G wl (.lst (wv++[v]))))
abbrev nTi:List Str:=["record","words","sent","write"]
abbrev pTi:List Str:=["record","words"]
theorem scTi:FnScope nTi pTi (defScope s_take_inner):=⟨rfl,rfl,rfl,by decide +kernel,rfl,by decide +kernel,by decide +kernel⟩
theorem ok_ti (D:Df K mg "take_inner" s_take_inner pTi f fd) (DH:Df K mg "happening_of" s_happening_of pHo fH fdH) (GH:FnOkC P w K mg base CX0 3 fH fdH pHo spHo) (DW:Df K mg "write_of" s_write_of pWr fW fdW) (GW:FnOkC P w K mg base CX0 3 fW fdW pWr spWr):FnOkC P w K mg base CX0 4 f fd pTi spTi:=by
  refine D.F.okC scTi (fun vs H Q E h=>?_) (fun cdv A outer s H vs Q E hr h=>?_)
  · obtain ⟨rt,l,wl,sl,v0,v1,v2,v3,v4,wv,sv,ws,rfl,_⟩:=h
    rfl
  obtain ⟨rt,l,wl,sl,v0,v1,v2,v3,v4,wv,sv,ws,rfl,hr7,hwl,hsl,lw,ls,hl,ok,many,q1,q2,q3⟩:=h
  have r3:Room 3 _:=hr
  refine ⟨_,pssC_cons (psC_set (i:=2) scTi.nd rfl (Or.inl rfl) (peC_call GH r3 (by rfl) DH.m DH.F.kp DH.b .nil pass0 (pa_c pe_str (pa_n (pv 1) pa_nil))))
    (pssC_cons (ps_if (pt_cmpR op_notN (pv 2) pe_non (nomark _)) (pss_cons (ps_expr (pe_bm PySem.F.plainAttrs_list PySem.F.slot_list_append PySem.F.type_list_append mt_append (pe_ix ix_tup (pv 0) pe_int (fun _ _=>rfl)) (pa_n (pv 2) pa_nil)))
    (pss_one (ps_ret pe_bl))) pss_nil).c
    (pssC_cons (psC_set (i:=3) scTi.nd rfl (Or.inl rfl) (peC_call GW r3 (by rfl) DW.m DW.F.kp DW.b .nil pass0 (pa_n (pv 1) pa_nil)))
    (pss_cons (ps_if ((pw_or (pt_cmpR op_isN (pv 3) pe_non (nomark _)) (pw_or1 (pt_truth (pe_ix ix_tup (pv 0) pe_int (fun _ _=>rfl)) (fun _=>rfl)))).pt) (pss_one (ps_ret pe_bl)) pss_nil)
    (pss_cons (ps_expr (pe_bm PySem.F.plainAttrs_list PySem.F.slot_list_append PySem.F.type_list_append mt_append (pe_ix ix_tup (pv 0) pe_int (fun _ _=>rfl)) (pa_n (pv 3) pa_nil)))
    (pss_one (ps_ret pe_bl)))).c)),?_⟩
  have big:=line1000
  refine seq_i (asg_i ⟨_,rfl,"sent",l,ws,rfl,hl,ok,many,fun G e g=>gname_i ?_,fun h v G e g hv=>gname_i ?_⟩)
  · dsimp only
    refine seq_i ⟨_,rfl,rfl,_,rfl,iteF ?_⟩
    dsimp only [tNext]
    refine seq_i (asg_i ⟨_,rfl,l,ws,rfl,g _ _ hl,ok,many,fun G2 e2 g2=>gname_i ?_,fun x v fp G2 e2 g2 hx hfp=>gname_i ?_⟩)
    · dsimp only
      refine seq_i ⟨_,rfl,rfl,_,rfl,iteT (iteT (q2 _ e (.inl e2) (g.trans g2)))⟩
    · dsimp only
      have g12:=g.trans g2
      have nn:¬ v=V.non:=fun z=>by
        subst z
        cases x with
        | box n z=>obtain ⟨_,t,z,_⟩:=hx; cases z
        | queue n zs=>obtain ⟨t,p,_,z,_⟩:=hx; cases z
      refine seq_i ⟨_,rfl,rfl,_,rfl,?_⟩
      rw [decide_eq_false nn]
      refine iteF ⟨_,rfl,rt,_,6,_,rfl,rfl,SqT.of (g12 _ _ hr7),rfl,_,.inl ⟨sv,SqL.of (g12 _ _ hsl),rfl⟩,?_⟩
      cases sv with
      | cons a sv=>exact iteT (q2 _ e (.inr (by simp)) g12)
      | nil =>
        refine iteF ?_
        dsimp only [tNext]
        refine seq_i ⟨_,rfl,rt,_,5,_,rfl,rfl,SqT.of (g12 _ _ hr7),rfl,.inl ⟨rfl,wv,SqL.of (g12 _ _ hwl)⟩,_,rfl,wl,wv,_,rfl,rfl,g12 _ _ hwl,by omega,?_⟩
        exact q3 x v fp G2 e rfl e2 g12 hx fun a m=>not_some fun o z=>by
          have:=g _ _ z
          rw [hfp a m] at this
          cases this
  · dsimp only
    have nn:¬ v=V.non:=fun z=>by
      subst z
      obtain ⟨t,p,z,_⟩:=hv
      cases z
    refine seq_i ⟨_,rfl,rfl,_,rfl,?_⟩
    rw [decide_eq_false nn]
    refine iteT ?_
    refine seq_i ⟨_,rfl,rt,_,6,_,rfl,rfl,SqT.of (g _ _ hr7),rfl,.inl ⟨rfl,sv,SqL.of (g _ _ hsl)⟩,_,rfl,sl,sv,_,rfl,rfl,g _ _ hsl,by omega,?_⟩
    exact q1 h v G e g hv
end
end My
namespace My
open PySem L2
def dig (m:Nat):List Nat:=(Nat.toDigits 10 m).map Char.toNat
open NumText in
theorem dig_all (m:Nat):AllDigits (dig m):=fun c hc=>by
  obtain ⟨ch,hch,rfl⟩:=List.mem_map.mp hc
  exact PyProof.Rows.digit_range (Nat.isDigit_of_mem_toDigits (by decide) (by decide) hch)
theorem dig_ne (m:Nat):dig m≠[]:=fun z=>by
  have h:=toDigits_len_ge 10 m
  rw [List.map_eq_nil_iff.mp z] at h
  exact absurd h (by decide)
def nt (z:Int):Str:=Str.ofString (toString z)
theorem nt_nat (m:Nat):(nt (m:Int)).cps.toList=dig m:=PySem.W.KIN.signs_num m
theorem nt_neg {m:Nat} (h:0 < m):(nt (-(m:Int))).cps.toList=45 :: dig m:=by
  have zn:-(m:Int) < 0:=by omega
  have hm:0 - -(m:Int)=(m:Int):=by omega
  unfold nt
  rw [PyProof.Rows.toString_neg zn,hm,PyProof.Rows.signs_ofString,String.toList_append,List.map_append,← PyProof.Rows.signs_ofString (toString ((m:Nat):Int)),PySem.W.KIN.signs_num]
  rfl
theorem str_of {x y:Str} (h:x.cps.toList=y.cps.toList):x=y:=Str.ext' (Array.toList_inj.mp h)
def W20 (z:Int):Prop:=-(10 ^ 20) < z∧z < 10 ^ 20
theorem dig20 {m:Nat} (h:m < 10 ^ 20):(dig m).length≤20:=by
  have:=PyProof.Rows.toString_length_le (v:=(m:Int)) (by omega) (k:=20) (by decide) (by omega)
  have e:(nt (m:Int)).length=(dig m).length:=by
    rw [← nt_nat,Array.length_toList]
    rfl
  rw [← e]
  exact this
theorem nt20 {z:Int} (h:W20 z):(nt z).length≤21∧PySem.intText? (nt z)=some z∧(∀ c∈(nt z).cps.toList,c < 128∧c≠32∧c≠10):=by
  obtain ⟨h1,h2⟩:=h
  have lz:(nt z).cps.toList.length=(nt z).length:=Array.length_toList
  by_cases c:0≤z
  · obtain ⟨m,rfl⟩:=Int.eq_ofNat_of_zero_le c
    have e:=nt_nat m
    have l:=dig20 (m:=m) (by omega)
    have ad:=dig_all m
    have ll:(nt (m:Int)).length≤20:=by rw [← lz,e]; exact l
    have it:=PySem.intText_digits (x:=nt (m:Int)) (by rw [e]; exact ad) (by rw [e]; exact dig_ne m) (by omega)
    rw [e,show NumText.digitsVal (dig m)=m from PySem.W.KIN.val_back m] at it
    refine ⟨by omega,it,fun d hd=>?_⟩
    rw [e] at hd
    have:=ad d hd
    omega
  · obtain ⟨m,rfl,m0⟩:∃ m:Nat,z=-(m:Int)∧0 < m:=⟨(-z).toNat,by omega,by omega⟩
    have e:=nt_neg m0
    have l:=dig20 (m:=m) (by omega)
    have ad:=dig_all m
    have ll:(nt (-(m:Int))).length≤21:=by rw [← lz,e,List.length_cons]; omega
    have it:=PySem.intText_neg e ad (dig_ne m) (by omega)
    rw [show NumText.digitsVal (dig m)=m from PySem.W.KIN.val_back m] at it
    refine ⟨ll,it,fun d hd=>?_⟩
    rw [e] at hd
    rcases List.mem_cons.mp hd with rfl | hd
    · omega
    · have:=ad d hd
      omega
theorem numIn20 {z:Int} (h:W20 z):numIn (nt z) (1 - 10 ^ 20) (10 ^ 20 - 1)=some z:=by
  obtain ⟨l,it,_⟩:=nt20 h
  obtain ⟨h1,h2⟩:=h
  unfold numIn
  rw [if_neg (by omega),it]
  show (if _ then none else some z)=_
  rw [if_neg]
  rintro (h3 | h3 | h3)
  · exact h3 rfl
  · omega
  · omega
theorem nums20:∀ {zs:List Int},(∀ z∈zs,W20 z)→numsIn (zs.map nt)=some zs
  | [],_=>rfl
  | z :: zs,h=>by
    rw [List.map_cons,numsIn,numIn20 (h z (by simp)),nums20 fun x m=>h x (List.mem_cons_of_mem _ m)]
end My
namespace My
open PySem L2
inductive En where
  | one (w:Str)
  | fin (ks:List Int)
  | flt (w:Str) (ks:List Int)
def faults:List Str:=["nought","great","full","dry","span","late"]
def EnIn (H:Hp) (x:En) (v:V):Prop:=match x with
  | .one w=>∃ t,v=.ref t∧H t=some (.tup [.str w])
  | .fin ks=>∃ t k,v=.ref t∧H t=some (.tup [.str "end",.ref k])∧H k=some (.tup (ks.map V.int))
  | .flt w ks=>∃ t k,v=.ref t∧H t=some (.tup [.str "fault",.str w,.ref k])∧H k=some (.tup (ks.map V.int))
def enK (w0:Str) (r:List Str) (ks:List Int):Option En:=if ks.length≠4 then none else if w0="end" then some (.fin ks) else if w0="fault" then (match r with | w1 :: _=>if w1∈faults then some (.flt w1 ks) else none | []=>none) else none
def enW (ws:List Str):Option En:=if ws=[("empty":Str)] then some (.one "empty") else if ws=[("cut":Str)] then some (.one "cut") else
  match ws with
  | []=>none
  | w0 :: r=>(numsIn (if w0="fault" then r.drop 1 else r)).bind (enK w0 r)
theorem beq1 {H:Hp} {p q:Addr} {ws:List Str} {u:Str} (hp:H p=some (.lst (ws.map V.str))) (hq:H q=some (.lst [.str u])):BEq H 1 (.ref p) (.ref q) (decide (ws=[u])):=by
  refine .inr ⟨p,q,ws.map V.str,[.str u],rfl,rfl,?_⟩
  by_cases l:ws.length=1
  · match ws,l with
    | [y],_ =>
      refine .inr ⟨.inl ⟨hp,hq⟩,rfl,fun _=>decide (y=u),fun i a b ha hb=>?_,?_⟩
      · cases i with
        | zero=>cases ha; cases hb; exact .inr ⟨y,u,rfl,rfl,rfl⟩
        | succ i=>cases ha
      · show _=([0].all _)
        by_cases c:y=u
        · simp [c]
        · simp [c]
  · refine .inl ⟨hp,hq,by rw [List.length_map]; exact l,decide_eq_false fun z=>l (by rw [z]; rfl)⟩
theorem tC_ite {c:Bool} {a b:V} {e H k} (h:k (if c then a else b) H):if c=true then tC a e H k else tC b e H k:=by cases c <;> exact h
theorem in_strs' (x:Str) (xs:List Str):inV (.str x) (xs.map V.str)=decide (x∈xs):=by
  unfold inV
  induction xs with
  | nil=>rfl
  | cons y xs ih =>
    rw [List.map_cons,List.any_cons,ih]
    have e:eqV (.str y) (.str x)=decide (x=y):=by
      by_cases c:x=y
      · subst c
        rw [decide_eq_true rfl]
        simp [eqV]
      · rw [decide_eq_false c]
        simp [eqV]
        exact fun z=>c z.symm
    rw [e]
    by_cases c:x=y
    · subst c
      simp
    · simp [c]
section
variable {P:Program} {w:World} {K:PySem.W.Frag} {mg:Str→Option Value} {base:Heap} {f fB aF:Addr} {fd fdB:FuncData}
seal L2.PS L2.PSs L2.PE L2.PA L2.PT L2.PW L2.PI L2.PG L2.PGs L2.PC L2.PSC L2.PSsC L2.PEC L2.PTC L2.PAC L2.PPs
def spEn:Sp:=fun vs H Q _=>∃ (l:Addr) (ws:List Str),vs=[.ref l]∧H l=some (.lst (ws.map V.str))∧ws≠[]∧(∀ y∈ws,(∀ c∈y.cps.toList,c < 128)∧y.length≤1000)∧ws.length≤900 ∧
  (∀ H',enW ws=none→Same H H'→Q .non H')∧∀ x v H',enW ws=some x→Same H H'→EnIn H' x v→Q v H'
abbrev nEn:List Str:=["words","count","key"]
abbrev pEn:List Str:=["words"]
theorem scEn:FnScope nEn pEn (defScope s_ending_of):=⟨rfl,rfl,rfl,by decide +kernel,rfl,by decide +kernel,by decide +kernel⟩
theorem ok_en (D:Df K mg "ending_of" s_ending_of pEn f fd) (DB:Df K mg "numbers_in" s_numbers_in pNb fB fdB) (GB:FnOkC P w K mg base CX0 2 fB fdB pNb spNb) (B:Bl mg) (hF:mg "FAULTS"=some (.ref aF)) (hFt:∀ H:Hp,SqT K H aF (faults.map V.str)):FnOkC P w K mg base CX0 3 f fd pEn spEn:=by
  refine D.F.okC scEn (fun vs H Q E h=>?_) (fun cdv A outer s H vs Q E hr h=>?_)
  · obtain ⟨l,ws,rfl,_⟩:=h
    rfl
  obtain ⟨l,ws,rfl,hl,ne,ok,many,qn,q⟩:=h
  have r2:Room 2 _:=hr
  have h50:=hu50 hr
  refine ⟨_,pssC_cons (ps_if ((pw_or (pt_cmpR (op_eqB h50) (pv 0) (pe_lst (pa_c pe_str pa_nil)) (nomark _)) (pw_or1 (pt_cmpR (op_eqB h50) (pv 0) (pe_lst (pa_c pe_str pa_nil)) (nomark _)))).pt) (pss_one (ps_ret (pe_tup (pa_s (pe_ix ix_list (pv 0) pe_int (fun _ _=>rfl)) pa_nil)))) pss_nil).c
    (pssC_cons (ps_set (i:=1) scEn.nd rfl (Or.inl rfl) (pe_ifExp (pt_cmpR op_eq (pe_ix ix_list (pv 0) pe_int (fun _ _=>rfl)) pe_str (nomark _)) pe_int pe_int)).c
    (pssC_cons (psC_set (i:=2) scEn.nd rfl (Or.inl rfl) (peC_call GB r2 (by rfl) DB.m DB.F.kp DB.b .nil pass0 (pa_s (pe_slice sl_list (pv 0) (po_some (pv 1)) po_none) pa_nil)))
    (pss_cons (ps_if ((pw_or (pt_cmpR op_isN (pv 2) pe_non (nomark _)) (pw_or1 (pt_cmpR op_ne (pe_callB (call_lenK K (by rfl)) (by rfl) B.len PySem.boot_len (pa_n (pv 2) pa_nil)) pe_int (nomark _)))).pt) (pss_one (ps_ret pe_non)) pss_nil)
    (pss_cons (ps_if (pt_cmpR op_eq (pe_ix ix_list (pv 0) pe_int (fun _ _=>rfl)) pe_str (nomark _)) (pss_one (ps_ret (pe_tup (pa_c pe_str (pa_f (pe_callTy call_tuple_of (by rfl) B.tuple boot_tuple (pa_n (pv 2) pa_nil)) pa_nil))))) pss_nil)
    (pss_cons (ps_if ((pw_and (pt_cmpR op_eq (pe_ix ix_list (pv 0) pe_int (fun _ _=>rfl)) pe_str (nomark _)) (pw_and1 (pt_cmpR op_in_seq (pe_ix ix_list (pv 0) pe_int (fun _ _=>rfl)) (pe_glob (v:=.ref aF) (by rfl) hF rfl) (by with_unfolding_all rfl)))).pt) (pss_one (ps_ret (pe_tup (pa_c pe_str (pa_s (pe_ix ix_list (pv 0) pe_int (fun _ _=>rfl)) (pa_f (pe_callTy call_tuple_of (by rfl) B.tuple boot_tuple (pa_n (pv 2) pa_nil)) pa_nil)))))) pss_nil)
    (pss_one (ps_ret pe_non))))).c)),?_⟩
  have big:=line1000
  have i0:(0:Nat)≤0:=Nat.le_refl _
  refine seq_i ⟨_,rfl,by show 1≤sizeLine; omega,fun p1 hp1=>?_⟩
  have t1:=same_new hp1 (.lst [.str "empty"])
  have hl1:=t1 _ _ hl
  refine ⟨1,l,p1,_,by decide,rfl,rfl,beq1 hl1 upd_same,_,rfl,?_⟩
  by_cases c1:ws=[("empty":Str)]
  · rw [decide_eq_true c1]
    subst c1
    refine iteT (iteT (ret_i ⟨_,rfl,l,_,0,.str "empty",rfl,rfl,SqL.of hl1,rfl,by show 1≤sizeLine; omega,fun t ht=>?_⟩))
    exact q (.one "empty") _ _ rfl (t1.trans (same_new ht _)) ⟨t,rfl,upd_same⟩
  rw [decide_eq_false c1]
  refine iteF ⟨_,rfl,by show 1≤sizeLine; omega,fun p2 hp2=>?_⟩
  have t2:=same_new hp2 (.lst [.str "cut"])
  have hl2:=t2 _ _ hl1
  refine ⟨1,l,p2,_,by decide,rfl,rfl,beq1 hl2 upd_same,_,rfl,?_⟩
  have s2:=t1.trans t2
  by_cases c2:ws=[("cut":Str)]
  · rw [decide_eq_true c2]
    subst c2
    refine iteT (ret_i ⟨_,rfl,l,_,0,.str "cut",rfl,rfl,SqL.of hl2,rfl,by show 1≤sizeLine; omega,fun t ht=>?_⟩)
    exact q (.one "cut") _ _ (by unfold enW; rw [if_neg c1,if_pos rfl]) (s2.trans (same_new ht _)) ⟨t,rfl,upd_same⟩
  rw [decide_eq_false c2]
  refine iteF ?_
  dsimp only [tNext]
  cases ws with
  | nil=>exact absurd rfl ne
  | cons w0 r =>
    have wd:enW (w0 :: r)=(numsIn (if w0="fault" then r.drop 1 else r)).bind (enK w0 r):=by
      unfold enW
      rw [if_neg c1,if_neg c2]
    refine seq_i (asg_i ⟨_,rfl,l,_,0,.str w0,rfl,rfl,SqL.of hl2,atI_nat (j:=0) rfl,rfl,_,rfl,?_⟩)
    rw [dstr]
    obtain ⟨n,hn,hd⟩:∃ n:Nat,(if w0="fault" then (2:Int) else 1)=(n:Int)∧(w0 :: r).drop n=if w0="fault" then r.drop 1 else r:=by
      by_cases c:w0="fault"
      · exact ⟨2,by rw [if_pos c]; rfl,by rw [if_pos c]; rfl⟩
      · exact ⟨1,by rw [if_neg c]; rfl,by rw [if_neg c]; rfl⟩
    rw [← hd] at wd
    refine tC_ite ?_
    have hv:(if decide (w0="fault")=true then V.int 2 else V.int 1)=V.int n:=by
      rw [← hn]
      by_cases c:w0="fault"
      · rw [decide_eq_true c,if_pos rfl,if_pos c]
      · rw [decide_eq_false c,if_neg (by decide),if_neg c]
    rw [hv]
    refine gname_i ?_
    dsimp only
    refine seq_i (asg_i ⟨_,rfl,_,rfl,(n:Int),rfl,l,_,rfl,SqL.of hl2,fun p3 hp3=>?_⟩)
    have t3:=same_new hp3 (.lst (cutV ((w0 :: r).map V.str) (some (n:Int)) none))
    have s3:=s2.trans t3
    have cut:cutV ((w0 :: r).map V.str) (some (n:Int)) none=((w0 :: r).drop n).map V.str:=by
      rw [cut_from,List.map_drop]
    refine ⟨p3,(w0 :: r).drop n,rfl,by rw [upd_same,cut],fun y m=>ok y (List.mem_of_mem_drop m),by rw [List.length_drop]; omega,fun G e g=>gname_i ?_,fun zs p4 G e hp4 g hzs=>gname_i ?_⟩
    · dsimp only
      rw [e] at wd
      exact seq_i ⟨_,rfl,rfl,_,rfl,iteT (iteT (qn _ wd (s3.trans g)))⟩
    · dsimp only
      rw [e] at wd
      have zl:=nums_len e
      have sG:=s3.trans g
      have hlG:=sG _ _ hl
      refine seq_i ⟨_,rfl,rfl,_,rfl,iteF ⟨_,rfl,p4,_,rfl,.inl (SqL.of hzs),rfl,_,rfl,?_⟩⟩
      rw [dint,List.length_map]
      by_cases h4:¬ zs.length=4
      · rw [decide_eq_false (show ¬ (zs.length:Int)=4 by omega)]
        exact iteT (qn _ (by rw [wd]; exact if_pos h4) sG)
      replace h4:=Decidable.not_not.mp h4
      rw [decide_eq_true (show (zs.length:Int)=4 by omega)]
      refine iteF ?_
      dsimp only [tNext]
      have wk:enW (w0 :: r)=if w0="end" then some (.fin zs) else if w0="fault" then (match r with | w1 :: _=>if w1∈faults then some (.flt w1 zs) else none | []=>none) else none:=by
        rw [wd]
        show enK w0 r zs=_
        unfold enK
        rw [if_neg (fun z=>z h4)]
      refine seq_i ⟨_,rfl,l,_,0,.str w0,rfl,rfl,SqL.of hlG,atI_nat (j:=0) rfl,rfl,_,rfl,?_⟩
      rw [dstr]
      by_cases ce:w0="end"
      · rw [decide_eq_true ce]
        rw [if_pos ce] at wk
        refine iteT (ret_i ⟨_,rfl,p4,zs.map V.int,rfl,.inl ⟨SqL.of hzs,fun p5 hp5=>⟨by show 2≤sizeLine; omega,fun t ht=>?_⟩⟩⟩)
        have t5:=same_new hp5 (.tup (zs.map V.int))
        have t6:=same_new ht (.tup [.str "end",.ref p5])
        exact q (.fin zs) _ _ wk ((sG.trans t5).trans t6) ⟨t,p5,rfl,upd_same,t6 _ _ upd_same⟩
      rw [decide_eq_false ce]
      rw [if_neg ce] at wk
      refine iteF ?_
      dsimp only [tNext]
      refine seq_i ⟨_,rfl,l,_,0,.str w0,rfl,rfl,SqL.of hlG,atI_nat (j:=0) rfl,rfl,_,rfl,?_⟩
      rw [dstr]
      by_cases cf:w0="fault"
      · rw [decide_eq_true cf]
        rw [if_pos cf] at wk hd
        cases r with
        | nil=>exact absurd (h4.symm.trans (zl.trans (congrArg List.length hd))) (by decide)
        | cons w1 r' =>
          refine iteT ⟨_,rfl,l,_,1,.str w1,rfl,rfl,SqL.of hlG,atI_nat (j:=1) rfl,aF,faults.map V.str,rfl,.inr (hFt _),rfl,rfl,_,rfl,?_⟩
          rw [if_neg (by decide:¬ (false=true)),in_strs']
          by_cases ci:w1∈faults
          · rw [decide_eq_true ci]
            replace wk:=wk.trans (if_pos ci)
            refine iteT (ret_i ⟨_,rfl,l,_,1,.str w1,rfl,rfl,SqL.of hlG,atI_nat (j:=1) rfl,_,rfl,p4,zs.map V.int,rfl,.inl ⟨SqL.of hzs,fun p5 hp5=>⟨by show 3≤sizeLine; omega,fun t ht=>?_⟩⟩⟩)
            have t5:=same_new hp5 (.tup (zs.map V.int))
            have t6:=same_new ht (.tup [.str "fault",.str w1,.ref p5])
            exact q (.flt w1 zs) _ _ wk ((sG.trans t5).trans t6) ⟨t,p5,rfl,upd_same,t6 _ _ upd_same⟩
          · rw [decide_eq_false ci]
            replace wk:=wk.trans (if_neg ci)
            refine iteF ?_
            exact qn _ wk sG
      · rw [decide_eq_false cf]
        rw [if_neg cf] at wk
        refine iteF ?_
        exact qn _ wk sG
end
end My
namespace My
open PySem L2
theorem paired_app {α β:Type} {R:α→β→Prop}:∀ {xs xs':List α} {ys ys':List β},Paired R xs ys→Paired R xs' ys'→Paired R (xs++xs') (ys++ys')
  | _,_,_,_,.nil,k=>k
  | _,_,_,_,.cons h t,k=>.cons h (paired_app t k)
inductive Prs {α:Type} (R:α→V→List Addr→Prop):List α→List V→List Addr→Prop
  | nil:Prs R [] [] []
  | cons {x v a xs vs as}:R x v a→Prs R xs vs as→Prs R (x :: xs) (v :: vs) (a++as)
theorem Prs.app {α:Type} {R:α→V→List Addr→Prop} {xs ys:List α} {us vs:List V} {as bs:List Addr} (h:Prs R xs us as) (k:Prs R ys vs bs):Prs R (xs++ys) (us++vs) (as++bs):=by
  induction h with
  | nil=>exact k
  | cons h t ih=>rw [List.append_assoc]; exact .cons h ih
theorem Prs.mono {α:Type} {R S:α→V→List Addr→Prop} {xs:List α} {us:List V} {as:List Addr} (h:Prs R xs us as) (k:∀ x v a,(∀ b∈a,b∈as)→R x v a→S x v a):Prs S xs us as:=by
  induction h with
  | nil=>exact .nil
  | cons h t ih=>exact .cons (k _ _ _ (fun b m=>List.mem_append_left _ m) h) (ih fun x v a s=>k x v a fun b m=>List.mem_append_right _ (s b m))
theorem Prs.len {α:Type} {R:α→V→List Addr→Prop} {xs:List α} {us:List V} {as:List Addr} (h:Prs R xs us as):xs.length=us.length:=by
  induction h with
  | nil=>rfl
  | cons h t ih=>rw [List.length_cons,List.length_cons,ih]
theorem Prs.last {α:Type} {R:α→V→List Addr→Prop} {xs:List α} {x:α} {us:List V} {as:List Addr} (h:Prs R (xs++[x]) us as):∃ vs v cs bs,us=vs++[v]∧as=cs++bs∧Prs R xs vs cs∧R x v bs:=by
  induction xs generalizing us as with
  | nil =>
    cases h with
    | cons h t =>
      cases t
      exact ⟨[],_,[],_,rfl,by simp,.nil,h⟩
  | cons y xs ih =>
    cases h with
    | cons h t =>
      obtain ⟨vs,v,cs,bs,rfl,rfl,p,q⟩:=ih t
      exact ⟨_ :: vs,v,_++cs,bs,rfl,by simp,.cons h p,q⟩
theorem Prs.at {α:Type} {R:α→V→List Addr→Prop} {xs:List α} {us:List V} {as:List Addr} (h:Prs R xs us as):∀ {i:Nat} {v:V},us[i]?=some v→∃ x a,xs[i]?=some x∧(∀ b∈a,b∈as)∧R x v a:=by
  induction h with
  | nil=>intro i v e; cases i <;> cases e
  | cons h t ih =>
    intro i v e
    cases i with
    | zero=>cases e; exact ⟨_,_,rfl,fun b m=>List.mem_append_left _ m,h⟩
    | succ i =>
      obtain ⟨x,a,e1,e2,e3⟩:=ih (i:=i) e
      exact ⟨x,a,e1,fun b m=>List.mem_append_right _ (e2 b m),e3⟩
def Kx (fp:List Addr) (H H':Hp):Prop:=(∀ b xs,H b=some (.tup xs)→H' b=some (.tup xs))∧∀ b∈fp,∀ xs,H b=some (.lst xs)→H' b=some (.lst xs)
theorem Kx.of_same {fp:List Addr} {H H':Hp} (s:Same H H'):Kx fp H H':=⟨fun b _ e=>s b _ e,fun b _ _ e=>s b _ e⟩
theorem Kx.of_but {fp:List Addr} {H H':Hp} {a:Addr} {xs:List V} (ha:H a=some (.lst xs)) (s:But a H H') (n:a∉fp):Kx fp H H':=⟨fun b _ e=>s b _ e (fun z=>by rw [z,ha] at e; cases e),fun b m _ e=>s b _ e fun z=>n (z ▸ m)⟩
theorem Kx.sub {fp fq:List Addr} {H H':Hp} (k:Kx fp H H') (s:∀ b∈fq,b∈fp):Kx fq H H':=⟨k.1,fun b m=>k.2 b (s b m)⟩
theorem HapIn.kx {H H':Hp} {fp:List Addr} {h:Hap} {v:V} (k:Kx fp H H') (i:HapIn H h v):HapIn H' h v:=by
  obtain ⟨t,p,rfl,e1,e2⟩:=i
  exact ⟨t,p,rfl,k.1 _ _ e1,k.1 _ _ e2⟩
theorem WrF.kx {H H':Hp} {fp:List Addr} {x:Wr} {v:V} (k:Kx fp H H') (i:WrF H x v fp):WrF H' x v fp:=by
  cases x with
  | box n z =>
    obtain ⟨rfl,t,rfl,e⟩:=i
    exact ⟨rfl,t,rfl,k.1 _ _ e⟩
  | queue n zs =>
    obtain ⟨t,q,rfl,rfl,e1,e2⟩:=i
    exact ⟨t,q,rfl,rfl,k.1 _ _ e1,k.2 _ (by simp) _ e2⟩
theorem WrF.nd {H:Hp} {x:Wr} {v:V} {fp:List Addr} (i:WrF H x v fp):fp.Nodup:=by
  cases x with
  | box n z =>
    obtain ⟨rfl,_⟩:=i
    exact List.nodup_nil
  | queue n zs =>
    obtain ⟨t,q,rfl,_⟩:=i
    simp
structure RcW where
  h:Hap
  ws:List Wr
  ss:List Hap
def RcF (H:Hp) (r:RcW) (v:V) (fp:List Addr):Prop:=∃ (t k wl sl:Addr) (wv sv:List V) (qs:List Addr),v=.ref t∧fp=wl :: sl :: qs∧H t=some (.tup [.ref k,.int r.h.to,.str r.h.nm,.int r.h.a,.int r.h.b,.ref wl,.ref sl])∧H k=some (.tup (r.h.ks.map V.int)) ∧
  H wl=some (.lst wv)∧H sl=some (.lst sv)∧Prs (WrF H) r.ws wv qs∧Paired (HapIn H) r.ss sv
theorem RcF.kx {H H':Hp} {fp:List Addr} {r:RcW} {v:V} (k:Kx fp H H') (i:RcF H r v fp):RcF H' r v fp:=by
  obtain ⟨t,p,wl,sl,wv,sv,qs,rfl,rfl,e1,e2,e3,e4,e5,e6⟩:=i
  exact ⟨t,p,wl,sl,wv,sv,qs,rfl,rfl,k.1 _ _ e1,k.1 _ _ e2,k.2 _ (by simp) _ e3,k.2 _ (by simp) _ e4,e5.mono fun x v a s i=>i.kx (k.sub fun b m=>by simp [s b m]),Paired.mono (fun _ _ i=>i.kx k) e6⟩
theorem Prs.rkx {H H':Hp} {fp:List Addr} {rs:List RcW} {vs:List V} (h:Prs (RcF H) rs vs fp) (k:Kx fp H H'):Prs (RcF H') rs vs fp:=h.mono fun _ _ _ s i=>i.kx (k.sub s)
theorem Prs.lists {α:Type} {R:α→V→List Addr→Prop} {H:Hp} {xs:List α} {us:List V} {as:List Addr} (h:Prs R xs us as) (k:∀ x v a,R x v a→∀ b∈a,∃ xs,H b=some (.lst xs)):∀ b∈as,∃ xs,H b=some (.lst xs):=by
  induction h with
  | nil=>intro b m; cases m
  | cons h t ih =>
    intro b m
    rcases List.mem_append.mp m with m | m
    · exact k _ _ _ h b m
    · exact ih b m
theorem WrF.lists {H:Hp} {x:Wr} {v:V} {fp:List Addr} (i:WrF H x v fp):∀ b∈fp,∃ xs,H b=some (.lst xs):=by
  cases x with
  | box n z =>
    obtain ⟨rfl,_⟩:=i
    intro b m
    cases m
  | queue n zs =>
    obtain ⟨t,q,rfl,rfl,e1,e2⟩:=i
    intro b m
    rw [List.mem_singleton.mp m]
    exact ⟨_,e2⟩
theorem RcF.lists {H:Hp} {x:RcW} {v:V} {fp:List Addr} (i:RcF H x v fp):∀ b∈fp,∃ xs,H b=some (.lst xs):=by
  obtain ⟨t,p,wl,sl,wv,sv,qs,rfl,rfl,e1,e2,e3,e4,e5,e6⟩:=i
  intro b m
  rcases List.mem_cons.mp m with rfl | m
  · exact ⟨_,e3⟩
  rcases List.mem_cons.mp m with rfl | m
  · exact ⟨_,e4⟩
  · exact e5.lists (fun _ _ _=>WrF.lists) b m
def tkI (r:RcW) (ws:List Str):Option RcW:=match hapW "sent" ws with
  | some h=>some ⟨r.h,r.ws,r.ss++[h]⟩
  | none=>if r.ss=[] then (match wrW ws with | some x=>some ⟨r.h,r.ws++[x],r.ss⟩ | none=>none) else none
def tkL (rs:List RcW) (ws:List Str):Option (List RcW):=match hapW "at" ws with
  | some h=>some (rs++[⟨h,[],[]⟩])
  | none=>if ws.take 2=[("":Str),""] then (match rs.getLast? with | none=>none | some r=>(tkI r (ws.drop 2)).map fun r'=>rs.dropLast++[r']) else none
theorem tkL_at {rs:List RcW} {ws:List Str} {h:Hap} (e:hapW "at" ws=some h):tkL rs ws=some (rs++[⟨h,[],[]⟩]):=by
  unfold tkL
  rw [e]
theorem tkL_in {rs:List RcW} {r:RcW} {ws:List Str} (e:hapW "at" ws=none) (c:ws.take 2=[("":Str),""]):tkL (rs++[r]) ws=(tkI r (ws.drop 2)).map fun r'=>rs++[r']:=by
  unfold tkL
  rw [e]
  dsimp only
  rw [if_pos c,List.getLast?_concat,List.dropLast_concat]
theorem tkL_no {rs:List RcW} {ws:List Str} (e:hapW "at" ws=none) (c:rs=[]∨ws.take 2≠[("":Str),""]):tkL rs ws=none:=by
  unfold tkL
  rw [e]
  dsimp only
  rcases c with rfl | c
  · simp
  · rw [if_neg c]
def rNeS:R2:=fun x y H Q=>∃ (p q:Addr) (ws us:List Str),x=.ref p∧y=.ref q∧H p=some (.lst (ws.map V.str))∧H q=some (.lst (us.map V.str))∧Q (.bl (!decide (ws=us))) H
theorem all_dec {ws us:List Str} (h:ws.length=us.length):(List.range ws.length).all (fun i=>decide (ws[i]?=us[i]?))=decide (ws=us):=by
  by_cases c:ws=us
  · subst c
    rw [decide_eq_true rfl,List.all_eq_true]
    intro i _
    exact decide_eq_true rfl
  · rw [decide_eq_false c,Bool.eq_false_iff]
    intro z
    rw [List.all_eq_true] at z
    refine c (List.ext_getElem? fun i=>?_)
    by_cases l:i < ws.length
    · exact of_decide_eq_true (z i (List.mem_range.mpr l))
    · rw [List.getElem?_eq_none (by omega),List.getElem?_eq_none (by omega)]
theorem op_neW {X:Cx} (hu:X.A.units + 50 < cLine):OpR X (compareOp .NotEq) rNeS:=by
  intro pins s σ H x y v u Q I rx ry h
  obtain ⟨p,q,ws,us,rfl,rfl,h1,h2,k⟩:=h
  cases rx
  cases ry
  obtain ⟨as,r1,i1⟩:=isList_of I.hok h1
  obtain ⟨bs,r2,i2⟩:=isList_of I.hok h2
  have l1:=r1.length
  have l2:=r2.length
  rw [List.length_map] at l1 l2
  by_cases c:ws.length=us.length
  · have z:=SeqAt.RcNeAt.lists (A:=X.A) (e:=fun i=>decide (ws[i]?=us[i]?)) i1 i2 (by rw [List.size_toArray,List.size_toArray]; omega) (by omega) (fun j a b=>by
      have ja:j < as.length:=by simpa using a
      have jb:j < bs.length:=by simpa using b
      obtain ⟨u,eu,ru⟩:=r1.get (List.getElem?_eq_getElem (l:=ws.map V.str) (i:=j) (by rw [List.length_map]; omega))
      obtain ⟨v,ev,rv⟩:=r2.get (List.getElem?_eq_getElem (l:=us.map V.str) (i:=j) (by rw [List.length_map]; omega))
      rw [List.getElem_map] at ru rv
      have e1:as[j]=u:=(List.getElem?_eq_some_iff.mp eu).2
      have e2:bs[j]=v:=(List.getElem?_eq_some_iff.mp ev).2
      have z:=bsc_at (A:=X.A.in1) (s:=s) (.inr ⟨_,_,rfl,rfl,rfl⟩) ru rv
      rw [show (decide (ws[j]'(by omega)=us[j]'(by omega)))=decide (ws[j]?=us[j]?) from by
        rw [List.getElem?_eq_getElem (by omega),List.getElem?_eq_getElem (by omega)]
        simp] at z
      simpa [e1,e2] using z)
    rw [List.size_toArray,← l1,all_dec c] at z
    exact z X.prog X.w _ _ ⟨.bl _,H,I,rfl,k⟩
  · rw [decide_eq_false (fun z=>c (by rw [z]))] at k
    refine SeqAt.RcNeAt.lists_lengths i1 i2 (by
      rw [List.size_toArray,List.size_toArray,← l1,← l2,bne_iff_ne]
      exact c) (by omega) X.prog X.w _ _ ⟨.bl true,H,I,rfl,k⟩
section
variable {P:Program} {w:World} {K:PySem.W.Frag} {mg:Str→Option Value} {base:Heap} {f fH fT:Addr} {fd fdH fdT:FuncData}
seal L2.PS L2.PSs L2.PE L2.PA L2.PT L2.PW L2.PI L2.PG L2.PGs L2.PC L2.PSC L2.PSsC L2.PEC L2.PTC L2.PAC L2.PPs
def spTl:Sp:=fun vs H Q _=>∃ (rl l:Addr) (us:List V) (rs:List RcW) (fp:List Addr) (ws:List Str),vs=[.ref rl,.ref l]∧H rl=some (.lst us)∧Prs (RcF H) rs us fp∧(rl :: fp).Nodup∧rs.length≤900∧(∀ r∈rs,r.ws.length≤900∧r.ss.length≤900) ∧
  H l=some (.lst (ws.map V.str))∧(∀ y∈ws,(∀ c∈y.cps.toList,c < 128)∧y.length≤1000)∧ws.length≤900 ∧
  (∀ G,tkL rs ws=none→Same H G→Q (.bl false) G) ∧
  (∀ rs' us' fp' G,tkL rs ws=some rs'→G rl=some (.lst us')→Prs (RcF G) rs' us' fp'→(rl :: fp').Nodup→(∀ a∈fp',a∈fp∨H a=none)→(∀ b o,H b=some o→b∉rl :: fp→G b=some o)→Q (.bl true) G)
abbrev nTl:List Str:=["records","words","happening"]
abbrev pTl:List Str:=["records","words"]
theorem scTl:FnScope nTl pTl (defScope s_take_line):=⟨rfl,rfl,rfl,by decide +kernel,rfl,by decide +kernel,by decide +kernel⟩
theorem ok_tl (D:Df K mg "take_line" s_take_line pTl f fd) (DH:Df K mg "happening_of" s_happening_of pHo fH fdH) (GH:FnOkC P w K mg base CX0 3 fH fdH pHo spHo) (DT:Df K mg "take_inner" s_take_inner pTi fT fdT) (GT:FnOkC P w K mg base CX0 4 fT fdT pTi spTi):FnOkC P w K mg base CX0 5 f fd pTl spTl:=by
  refine D.F.okC scTl (fun vs H Q E h=>?_) (fun cdv A outer s H vs Q E hr h=>?_)
  · obtain ⟨rl,l,us,rs,fp,ws,rfl,_⟩:=h
    rfl
  obtain ⟨rl,l,us,rs,fp,ws,rfl,hrl,pr,nd,lr,lw,hl,ok,many,qn,q⟩:=h
  have r4:Room 4 _:=hr
  have r3:Room 3 _:=r4.mono (by omega)
  have h50:=hu50 hr
  refine ⟨_,pssC_cons (psC_set (i:=2) scTl.nd rfl (Or.inl rfl) (peC_call GH r3 (by rfl) DH.m DH.F.kp DH.b .nil pass0 (pa_c pe_str (pa_n (pv 1) pa_nil))))
    (pssC_cons (ps_if (pt_cmpR op_notN (pv 2) pe_non (nomark _)) (pss_cons (ps_expr (pe_bm PySem.F.plainAttrs_list PySem.F.slot_list_append PySem.F.type_list_append mt_append (pv 0) (pa_b (pe_op op_catT (pv 2) (pe_tup (pa_lst (pe_lst pa_nil) (pa_lst (pe_lst pa_nil) pa_nil)))) pa_nil)))
    (pss_one (ps_ret pe_bl))) pss_nil).c
    (pssC_cons (ps_if ((pw_or (pt_not (pt_truth (pv 0) (fun _=>rfl))) (pw_or1 (pt_cmpR (op_neW h50) (pe_slice sl_list (pv 1) po_none (po_some pe_int)) (pe_lst (pa_c pe_str (pa_c pe_str pa_nil))) (nomark _)))).pt) (pss_one (ps_ret pe_bl)) pss_nil).c
    (pssC_one (psC_ret (peC_call GT r4 (by rfl) DT.m DT.F.kp DT.b .nil pass0 (pa_s (pe_ix ix_list (pv 0) (pe_un un_neg pe_int) (fun _ _=>rfl)) (pa_s (pe_slice sl_list (pv 1) (po_some pe_int) po_none) pa_nil))))))),?_⟩
  have big:=line1000
  refine seq_i (asg_i ⟨_,rfl,"at",l,ws,rfl,hl,ok,many,fun G e g=>gname_i ?_,fun h v G e g hv=>gname_i ?_⟩)
  · dsimp only
    refine seq_i ⟨_,rfl,rfl,_,rfl,iteF ?_⟩
    dsimp only [tNext]
    have hrlG:=g _ _ hrl
    have hlG:=g _ _ hl
    refine seq_i ⟨_,rfl,_,.inl ⟨us,SqL.of hrlG,rfl⟩,?_⟩
    rcases List.eq_nil_or_concat rs with rfl | ⟨rs0,r,e0⟩
    · have:us=[]:=List.eq_nil_of_length_eq_zero (by rw [← pr.len]; rfl)
      subst this
      exact iteT (iteT (qn _ (tkL_no e (.inl rfl)) g))
    rw [List.concat_eq_append] at e0
    subst e0
    obtain ⟨us0,v,fp0,fpr,rfl,rfl,pr0,rc⟩:=pr.last
    have tru:(us0++[v]).isEmpty=false:=by cases us0 <;> rfl
    rw [tru]
    refine iteF ⟨_,rfl,2,rfl,l,_,rfl,SqL.of hlG,fun p1 hp1=>⟨by show 2≤sizeLine; omega,fun p2 hp2=>?_⟩⟩
    have cut:cutV (ws.map V.str) none (some 2)=(ws.take 2).map V.str:=by
      rw [show cutV (ws.map V.str) none (some 2)=(ws.map V.str).take 2 from cut_to _ 2,List.map_take]
    rw [cut] at hp2 ⊢
    have t1:=same_new hp1 (.lst ((ws.take 2).map V.str))
    have t2:=same_new hp2 (.lst [.str "",.str ""])
    refine ⟨p1,p2,ws.take 2,["",""],rfl,rfl,t2 _ _ upd_same,upd_same,_,rfl,?_⟩
    have s2:=(g.trans t1).trans t2
    by_cases c:ws.take 2=[("":Str),""]
    · rw [decide_eq_true c]
      refine iteF ?_
      dsimp only [tNext]
      have hrl2:=s2 _ _ hrl
      have hl2:=s2 _ _ hl
      have rc2:=rc.kx (Kx.of_same s2)
      refine ret_i ⟨_,rfl,1,rfl,rl,_,-1,v,rfl,rfl,SqL.of hrl2,atI_last _ _,_,rfl,2,rfl,l,_,rfl,SqL.of hl2,fun p3 hp3=>?_⟩
      have cutf:cutV (ws.map V.str) (some 2) none=(ws.drop 2).map V.str:=by
        rw [show cutV (ws.map V.str) (some 2) none=(ws.map V.str).drop 2 from cut_from _ 2,List.map_drop]
      rw [cutf]
      have t3:=same_new hp3 (.lst ((ws.drop 2).map V.str))
      have s3:=s2.trans t3
      have h3:(upd (upd (upd G p1 (.lst ((ws.take 2).map V.str))) p2 (.lst [.str "",.str ""])) p3 (.lst ((ws.drop 2).map V.str))) p3=some (.lst ((ws.drop 2).map V.str)):=upd_same
      generalize (upd (upd (upd G p1 (.lst ((ws.take 2).map V.str))) p2 (.lst [.str "",.str ""])) p3 (.lst ((ws.drop 2).map V.str)))=G3 at s3 h3
      have in1:∀ a∈fp0++fpr,∃ xs,H a=some (.lst xs):=pr.lists fun _ _ _=>RcF.lists
      obtain ⟨t,k,wl,sl,wv,sv,qs,rfl,rfl,e1,e2,e3,e4,e5,e6⟩:=rc
      obtain ⟨lw1,lw2⟩:=lw r (by simp)
      have lwv:=e5.len
      have lsv:=Paired.length e6
      have ex:=tkL_in (rs:=rs0) (r:=r) e c
      obtain ⟨nr,nd2⟩:=List.nodup_cons.mp nd
      obtain ⟨nd3,nd4,nd5⟩:=List.nodup_append.mp nd2
      obtain ⟨nw,nd6⟩:=List.nodup_cons.mp nd4
      obtain ⟨ns,nd7⟩:=List.nodup_cons.mp nd6
      have nsf:sl∉fp0:=fun m=>nd5 _ m sl (by simp) rfl
      have nwf:wl∉fp0:=fun m=>nd5 _ m wl (by simp) rfl
      have nws:wl≠sl:=fun z=>nw (by rw [z]; simp)
      have nwq:wl∉qs:=fun m=>nw (by simp [m])
      have nrs:rl≠sl:=fun z=>nr (by rw [z]; simp)
      have nrw:rl≠wl:=fun z=>nr (by rw [z]; simp)
      refine ⟨t,p3,wl,sl,_,_,_,_,_,wv,sv,ws.drop 2,rfl,s3 _ _ e1,s3 _ _ e3,s3 _ _ e4,by omega,by omega,h3,fun y m=>ok y (List.mem_of_mem_drop m),by rw [List.length_drop]; omega,fun h v G' eh g' hv=>?_,fun G' eh hno g'=>?_,fun x v fpn G' eh es ew g' hx hn=>?_⟩
      · have s4:=s3.trans g'
        have bt:But sl G' (upd G' sl (.lst (sv++[v]))):=But.upd _ _ _
        have kb:∀ {fp:List Addr},sl∉fp→Kx fp G' (upd G' sl (.lst (sv++[v]))):=fun n=>Kx.of_but (s4 _ _ e4) bt n
        have k0:Kx [] G' (upd G' sl (.lst (sv++[v]))):=kb (by simp)
        refine q _ (us0++[.ref t]) (fp0++(wl :: sl :: qs)) _ (by rw [ex]; unfold tkI; rw [eh]; rfl) (bt _ _ (s4 _ _ hrl) nrs) ?_ nd (fun a m=>.inl m) fun b o z nb=>bt _ _ (s4 _ _ z) fun y=>nb (by rw [y]; simp)
        refine Prs.app ((pr0.rkx (Kx.of_same s4)).rkx (kb nsf)) ?_
        rw [← List.append_nil (wl :: sl :: qs)]
        refine .cons ⟨t,k,wl,sl,wv,sv++[v],qs,rfl,rfl,k0.1 _ _ (s4 _ _ e1),k0.1 _ _ (s4 _ _ e2),bt _ _ (s4 _ _ e3) nws,upd_same,e5.mono fun x v a sa i=>(i.kx (Kx.of_same s4)).kx (kb fun m=>ns (sa _ m)),paired_app (Paired.mono (fun _ _ i=>(i.kx (Kx.of_same (fp:=[]) s4)).kx k0) e6) (.cons (hv.kx k0) .nil)⟩ .nil
      · refine qn _ ?_ (s3.trans g')
        rw [ex]
        unfold tkI
        rw [eh]
        dsimp only
        by_cases cs:r.ss=[]
        · rw [if_pos cs]
          rcases hno with hno | hno
          · rw [hno]
            rfl
          · rw [cs] at e6
            cases e6
            exact absurd rfl hno
        · rw [if_neg cs]
          rfl
      · have s4:=s3.trans g'
        have bt:But wl G' (upd G' wl (.lst (wv++[v]))):=But.upd _ _ _
        have kb:∀ {fp:List Addr},wl∉fp→Kx fp G' (upd G' wl (.lst (wv++[v]))):=fun n=>Kx.of_but (s4 _ _ e3) bt n
        have k0:Kx [] G' (upd G' wl (.lst (wv++[v]))):=kb (by simp)
        have hnH:∀ a∈fpn,H a=none:=fun a m=>not_some fun o z=>by
          have:=s3 _ _ z
          rw [hn a m] at this
          cases this
        have sse:r.ss=[]:=List.eq_nil_of_length_eq_zero (by rw [lsv,es]; rfl)
        refine q _ (us0++[.ref t]) (fp0++(wl :: sl :: (qs++fpn))) _ (by rw [ex]; unfold tkI; rw [eh]; dsimp only; rw [if_pos sse,ew]; rfl) (bt _ _ (s4 _ _ hrl) nrw) ?_ ?_ (fun a m=>?_) fun b o z nb=>bt _ _ (s4 _ _ z) fun y=>nb (by rw [y]; simp)
        · refine Prs.app ((pr0.rkx (Kx.of_same s4)).rkx (kb nwf)) ?_
          rw [← List.append_nil (wl :: sl :: (qs++fpn))]
          refine .cons ⟨t,k,wl,sl,wv++[v],sv,qs++fpn,rfl,rfl,k0.1 _ _ (s4 _ _ e1),k0.1 _ _ (s4 _ _ e2),upd_same,bt _ _ (s4 _ _ e4) (Ne.symm nws),?_,Paired.mono (fun _ _ i=>(i.kx (Kx.of_same (fp:=[]) s4)).kx k0) e6⟩ .nil
          refine Prs.app (e5.mono fun x v a sa i=>(i.kx (Kx.of_same s4)).kx (kb fun m=>nwq (sa _ m))) ?_
          have nwn:wl∉fpn:=fun m=>by
            have:=hnH _ m
            rw [e3] at this
            cases this
          rw [← List.append_nil fpn]
          exact .cons (hx.kx (kb nwn)) .nil
        · have:rl :: (fp0++(wl :: sl :: (qs++fpn)))=(rl :: (fp0++(wl :: sl :: qs)))++fpn:=by simp
          rw [this]
          refine List.nodup_append.mpr ⟨nd,hx.nd,fun a ha b hb z=>?_⟩
          subst z
          have ex2:∃ xs,H a=some (.lst xs):=by
            rcases List.mem_cons.mp ha with rfl | ha
            · exact ⟨_,hrl⟩
            · exact in1 a ha
          obtain ⟨xs,ex2⟩:=ex2
          rw [hnH a hb] at ex2
          cases ex2
        · have:fp0++(wl :: sl :: (qs++fpn))=(fp0++(wl :: sl :: qs))++fpn:=by simp
          rw [this] at m
          rcases List.mem_append.mp m with m | m
          · exact .inl m
          · exact .inr (hnH a m)
    · rw [decide_eq_false c]
      exact iteT (qn _ (tkL_no e (.inr c)) s2)
  · dsimp only
    obtain ⟨t,k,rfl,ht,hk⟩:=hv
    have hrlG:=g _ _ hrl
    have ul:=pr.len
    refine seq_i ⟨_,rfl,rfl,_,rfl,iteT ?_⟩
    refine seq_i ⟨_,rfl,.inl ⟨rfl,us,SqL.of hrlG⟩,_,rfl,Nat.zero_le _,fun p1 hp1=>⟨Nat.zero_le _,fun p2 hp2=>⟨by show 2≤sizeLine; omega,fun p3 hp3=>?_⟩⟩⟩
    have t1:=same_new hp1 (.lst [])
    have t2:=same_new hp2 (.lst [])
    have t3:=same_new hp3 (.tup [.ref p1,.ref p2])
    have ht3:=t3 _ _ (t2 _ _ (t1 _ _ ht))
    refine ⟨t,p3,_,_,rfl,rfl,SqT.of ht3,SqT.of upd_same,by simp,by show 5 + 2≤sizeLine; omega,fun z=>(by cases z),fun _ p4 hp4=>?_⟩
    have t4:=same_new hp4 (.tup ([.ref k,.int h.to,.str h.nm,.int h.a,.int h.b]++[.ref p1,.ref p2]))
    have s4:=(((g.trans t1).trans t2).trans t3).trans t4
    have e4:(upd (upd (upd (upd G p1 (.lst [])) p2 (.lst [])) p3 (.tup [.ref p1,.ref p2])) p4 (.tup ([.ref k,.int h.to,.str h.nm,.int h.a,.int h.b]++[.ref p1,.ref p2]))) p4=some (.tup ([.ref k,.int h.to,.str h.nm,.int h.a,.int h.b]++[.ref p1,.ref p2])):=upd_same
    have e1:=t4 _ _ (t3 _ _ (t2 _ _ (upd_same (H:=G) (a:=p1) (o:=.lst []))))
    have e2:=t4 _ _ (t3 _ _ (upd_same (H:=upd G p1 (.lst [])) (a:=p2) (o:=.lst [])))
    have ek:=t4 _ _ (t3 _ _ (t2 _ _ (t1 _ _ hk)))
    have er:=s4 _ _ hrl
    have n1:H p1=none:=not_some fun o z=>by rw [g _ _ z] at hp1; cases hp1
    have n2:H p2=none:=not_some fun o z=>by rw [t1 _ _ (g _ _ z)] at hp2; cases hp2
    have n12:p1≠p2:=fun z=>by rw [← z,upd_same] at hp2; cases hp2
    generalize (upd (upd (upd (upd G p1 (.lst [])) p2 (.lst [])) p3 (.tup [.ref p1,.ref p2])) p4 (.tup ([.ref k,.int h.to,.str h.nm,.int h.a,.int h.b]++[.ref p1,.ref p2])))=G4 at s4 e1 e2 e4 ek er
    have bt:But rl G4 (upd G4 rl (.lst (us++[.ref p4]))):=But.upd _ _ _
    refine ⟨rl,us,_,rfl,rfl,er,by omega,?_⟩
    have nr1:p1≠rl:=fun z=>by rw [z,hrl] at n1; cases n1
    have nr2:p2≠rl:=fun z=>by rw [z,hrl] at n2; cases n2
    have in1:∀ a∈fp,∃ xs,H a=some (.lst xs):=pr.lists fun _ _ _=>RcF.lists
    refine q _ (us++[.ref p4]) (fp++[p1,p2]) _ (tkL_at e) upd_same ?_ ?_ ?_ ?_
    · refine Prs.app ((pr.rkx (Kx.of_same s4)).rkx (Kx.of_but er bt (List.nodup_cons.mp nd).1)) (as:=fp) (bs:=[p1,p2]++[]) (.cons ?_ .nil)
      refine RcF.kx (Kx.of_but er bt (by simp [Ne.symm nr1,Ne.symm nr2])) ⟨p4,k,p1,p2,[],[],[],rfl,rfl,e4,ek,e1,e2,.nil,.nil⟩
    · rw [← List.cons_append]
      refine List.nodup_append.mpr ⟨nd,by simp [n12],fun a ha b hb z=>?_⟩
      subst z
      have ex:∃ xs,H a=some (.lst xs):=by
        rcases List.mem_cons.mp ha with rfl | ha
        · exact ⟨_,hrl⟩
        · exact in1 a ha
      obtain ⟨xs,ex⟩:=ex
      simp at hb
      rcases hb with rfl | rfl
      · rw [n1] at ex; cases ex
      · rw [n2] at ex; cases ex
    · intro a m
      rcases List.mem_append.mp m with m | m
      · exact .inl m
      · simp at m
        rcases m with rfl | rfl
        · exact .inr n1
        · exact .inr n2
    · intro b o z nb
      exact bt _ _ (s4 _ _ z) (fun y=>nb (by rw [y]; simp))
end
end My
namespace My
open PySem L2
structure LnOk (l:Str):Prop where
  ws:∀ w∈Txt.split l " ",(∀ c∈w.cps.toList,c < 128)∧w.length≤1000
  len:l.length≤300
  many:(Txt.split l " ").length≤200
  nl:10∉l.cps.toList
  ne:Txt.split l " "≠[]
def linesOf (x:Str):List Str:=if x="" then [] else Txt.split x "\n"
theorem nlS:("\n":Str)=⟨#[10]⟩:=by decide
theorem lines_join {ls:List Str} (h:ls≠[("":Str)]) (k:∀ l∈ls,10∉l.cps.toList):linesOf (Txt.join "\n" ls)=ls:=by
  unfold linesOf
  cases ls with
  | nil=>rfl
  | cons l ls =>
    rw [if_neg,nlS,split_joinC 10 (by simp) k]
    intro e
    cases ls with
    | nil=>exact h (by rw [show l="" from e])
    | cons m ls =>
      rw [join_cons] at e
      have:=congrArg Str.length e
      rw [str_len_app,str_len_app,nlS] at this
      have h1:(⟨#[10]⟩:Str).length=1:=rfl
      have h2:("":Str).length=0:=by decide
      omega
structure NT (K:PySem.W.Frag) (mg:Str→Option Value) (C D f:Addr) (fd:FuncData):Prop where
  cl:LCls K C D f
  F:Fun K "__init__" "NoText.__init__" s_NoText_init f fd
  b:Binds K fd ["self","line"] []
  m:mg "NoText"=some (.ref C)
section
variable {P:Program} {w:World} {K:PySem.W.Frag} {mg:Str→Option Value} {base:Heap} {f fN fW fI fL fS fT fIn C D':Addr} {fd fdN fdW fdI fdL fdS fdT fdIn:FuncData}
seal L2.PS L2.PSs L2.PE L2.PA L2.PT L2.PW L2.PI L2.PG L2.PGs L2.PC L2.PSC L2.PSsC L2.PEC L2.PTC L2.PAC
theorem scIn:FnScope ["self","line"] ["self","line"] (defScope s_NoText_init):=⟨rfl,rfl,rfl,by decide +kernel,rfl,by decide +kernel,by decide +kernel⟩
theorem ok_in (N:NT K mg C D' f fd):FnOk P w K mg base CX0 1 f fd ["self","line"] (spLn C):=by
  refine N.F.ok scIn (fun vs H Q E h=>?_) (fun cdv A outer s H vs Q E hr h=>?_)
  · obtain ⟨e,ob,n,rfl,_⟩:=h
    rfl
  obtain ⟨e,ob,n,rfl,h1,h2,h3,h4,k⟩:=h
  refine ⟨_,pss_one (ps_line N.cl (pv 0) (pv 1) rfl),?_⟩
  exact ⟨_,rfl,_,rfl,e,ob,n,rfl,rfl,h1,h2,h3,h4,fun d hd hde=>k d hd hde⟩
def spLo:Sp:=fun vs H Q _=>∃ x:Str,vs=[.str x]∧x.length≤100000∧∀ (l:Addr) (H':Hp),H l=none→Same H H'→H' l=some (.lst ((linesOf x).map V.str))→Q (.ref l) H'
abbrev nLo:List Str:=["text"]
abbrev pLo:List Str:=["text"]
theorem scLo:FnScope nLo pLo (defScope s_lines_of):=⟨rfl,rfl,rfl,by decide +kernel,rfl,by decide +kernel,by decide +kernel⟩
theorem ok_lo (D:Df K mg "lines_of" s_lines_of pLo f fd):FnOk P w K mg base CX0 1 f fd pLo spLo:=by
  refine D.F.ok scLo (fun vs H Q E h=>?_) (fun cdv A outer s H vs Q E hr h=>?_)
  · obtain ⟨x,rfl,_⟩:=h
    rfl
  obtain ⟨x,rfl,hl,q⟩:=h
  refine ⟨_,pss_one (ps_ret (pe_ifExp (pt_truth (pv 0) (fun _=>rfl)) (pe_bm PySem.F.plainAttrs_str PySem.F.slot_str_split PySem.F.type_str_split mt_split (pv 0) (pa_c pe_str pa_nil)) (pe_lst pa_nil))),?_⟩
  have big:100000 < sizeLine:=by decide
  by_cases c:x=""
  · subst c
    refine ret_i ⟨_,rfl,false,⟨by decide,by decide⟩,iteF ⟨Nat.zero_le _,fun l hl=>q l _ hl (same_new hl _) ?_⟩⟩
    rw [upd_same]
    rfl
  · have e:((x.length:Int) != 0)=true:=by
      have:x.length≠0:=fun z=>c (Str.ext' (Array.eq_empty_of_size_eq_zero z))
      simp only [bne_iff_ne,ne_eq]
      omega
    refine ret_i ⟨_,rfl,true,⟨by omega,e.symm⟩,iteT ⟨_,rfl,rfl,_,_,rfl,rfl,by decide,hl,fun l hl=>q l _ hl (same_new hl _) ?_⟩⟩
    rw [upd_same]
    unfold linesOf
    rw [if_neg c]
def rdB:Nat→List RcW→Option En→List Str→Except Nat (List RcW×En)
  | _,rs,some e,[]=>.ok (rs,e)
  | i,_,none,[]=>.error (i + 1)
  | i,_,some _,_ :: _=>.error (i + 1)
  | i,rs,none,l :: ls=>match enW (Txt.split l " ") with
    | some e=>rdB (i + 1) rs (some e) ls
    | none=>match tkL rs (Txt.split l " ") with
      | some rs'=>rdB (i + 1) rs' none ls
      | none=>.error (i + 1)
theorem rdB_e {i:Nat} {rs:List RcW} {l:Str} {ls:List Str} {e:En} (h:enW (Txt.split l " ")=some e):rdB i rs none (l :: ls)=rdB (i + 1) rs (some e) ls:=by
  rw [rdB,h]
theorem rdB_t {i:Nat} {rs rs':List RcW} {l:Str} {ls:List Str} (h:enW (Txt.split l " ")=none) (k:tkL rs (Txt.split l " ")=some rs'):rdB i rs none (l :: ls)=rdB (i + 1) rs' none ls:=by
  rw [rdB,h]
  dsimp only
  rw [k]
theorem rdB_n {i:Nat} {rs:List RcW} {l:Str} {ls:List Str} (h:enW (Txt.split l " ")=none) (k:tkL rs (Txt.split l " ")=none):rdB i rs none (l :: ls)=.error (i + 1):=by
  rw [rdB,h]
  dsimp only
  rw [k]
theorem tkI_le {r r':RcW} {ws:List Str} {i:Nat} (h:tkI r ws=some r') (k:r.ws.length≤i∧r.ss.length≤i):r'.ws.length≤i + 1∧r'.ss.length≤i + 1:=by
  unfold tkI at h
  split at h
  · cases h
    refine ⟨by show r.ws.length≤_; omega,?_⟩
    show (r.ss++[_]).length≤_
    rw [List.length_append]
    show r.ss.length + 1≤_
    omega
  · split at h
    · split at h
      · cases h
        refine ⟨?_,by show r.ss.length≤_; omega⟩
        show (r.ws++[_]).length≤_
        rw [List.length_append]
        show r.ws.length + 1≤_
        omega
      · cases h
    · cases h
theorem tkL_le {rs rs':List RcW} {ws:List Str} {i:Nat} (h:tkL rs ws=some rs') (l:rs.length≤i) (k:∀ r∈rs,r.ws.length≤i∧r.ss.length≤i):rs'.length≤i + 1∧∀ r∈rs',r.ws.length≤i + 1∧r.ss.length≤i + 1:=by
  have k':∀ r∈rs,r.ws.length≤i + 1∧r.ss.length≤i + 1:=fun r m=>⟨by have:=(k r m).1; omega,by have:=(k r m).2; omega⟩
  cases e:hapW "at" ws with
  | some x =>
    rw [tkL_at e] at h
    cases h
    refine ⟨by rw [List.length_append]; show rs.length + 1≤_; omega,fun r m=>?_⟩
    rcases List.mem_append.mp m with m | m
    · exact k' r m
    · rw [List.mem_singleton.mp m]
      exact ⟨Nat.zero_le _,Nat.zero_le _⟩
  | none =>
    by_cases c:ws.take 2=[("":Str),""]
    · rcases List.eq_nil_or_concat rs with rfl | ⟨rs0,r,e0⟩
      · rw [tkL_no e (.inl rfl)] at h
        cases h
      · rw [List.concat_eq_append] at e0
        subst e0
        rw [tkL_in e c] at h
        obtain ⟨r',h1,rfl⟩:=Option.map_eq_some_iff.mp h
        rw [List.length_append] at l
        refine ⟨by rw [List.length_append]; have:[r].length=[r'].length:=rfl; omega,fun q m=>?_⟩
        rcases List.mem_append.mp m with m | m
        · exact k' q (by simp [m])
        · rw [List.mem_singleton.mp m]
          exact tkI_le h1 (k r (by simp))
    · rw [tkL_no e (.inr c)] at h
      cases h
theorem HapIn.nn {H:Hp} {x:En} {v:V} (h:EnIn H x v):v≠.non:=fun z=>by
  subst z
  cases x with
  | one w=>obtain ⟨t,z,_⟩:=h; cases z
  | fin k=>obtain ⟨t,_,z,_⟩:=h; cases z
  | flt w k=>obtain ⟨t,_,z,_⟩:=h; cases z
theorem EnIn.kx {H H':Hp} {fp:List Addr} {x:En} {v:V} (k:Kx fp H H') (i:EnIn H x v):EnIn H' x v:=by
  cases x with
  | one w=>obtain ⟨t,rfl,e⟩:=i; exact ⟨t,rfl,k.1 _ _ e⟩
  | fin ks=>obtain ⟨t,p,rfl,e,e2⟩:=i; exact ⟨t,p,rfl,k.1 _ _ e,k.1 _ _ e2⟩
  | flt w ks=>obtain ⟨t,p,rfl,e,e2⟩:=i; exact ⟨t,p,rfl,k.1 _ _ e,k.1 _ _ e2⟩
def spRb (C:Addr):Sp:=fun vs H Q E=>∃ x:Str,vs=[.str x]∧x.length≤100000∧(∀ l∈linesOf x,LnOk l)∧(linesOf x).length≤800 ∧
  (∀ n H',rdB 0 [] none (linesOf x)=.error n→Same H H'→E (.ref C) (some n) H') ∧
  ∀ rs e H' t rl ev us fp,rdB 0 [] none (linesOf x)=.ok (rs,e)→Same H H'→H' t=some (.tup [.ref rl,ev])→H' rl=some (.lst us)→Prs (RcF H') rs us fp→EnIn H' e ev→(rl :: fp).Nodup→(∀ a∈rl :: fp,H a=none)→Q (.ref t) H'
abbrev nRb:List Str:=["text","lines","records","ending","place","line"]
abbrev pRb:List Str:=["text"]
theorem scRb:FnScope nRb pRb (defScope s_read_book):=⟨rfl,rfl,rfl,by decide +kernel,rfl,by decide +kernel,by decide +kernel⟩
theorem ok_rb (D:Df K mg "read_book" s_read_book pRb f fd) (DL:Df K mg "lines_of" s_lines_of pLo fL fdL) (DS:Df K mg "ending_of" s_ending_of pEn fS fdS) (GS:FnOkC P w K mg base CX0 3 fS fdS pEn spEn) (DT:Df K mg "take_line" s_take_line pTl fT fdT) (GT:FnOkC P w K mg base CX0 5 fT fdT pTl spTl) (N:NT K mg C D' fIn fdIn) (B:Bl mg) (ME:mg "enumerate"=none):FnOkC P w K mg base (CXl P w) 6 f fd pRb (spRb C):=by
  have GL:FnOk P w K mg base CX0 3 fL fdL pLo spLo:=(ok_lo DL).mono (by omega)
  have GI:FnOk P w K mg base CX0 1 fIn fdIn ["self","line"] (spLn C):=ok_in N
  refine D.F.okLC scRb (fun vs H Q E h=>?_) (fun cdv A outer s H vs Q E hr h=>?_)
  · obtain ⟨x,rfl,_⟩:=h
    rfl
  obtain ⟨x,rfl,xl,ok,many,qe,q⟩:=h
  have r5:Room 5 _:=hr
  have r3:Room 3 _:=r5.mono (by omega)
  have r2:Room 2 _:=r3.mono (by omega)
  refine ⟨_,pssC_cons (ps_set (i:=1) scRb.nd rfl (Or.inl rfl) (pe_call GL r3 (by rfl) DL.m DL.F.kp DL.b .nil pass0 (pa_n (pv 0) pa_nil))).c
    (pssC_cons (ps_set (i:=2) scRb.nd rfl (Or.inl rfl) (pe_lst pa_nil)).c
    (pssC_cons (ps_set (i:=3) scRb.nd rfl (Or.inl rfl) pe_non).c
    (pssC_cons (psC_for body_cl.own rfl (pi_enum (by rfl) ME (pa_n (pv 1) pa_nil)) (pg_tup rfl (pgs_cons (pg_name (i:=4) scRb.nd rfl (Or.inl rfl)) (pgs_cons (pg_name (i:=5) scRb.nd rfl (Or.inl rfl)) pgs_nil))) (pssC_cons (ps_if (pt_cmpR op_notN (pv 3) pe_non (nomark _)) (pss_one (ps_raiseL body_cl rfl N.cl (by rfl) N.m GI r2 N.b (pa_b (pe_op op_add (pv 4) pe_int) pa_nil))) pss_nil).c
    (pssC_cons (psC_set (i:=3) scRb.nd rfl (Or.inl rfl) (peC_call GS r3 (by rfl) DS.m DS.F.kp DS.b .nil pass0 (pa_f (pe_bm PySem.F.plainAttrs_str PySem.F.slot_str_split PySem.F.type_str_split mt_split (pv 5) (pa_c pe_str pa_nil)) pa_nil)))
    (pssC_one (psC_ifC (ptC_and ((pt_cmpR op_isN (pv 3) pe_non (nomark _)).c) (ptC_and1 (ptC_not (ptC_val (peC_call GT r5 (by rfl) DT.m DT.F.kp DT.b .nil pass0 (pa_n (pv 2) (pa_f (pe_bm PySem.F.plainAttrs_str PySem.F.slot_str_split PySem.F.type_str_split mt_split (pv 5) (pa_c pe_str pa_nil)) pa_nil))))))) ((pss_one (ps_raiseL body_cl rfl N.cl (by rfl) N.m GI r2 N.b (pa_b (pe_op op_add (pv 4) pe_int) pa_nil))).c) pss_nil.c)))))
    (pss_cons (ps_if (pt_cmpR op_isN (pv 3) pe_non (nomark _)) (pss_one (ps_raiseL body_cl rfl N.cl (by rfl) N.m GI r2 N.b (pa_b (pe_op op_add (pe_callB (call_lenK K (by rfl)) (by rfl) B.len PySem.boot_len (pa_n (pv 1) pa_nil)) pe_int) pa_nil))) pss_nil)
    (pss_one (ps_ret (pe_tup (pa_n (pv 2) (pa_n (pv 3) pa_nil)))))).c))),?_⟩
  have big:=line1000
  refine seq_i (asg_i ⟨_,rfl,x,rfl,xl,fun ll H1 hll s1 h1=>gname_i ?_⟩)
  dsimp only
  refine seq_i (asg_i ⟨Nat.zero_le _,fun p hp=>gname_i ?_⟩)
  dsimp only
  refine seq_i (asg_i (gname_i ?_))
  dsimp only
  have s2:=same_new hp (.lst [])
  refine seq_i ⟨_,rfl,ll,rfl,⟨_,SqL.of (s2 _ _ h1)⟩,?_⟩
  have hi:∀ {n:Nat} {G:Hp},Same H1 G→rdB 0 [] none (linesOf x)=.error n→E (.ref C) (some n) G:=fun sg e=>qe _ _ e (s1.trans sg)
  refine for_enum (K:=K) (xs:=(linesOf x).map V.str) (fun i σ G=>∃ (rs:List RcW) (us:List V) (fp:List Addr) (oe:Option En) (ev:V) (v4 v5:Option V),σ=[some (.str x),some (.ref ll),some (.ref p),some ev,v4,v5]∧G p=some (.lst us)∧Prs (RcF G) rs us fp∧(p :: fp).Nodup∧(∀ a∈p :: fp,H1 a=none)∧Same H1 G∧i≤(linesOf x).length∧rs.length≤i∧(∀ r∈rs,r.ws.length≤i∧r.ss.length≤i) ∧
      (match oe with | none=>ev=.non | some e=>EnIn G e ev)∧rdB 0 [] none (linesOf x)=rdB i rs oe ((linesOf x).drop i))
    ⟨[],[],[],none,.non,none,none,rfl,upd_same,.nil,by simp,(fun a m=>by rw [List.mem_singleton.mp m]; exact hp),s2,Nat.zero_le _,Nat.zero_le _,(fun r m=>by cases m),rfl,by rw [List.drop_zero]⟩ ?_ ?_ ?_
  · rintro i σ G hi ⟨rs,us,fp,oe,ev,v4,v5,rfl,e1,e2,e3,e4,e5,_⟩
    exact SqL.of (e5 _ _ h1)
  · rintro i y t σ G hy ⟨rs,us,fp,oe,ev,v4,v5,rfl,e1,e2,e3,e4,e5,e6,e7,e8,e9,e10⟩ ht
    obtain ⟨l,hl,rfl⟩:∃ l,(linesOf x)[i]?=some l∧y=V.str l:=by
      rw [List.getElem?_map] at hy
      obtain ⟨l,a,b⟩:=Option.map_eq_some_iff.mp hy
      exact ⟨l,a,b.symm⟩
    have lok:=ok l (List.mem_of_getElem? hl)
    have ilt:i < (linesOf x).length:=(List.getElem?_eq_some_iff.mp hl).1
    have dr:(linesOf x).drop i=l :: (linesOf x).drop (i + 1):=by
      rw [List.drop_eq_getElem_cons ilt]
      rw [List.getElem?_eq_getElem ilt] at hl
      rw [Option.some.inj hl]
    rw [dr] at e10
    have st:=same_new ht (.tup [.int i,.str l])
    refine ⟨t,_,rfl,SqT.of upd_same,rfl,_,_,rfl,_,_,rfl,rfl,?_⟩
    have sg0:=e5.trans st
    have fly:∀ {v3 v5:Option V} {G2:Hp},Same H1 G2→rdB 0 [] none (linesOf x)=.error (i + 1)→tRaiseL C E (tCons (tOp (rI0 fun i j=>V.int (i + j)) (tVar 4) (tC (V.int 1))) tNil) {nx:=fun _ _=>False,rt:=Q} [some (.str x),some (.ref ll),some (.ref p),v3,some (.int i),v5] G2:=fun sG e=>⟨_,rfl,_,_,rfl,rfl,i + 1,rfl,hi sG e⟩
    refine seq_i ⟨_,rfl,rfl,_,rfl,?_⟩
    cases oe with
    | some en =>
      rw [decide_eq_false (HapIn.nn e9)]
      exact iteT (fly sg0 e10)
    | none =>
      have e9':ev=.non:=e9
      subst e9'
      rw [decide_eq_true rfl]
      refine iteF ?_
      dsimp only [tNext]
      refine seq_i (asg_i ⟨_,rfl,rfl,_,_,rfl,rfl,by decide,(by have:=lok.len; omega),fun wl hwl=>?_⟩)
      have sw:=same_new hwl (.lst ((Txt.split l " ").map V.str))
      have lm:=lok.many
      refine ⟨wl,Txt.split l " ",rfl,upd_same,lok.ne,lok.ws,by omega,fun G2 ee g2=>gname_i ?_,fun en v G2 ee g2 hv=>gname_i ?_⟩
      · dsimp only
        have sG:=(st.trans sw).trans g2
        refine ⟨_,rfl,rfl,_,rfl,iteT ⟨_,rfl,_,rfl,rfl,_,_,rfl,rfl,by decide,(by have:=lok.len; omega),fun wl2 hwl2=>?_⟩⟩
        have sw2:=same_new hwl2 (.lst ((Txt.split l " ").map V.str))
        have sG2:=sG.trans sw2
        refine ⟨p,wl2,us,rs,fp,Txt.split l " ",rfl,sG2 _ _ e1,e2.rkx (Kx.of_same sG2),e3,by omega,fun r m=>?_,upd_same,lok.ws,by omega,fun G3 et g3=>⟨_,rfl,iteT ?_⟩,fun rs' us' fp' G3 et i1 i2 i3 i4 i5=>⟨_,rfl,iteF ?_⟩⟩
        · have:=e8 r m
          omega
        · exact fly ((e5.trans sG2).trans g3) (by rw [e10,rdB_n ee et])
        · have lt2:=tkL_le et e7 e8
          have n':∀ a∈p :: fp',H1 a=none:=fun a m=>by
            rcases List.mem_cons.mp m with rfl | m
            · exact hp
            · rcases i4 a m with m | m
              · exact e4 a (by simp [m])
              · exact not_some fun o z=>by
                  rw [sG2 _ _ (e5 _ _ z)] at m
                  cases m
          exact ⟨rs',us',fp',none,.non,_,_,rfl,i1,i2,i3,n',fun b o z=>i5 b o (sG2 _ _ (e5 _ _ z)) (fun m=>by rw [e4 b m] at z; cases z),ilt,lt2.1,lt2.2,rfl,by rw [e10,rdB_t ee et]⟩
      · dsimp only
        have sG:=(st.trans sw).trans g2
        refine ⟨_,rfl,rfl,_,rfl,?_⟩
        rw [decide_eq_false (HapIn.nn hv)]
        exact iteF (iteF ⟨rs,us,fp,some en,v,_,_,rfl,sG _ _ e1,e2.rkx (Kx.of_same sG),e3,e4,e5.trans sG,ilt,by omega,fun r m=>⟨by have:=(e8 r m).1; omega,by have:=(e8 r m).2; omega⟩,hv,by rw [e10,rdB_e ee]⟩)
  · rintro σ G ⟨rs,us,fp,oe,ev,v4,v5,rfl,e1,e2,e3,e4,e5,e6,e7,e8,e9,e10⟩
    rw [List.length_map,List.drop_length] at e10
    show tSeq _ _ _ _ _
    refine seq_i ⟨_,rfl,rfl,_,rfl,?_⟩
    cases oe with
    | none =>
      have e9':ev=.non:=e9
      subst e9'
      rw [decide_eq_true rfl]
      refine iteT ?_
      refine ⟨_,rfl,ll,_,rfl,.inl (SqL.of (e5 _ _ h1)),_,_,rfl,rfl,(linesOf x).length + 1,?_,hi e5 e10⟩
      rw [List.length_map]
      rfl
    | some en =>
      rw [decide_eq_false (HapIn.nn e9)]
      refine iteF ?_
      dsimp only [tNext]
      refine ret_i ⟨_,rfl,_,rfl,by show 2≤sizeLine; omega,fun t ht=>?_⟩
      have st:=same_new ht (.tup [.ref p,ev])
      exact q rs en _ t p ev us fp e10 (s1.trans (e5.trans st)) upd_same (st _ _ e1) (e2.rkx (Kx.of_same st)) (e9.kx (Kx.of_same (fp:=[]) st)) e3 fun a m=>not_some fun o z=>by
        have:=e4 a m
        rw [s1 _ _ z] at this
        cases this
end
end My
namespace My
open PySem L2
def Good (w:Str):Prop:=(∀ c∈w.cps.toList,c < 128)∧32∉w.cps.toList∧10∉w.cps.toList∧w.length≤21
instance (w:Str):Decidable (Good w):=inferInstanceAs (Decidable (_∧_∧_∧_))
theorem nt_good {z:Int} (h:W20 z):Good (nt z):=by
  obtain ⟨l,_,k⟩:=nt20 h
  exact ⟨fun c m=>(k c m).1,fun m=>(k _ m).2.1 rfl,fun m=>(k _ m).2.2 rfl,l⟩
theorem nam_good {x:Str} (h:Nam x):Good x:=by
  refine ⟨fun d m=>?_,fun m=>?_,fun m=>?_,by have:=h.2.1; omega⟩
  all_goals
    have:=h.2.2 _ m
    omega
theorem w20_log {z:Int} (h:W20 z):z.natAbs.log2 < 1920:=by
  obtain ⟨h1,h2⟩:=h
  have h3:z.natAbs < 2 ^ 80:=by omega
  by_cases c:z.natAbs=0
  · rw [c]
    decide
  · exact Nat.lt_trans ((Nat.log2_lt c).mpr h3) (by decide)
theorem shown_i {z:Int} (h:W20 z):Shown (.int z) (nt z):=.inr ⟨z,rfl,w20_log h,rfl⟩
theorem shown_s (x:Str):Shown (.str x) x:=.inl rfl
theorem shown_is:∀ {zs:List Int},(∀ z∈zs,W20 z)→Paired Shown (zs.map V.int) (zs.map nt)
  | [],_=>.nil
  | z :: zs,h=>.cons (shown_i (h z (by simp))) (shown_is fun x m=>h x (List.mem_cons_of_mem _ m))
structure Hap.Ok (h:Hap):Prop where
  k4:h.ks.length=4
  ks:∀ z∈h.ks,W20 z
  to:W20 h.to
  nm:Nam h.nm
  a:W20 h.a
  b:W20 h.b
def Hap.ws (h:Hap) (kind:Str):List Str:=kind :: (h.ks.map nt++[nt h.to,h.nm,nt h.a,nt h.b])
def Wr.Ok:Wr→Prop
  | .box n z=>Nam n∧W20 z
  | .queue n zs=>Nam n∧zs.length≤3∧∀ z∈zs,W20 z
def Wr.ws:Wr→List Str
  | .box n z=>["box",n,nt z]
  | .queue n zs=>"queue" :: n :: zs.map nt
structure RcW.Ok (r:RcW):Prop where
  h:r.h.Ok
  ws:∀ x∈r.ws,x.Ok
  ss:∀ x∈r.ss,x.Ok
  wl:r.ws.length≤3
  sl:r.ss.length≤2
def En.Ok:En→Prop
  | .one w=>w="cut"∨w="empty"
  | .fin ks=>ks.length=4∧∀ z∈ks,W20 z
  | .flt w ks=>w∈faults∧ks.length=4∧∀ z∈ks,W20 z
def En.ws:En→List Str
  | .one w=>[w]
  | .fin ks=>"end" :: ks.map nt
  | .flt w ks=>"fault" :: w :: ks.map nt
def ind (ws:List Str):List Str:="" :: "" :: ws
def RcW.wss (r:RcW):List (List Str):=r.h.ws "at" :: (r.ws.map (fun x=>ind x.ws)++r.ss.map (fun h=>ind (h.ws "sent")))
def recW (rs:List RcW):List (List Str):=(rs.map RcW.wss).flatten
def bookW (rs:List RcW) (e:En):List (List Str):=recW rs++[e.ws]
def jn (ws:List Str):Str:=Txt.join " " ws
structure GW (ws:List Str):Prop where
  ne:ws≠[]
  ok:∀ w∈ws,Good w
  many:ws.length≤12
theorem GW.split {ws:List Str} (h:GW ws):Txt.split (jn ws) " "=ws:=split_join h.ne fun w m=>(h.ok w m).2.1
theorem join_chars (z:Str) {c:Nat}:∀ {ws:List Str},c∈(Txt.join z ws).cps.toList→c∈z.cps.toList∨∃ w∈ws,c∈w.cps.toList
  | [],h=>by
    have e:(Txt.join z []).cps.toList=[]:=rfl
    rw [e] at h
    cases h
  | [x],h=>.inr ⟨x,List.mem_cons_self ..,h⟩
  | x :: y :: ws,h=>by
    rw [join_cons] at h
    have h':c∈((x.cps++z.cps)++(Txt.join z (y :: ws)).cps).toList:=h
    rw [Array.toList_append,Array.toList_append] at h'
    rcases List.mem_append.mp h' with h1 | h1
    · rcases List.mem_append.mp h1 with h2 | h2
      · exact .inr ⟨x,List.mem_cons_self ..,h2⟩
      · exact .inl h2
    · rcases join_chars z h1 with h2 | ⟨w,m,h2⟩
      · exact .inl h2
      · exact .inr ⟨w,List.mem_cons_of_mem _ m,h2⟩
theorem GW.jsz {ws:List Str} (h:GW ws):jsz " " ws≤264:=by
  have h2:=jsz_le (z:=" ") fun x hx=>(h.ok x hx).2.2.2
  have h3:(" ":Str).length=1:=by decide
  rw [h3] at h2
  have:=Nat.mul_le_mul_right (21 + 1) h.many
  omega
theorem GW.ln {ws:List Str} (h:GW ws):LnOk (jn ws) where
  ws:=fun w m=>by
    rw [h.split] at m
    obtain ⟨a,_,_,l⟩:=h.ok w m
    exact ⟨a,by omega⟩
  len:=by
    have h1:=join_len " " ws
    have:=h.jsz
    show (Txt.join " " ws).length≤300
    omega
  many:=by
    rw [h.split]
    have:=h.many
    omega
  nl:=fun m=>by
    rcases join_chars " " m with z | ⟨w,mw,z⟩
    · exact absurd z (by decide)
    · exact (h.ok w mw).2.2.1 z
  ne:=by
    rw [h.split]
    exact h.ne
theorem good_kinds:∀ w∈((["at","sent","box","queue","end","fault","cut","empty",""]:List Str)++faults),Good w:=by decide +kernel
theorem good_is {zs:List Int} (h:∀ z∈zs,W20 z):∀ w∈zs.map nt,Good w:=fun w m=>by
  obtain ⟨z,mz,rfl⟩:=List.mem_map.mp m
  exact nt_good (h z mz)
theorem Hap.Ok.gw {h:Hap} (k:h.Ok) {kind:Str} (g:Good kind):GW (h.ws kind) where
  ne:=by simp [Hap.ws]
  ok:=fun w m=>by
    unfold Hap.ws at m
    rcases List.mem_cons.mp m with rfl | m
    · exact g
    rcases List.mem_append.mp m with m | m
    · exact good_is k.ks w m
    · simp only [List.mem_cons,List.not_mem_nil,or_false] at m
      rcases m with rfl | rfl | rfl | rfl
      · exact nt_good k.to
      · exact nam_good k.nm
      · exact nt_good k.a
      · exact nt_good k.b
  many:=by
    unfold Hap.ws
    rw [List.length_cons,List.length_append,List.length_map,k.k4]
    show 4 + 4 + 1≤12
    decide
theorem Hap.ws_len {h:Hap} (k:h.Ok) (kind:Str):(h.ws kind).length=9:=by
  unfold Hap.ws
  rw [List.length_cons,List.length_append,List.length_map,k.k4]
  rfl
theorem Wr.gw {x:Wr} (k:x.Ok):GW x.ws:=by
  cases x with
  | box n z =>
    refine ⟨by simp [Wr.ws],fun w m=>?_,by show 3≤12; decide⟩
    simp only [Wr.ws,List.mem_cons,List.not_mem_nil,or_false] at m
    rcases m with rfl | rfl | rfl
    · exact good_kinds _ (by decide)
    · exact nam_good k.1
    · exact nt_good k.2
  | queue n zs =>
    refine ⟨by simp [Wr.ws],fun w m=>?_,?_⟩
    · rcases List.mem_cons.mp m with rfl | m
      · exact good_kinds _ (by decide)
      rcases List.mem_cons.mp m with rfl | m
      · exact nam_good k.1
      · exact good_is k.2.2 w m
    · show (zs.map nt).length + 2≤12
      rw [List.length_map]
      have:=k.2.1
      omega
theorem Wr.ws_len {x:Wr} (k:x.Ok):x.ws.length≤5:=by
  cases x with
  | box n z=>show 3≤5; decide
  | queue n zs =>
    show (zs.map nt).length + 2≤5
    rw [List.length_map]
    have:=k.2.1
    omega
theorem ind_gw {ws:List Str} (h:GW ws) (l:ws.length≤10):GW (ind ws) where
  ne:=by simp [ind]
  ok:=fun w m=>by
    unfold ind at m
    rcases List.mem_cons.mp m with rfl | m
    · exact good_kinds _ (by decide)
    rcases List.mem_cons.mp m with rfl | m
    · exact good_kinds _ (by decide)
    · exact h.ok w m
  many:=by
    show ws.length + 2≤12
    omega
theorem En.gw {e:En} (k:e.Ok):GW e.ws:=by
  cases e with
  | one w =>
    refine ⟨by simp [En.ws],fun x m=>?_,by show 1≤12; decide⟩
    rw [List.mem_singleton.mp m]
    rcases k with rfl | rfl <;> exact good_kinds _ (by decide)
  | fin ks =>
    refine ⟨by simp [En.ws],fun w m=>?_,?_⟩
    · rcases List.mem_cons.mp m with rfl | m
      · exact good_kinds _ (by decide)
      · exact good_is k.2 w m
    · show (ks.map nt).length + 1≤12
      rw [List.length_map,k.1]
      decide
  | flt w ks =>
    refine ⟨by simp [En.ws],fun x m=>?_,?_⟩
    · rcases List.mem_cons.mp m with rfl | m
      · exact good_kinds _ (by decide)
      rcases List.mem_cons.mp m with rfl | m
      · exact good_kinds _ (List.mem_append_right _ k.1)
      · exact good_is k.2.2 x m
    · show (ks.map nt).length + 2≤12
      rw [List.length_map,k.2.1]
      decide
theorem RcW.Ok.gw {r:RcW} (k:r.Ok):∀ ws∈r.wss,GW ws:=fun ws m=>by
  unfold RcW.wss at m
  rcases List.mem_cons.mp m with rfl | m
  · exact k.h.gw (good_kinds _ (by decide))
  rcases List.mem_append.mp m with m | m
  · obtain ⟨x,mx,rfl⟩:=List.mem_map.mp m
    exact ind_gw (Wr.gw (k.ws x mx)) (by have:=Wr.ws_len (k.ws x mx); omega)
  · obtain ⟨x,mx,rfl⟩:=List.mem_map.mp m
    exact ind_gw ((k.ss x mx).gw (good_kinds _ (by decide))) (by have:=Hap.ws_len (k.ss x mx) "sent"; omega)
theorem recW_gw {rs:List RcW} (k:∀ r∈rs,r.Ok):∀ ws∈recW rs,GW ws:=fun ws m=>by
  unfold recW at m
  obtain ⟨l,ml,mw⟩:=List.mem_flatten.mp m
  obtain ⟨r,mr,rfl⟩:=List.mem_map.mp ml
  exact (k r mr).gw ws mw
theorem bookW_gw {rs:List RcW} {e:En} (k:∀ r∈rs,r.Ok) (ke:e.Ok):∀ ws∈bookW rs e,GW ws:=fun ws m=>by
  rcases List.mem_append.mp m with m | m
  · exact recW_gw k ws m
  · rw [List.mem_singleton.mp m]
    exact En.gw ke
theorem RcW.Ok.len {r:RcW} (k:r.Ok):r.wss.length≤6:=by
  unfold RcW.wss
  rw [List.length_cons,List.length_append,List.length_map,List.length_map]
  have:=k.wl
  have:=k.sl
  omega
theorem recW_len:∀ {rs:List RcW},(∀ r∈rs,r.Ok)→(recW rs).length≤6 * rs.length
  | [],_=>Nat.zero_le _
  | r :: rs,k=>by
    have h1:=(k r (by simp)).len
    have h2:=recW_len fun x m=>k x (List.mem_cons_of_mem _ m)
    unfold recW at h2 ⊢
    rw [List.map_cons,List.flatten_cons,List.length_append,List.length_cons]
    omega
theorem hap_no {kind w0:Str} {r:List Str} (h:w0≠kind):hapW kind (w0 :: r)=none:=by
  by_cases c:(w0 :: r).length=9
  · obtain ⟨a,b',c',d,e,f,g,i,j,z⟩:=list9 c
    cases z
    show (if w0=kind∧_ then _ else none)=none
    rw [if_neg fun z=>h z.1]
  · exact hap_len c
theorem list4 {α:Type} {l:List α} (h:l.length=4):∃ a b c d,l=[a,b,c,d]:=by
  match l,h with
  | [a,b,c,d],_=>exact ⟨a,b,c,d,rfl⟩
theorem Hap.Ok.rd {h:Hap} (k:h.Ok) (kind:Str):hapW kind (h.ws kind)=some h:=by
  obtain ⟨ks,to,nm,x,y⟩:=h
  obtain ⟨a,b,c,d,e⟩:=list4 k.k4
  have e':ks=[a,b,c,d]:=e
  subst e'
  have n:=nums20 (zs:=[a,b,c,d,to,x,y]) (fun z m=>by
    simp only [List.mem_cons,List.not_mem_nil,or_false] at m
    rcases m with rfl | rfl | rfl | rfl | rfl | rfl | rfl
    · exact k.ks _ (by simp)
    · exact k.ks _ (by simp)
    · exact k.ks _ (by simp)
    · exact k.ks _ (by simp)
    · exact k.to
    · exact k.a
    · exact k.b)
  have n':numsIn [nt a,nt b,nt c,nt d,nt to,nt x,nt y]=some [a,b,c,d,to,x,y]:=n
  show (if kind=kind∧isName nm=true then (match numsIn [nt a,nt b,nt c,nt d,nt to,nt x,nt y] with
      | some [a,b,c,d,e,x,y]=>some (⟨[a,b,c,d],e,nm,x,y⟩:Hap)
      | _=>none) else none)=_
  rw [if_pos ⟨rfl,isName_ok k.nm⟩,n']
theorem Wr.rd {x:Wr} (k:x.Ok):wrW x.ws=some x:=by
  cases x with
  | box n z =>
    have n1:numsIn [nt z]=some [z]:=nums20 (zs:=[z]) (fun y m=>by rw [List.mem_singleton.mp m]; exact k.2)
    show (match numsIn [nt z] with
      | none=>none
      | some zs=>if isName n=true then (if ("box":Str)="queue" then some (Wr.queue n zs) else if ("box":Str)="box" then (match zs with | [z]=>some (Wr.box n z) | _=>none) else none) else none)=_
    rw [n1]
    dsimp only
    rw [if_pos (isName_ok k.1),if_neg (by decide),if_pos rfl]
  | queue n zs =>
    show (match numsIn (zs.map nt) with
      | none=>none
      | some zs=>if isName n=true then (if ("queue":Str)="queue" then some (Wr.queue n zs) else if ("queue":Str)="box" then (match zs with | [z]=>some (Wr.box n z) | _=>none) else none) else none)=_
    rw [nums20 k.2.2]
    dsimp only
    rw [if_pos (isName_ok k.1),if_pos rfl]
theorem Wr.w0 (x:Wr):hapW "sent" x.ws=none:=by
  cases x with
  | box n z=>exact hap_no (by decide)
  | queue n zs=>exact hap_no (by decide)
theorem en_no {w0:Str} {r:List Str} (h:w0∉[("empty":Str),"cut","end","fault"]):enW (w0 :: r)=none:=by
  simp only [List.mem_cons,List.not_mem_nil,or_false,not_or] at h
  obtain ⟨h1,h2,h3,h4⟩:=h
  unfold enW
  rw [if_neg (fun z=>h1 (List.cons.inj z).1),if_neg (fun z=>h2 (List.cons.inj z).1)]
  dsimp only
  cases numsIn (if w0="fault" then r.drop 1 else r) with
  | none=>rfl
  | some zs =>
    show enK w0 r zs=none
    unfold enK
    rw [if_neg h3,if_neg h4]
    split <;> rfl
theorem En.rd {e:En} (k:e.Ok):enW e.ws=some e:=by
  cases e with
  | one w =>
    rcases k with rfl | rfl
    · unfold enW
      rw [if_neg (by decide)]
      rfl
    · rfl
  | fin ks =>
    show enW ("end" :: ks.map nt)=_
    unfold enW
    rw [if_neg (fun z=>absurd (List.cons.inj z).1 (by decide)),if_neg (fun z=>absurd (List.cons.inj z).1 (by decide))]
    dsimp only
    rw [if_neg (by decide),nums20 k.2]
    show enK "end" _ ks=_
    unfold enK
    rw [if_neg (fun z=>z k.1),if_pos rfl]
  | flt w ks =>
    show enW ("fault" :: w :: ks.map nt)=_
    unfold enW
    rw [if_neg (fun z=>absurd (List.cons.inj z).1 (by decide)),if_neg (fun z=>absurd (List.cons.inj z).1 (by decide))]
    dsimp only
    rw [if_pos rfl]
    show (numsIn (ks.map nt)).bind _=_
    rw [nums20 k.2.2]
    show enK "fault" (w :: ks.map nt) ks=some (.flt w ks)
    unfold enK
    rw [if_neg (fun z=>z k.2.1),if_neg (by decide),if_pos rfl]
    dsimp only
    rw [if_pos k.1]
def runW:List RcW→List (List Str)→Option (List RcW)
  | rs,[]=>some rs
  | rs,ws :: wss=>match enW ws,tkL rs ws with
    | none,some rs'=>runW rs' wss
    | _,_=>none
theorem runW_c {rs rs':List RcW} {ws:List Str} {wss:List (List Str)} (h:enW ws=none) (k:tkL rs ws=some rs'):runW rs (ws :: wss)=runW rs' wss:=by
  rw [runW,h,k]
theorem runW_inv {rs out:List RcW} {ws:List Str} {wss:List (List Str)} (h:runW rs (ws :: wss)=some out):∃ rs',enW ws=none∧tkL rs ws=some rs'∧runW rs' wss=some out:=by
  rw [runW] at h
  cases e:enW ws with
  | some x=>rw [e] at h; cases h
  | none =>
    cases t:tkL rs ws with
    | none=>rw [e,t] at h; cases h
    | some rs'=>rw [e,t] at h; exact ⟨rs',rfl,rfl,h⟩
theorem runW_app:∀ {a b:List (List Str)} {rs rs':List RcW},runW rs a=some rs'→runW rs (a++b)=runW rs' b
  | [],b,rs,rs',h=>by cases h; rfl
  | w :: a,b,rs,rs',h=>by
    obtain ⟨r1,e,t,h'⟩:=runW_inv h
    rw [List.cons_append,runW_c e t,runW_app h']
theorem runW_take:∀ {a:List (List Str)} {rs out:List RcW} (n:Nat),runW rs a=some out→∃ rs',runW rs (a.take n)=some rs'
  | [],rs,out,n,h=>by rw [List.take_nil]; exact ⟨rs,rfl⟩
  | w :: a,rs,out,0,h=>⟨rs,rfl⟩
  | w :: a,rs,out,n + 1,h=>by
    obtain ⟨r1,e,t,h'⟩:=runW_inv h
    obtain ⟨r2,z⟩:=runW_take n h'
    exact ⟨r2,by rw [List.take_succ_cons,runW_c e t,z]⟩
theorem en_ind (ws:List Str):enW (ind ws)=none:=en_no (by decide)
theorem hap_ind (ws:List Str):hapW "at" (ind ws)=none:=hap_no (by decide)
theorem en_at (h:Hap):enW (h.ws "at")=none:=en_no (by decide)
theorem at_take:∀ ws:List Str,(ind ws).take 2=[("":Str),""]:=fun _=>rfl
theorem tk_w {rs:List RcW} {r:RcW} {x:Wr} (k:x.Ok) (s:r.ss=[]):tkL (rs++[r]) (ind x.ws)=some (rs++[⟨r.h,r.ws++[x],r.ss⟩]):=by
  rw [tkL_in (hap_ind _) (at_take _)]
  show (tkI r x.ws).map _=_
  unfold tkI
  rw [Wr.w0]
  dsimp only
  rw [if_pos s,Wr.rd k]
  rfl
theorem tk_s {rs:List RcW} {r:RcW} {x:Hap} (k:x.Ok):tkL (rs++[r]) (ind (x.ws "sent"))=some (rs++[⟨r.h,r.ws,r.ss++[x]⟩]):=by
  rw [tkL_in (hap_ind _) (at_take _)]
  show (tkI r (x.ws "sent")).map _=_
  unfold tkI
  rw [k.rd]
  rfl
theorem run_s {h:Hap} {ws:List Wr}:∀ {ss:List Hap} {s0:List Hap} {rs:List RcW},(∀ x∈ss,x.Ok)→runW (rs++[⟨h,ws,s0⟩]) (ss.map fun h=>ind (h.ws "sent"))=some (rs++[⟨h,ws,s0++ss⟩])
  | [],s0,rs,_=>by rw [List.append_nil]; rfl
  | x :: ss,s0,rs,k=>by
    rw [List.map_cons,runW_c (en_ind _) (tk_s (k x (by simp)))]
    have:=run_s (h:=h) (ws:=ws) (ss:=ss) (s0:=s0++[x]) (rs:=rs) (fun y m=>k y (List.mem_cons_of_mem _ m))
    rw [List.append_assoc] at this
    exact this
theorem run_w {h:Hap}:∀ {ws:List Wr} {w0:List Wr} {rs:List RcW},(∀ x∈ws,x.Ok)→runW (rs++[⟨h,w0,[]⟩]) (ws.map fun x=>ind x.ws)=some (rs++[⟨h,w0++ws,[]⟩])
  | [],w0,rs,_=>by rw [List.append_nil]; rfl
  | x :: ws,w0,rs,k=>by
    rw [List.map_cons,runW_c (en_ind _) (tk_w (k x (by simp)) rfl)]
    have:=run_w (h:=h) (ws:=ws) (w0:=w0++[x]) (rs:=rs) (fun y m=>k y (List.mem_cons_of_mem _ m))
    rw [List.append_assoc] at this
    exact this
theorem run_r {rs:List RcW} {r:RcW} (k:r.Ok):runW rs r.wss=some (rs++[r]):=by
  unfold RcW.wss
  rw [runW_c (en_at _) (tkL_at (k.h.rd "at")),runW_app (run_w k.ws),List.nil_append,run_s k.ss]
  rfl
theorem run_rs:∀ {rs:List RcW} {r0:List RcW},(∀ r∈rs,r.Ok)→runW r0 (recW rs)=some (r0++rs)
  | [],r0,_=>by rw [List.append_nil]; rfl
  | r :: rs,r0,k=>by
    have:recW (r :: rs)=r.wss++recW rs:=rfl
    rw [this,runW_app (run_r (k r (by simp))),run_rs fun x m=>k x (List.mem_cons_of_mem _ m),List.append_assoc]
    rfl
theorem rdB_run {rest:List Str}:∀ {wss:List (List Str)} {rs rs':List RcW} {i:Nat},(∀ ws∈wss,GW ws)→runW rs wss=some rs'→rdB i rs none (wss.map jn++rest)=rdB (i + wss.length) rs' none rest
  | [],rs,rs',i,_,h=>by cases h; rfl
  | ws :: wss,rs,rs',i,g,h=>by
    obtain ⟨r1,e,t,h'⟩:=runW_inv h
    have sp:=(g ws (by simp)).split
    rw [List.map_cons,List.cons_append,rdB_t (by rw [sp]; exact e) (by rw [sp]; exact t),rdB_run (fun x m=>g x (List.mem_cons_of_mem _ m)) h',List.length_cons,show i + 1 + wss.length=i + (wss.length + 1) by omega]
theorem in2 {ws:List Str} (h:ws≠[]):("  ":Str)++jn ws=jn (ind ws):=by
  cases ws with
  | nil=>exact absurd rfl h
  | cons w ws =>
    unfold jn ind
    rw [join_cons,join_cons]
    refine str_of ?_
    show (("  ":Str).cps++(Txt.join " " (w :: ws)).cps).toList=((("":Str).cps++(" ":Str).cps)++((("":Str).cps++(" ":Str).cps)++(Txt.join " " (w :: ws)).cps)).toList
    simp only [Array.toList_append]
    rw [← List.append_assoc]
    rfl
end My
namespace My
open PySem L2
theorem comp_tupT {K:PySem.W.Frag} {n:Nat} {ti:TE} {g:TG} {tc:L2.TT} {te:TE} {σ:St} {H:Hp} {Q:VK} {a:Addr} {xs:List V} (hi:∀ R:VK,R (.ref a) H→ti σ H R) (hx:SqT K H a xs) (Pv:Nat→List V→Hp→Prop) (h0:Pv 0 [] H) (hl:∀ i ys H,i≤xs.length→Pv i ys H→SqT K H a xs∧ys.length < sizeLine)
    (hs:∀ i x ys H,xs[i]?=some x→Pv i ys H→g x (List.replicate n none++σ) H fun σ2 H2=>σ2.drop n=σ∧tc σ2 H2 fun b H3=>if b=true then te σ2 H3 fun y H4=>Pv (i + 1) (ys++[y]) H4 else Pv (i + 1) ys H3)
    (hd:∀ ys H,Pv xs.length ys H→∀ p,H p=none→Q (.ref p) (upd H p (.lst ys))):tComp n (iTup K ti) g tc te σ H Q:=
  hi _ ⟨a,rfl,⟨xs,hx⟩,comp_tup Pv h0 hl hs hd⟩
theorem paired_take {α β:Type} {R:α→β→Prop}:∀ {xs:List α} {ys:List β} {i:Nat} {x:α},Paired R xs ys→xs[i]?=some x→∃ y,ys[i]?=some y∧R x y
  | _,_,0,_,.cons h _,e=>⟨_,rfl,by cases e; exact h⟩
  | _,_,i + 1,_,.cons _ t,e=>paired_take (i:=i) t e
  | _,_,i,_,.nil,e=>by cases i <;> cases e
theorem paired_at {α β:Type} {R:α→β→Prop}:∀ {xs:List α} {ys:List β} {i:Nat} {y:β},Paired R xs ys→ys[i]?=some y→∃ x,xs[i]?=some x∧R x y
  | _,_,0,_,.cons h _,e=>⟨_,rfl,by cases e; exact h⟩
  | _,_,i + 1,_,.cons _ t,e=>paired_at (i:=i) t e
  | _,_,i,_,.nil,e=>by cases i <;> cases e
theorem list_ofK {X:Cx} (K:PySem.W.Frag) (hK:X.K=K):CallR X (.type "list") (fun xs H Q=>∃ p ys,xs=[.ref p]∧(SqL K H p ys∨SqT K H p ys)∧∀ l,H l=none→Q (.ref l) (upd H l (.lst ys))):=by
  rw [← hK]
  exact call_list_of
theorem But.of_same {p:Addr} {H G:Hp} (s:Same H G):But p H G:=fun b o e _=>s b o e
theorem same_upd {p:Addr} {H G:Hp} (n:H p=none) (s:Same H G) (o:HO):Same H (upd G p o):=fun b u e=>by
  rw [upd_ne (ne_of_none e n)]
  exact s b u e
theorem comp_words {K:PySem.W.Frag} {te:TE} {j:Nat} {σ:St} {H:Hp} {Q:VK} {a:Addr} {xs:List V} {ys:List Str} (hj:σ[j]?=some (some (.ref a))) (hx:H a=some (.tup xs)) (sh:Paired Shown xs ys) (l:xs.length≤1000)
    (ht:∀ (x:V) (y:Str) (G:Hp) (R:VK),Shown x y→R (.str y) G→te ([some x]++σ) G R) (q:∀ p,H p=none→Q (.ref p) (upd H p (.lst (ys.map V.str)))):tComp 1 (iTup K (tVar j)) (gName 0) tAll te σ H Q:=by
  have big:=line1000
  have ln:=Paired.length sh
  refine comp_tupT (K:=K) (a:=a) (xs:=xs) (fun R hR=>⟨_,hj,hR⟩) (SqT.of hx) (fun i zs G=>G=H∧zs=(ys.take i).map V.str) ⟨rfl,rfl⟩ ?_ ?_ ?_
  · rintro i zs G hi ⟨rfl,rfl⟩
    refine ⟨SqT.of hx,?_⟩
    rw [List.length_map,List.length_take]
    omega
  · rintro i x zs G hu ⟨rfl,rfl⟩
    obtain ⟨y,hy,hs⟩:=paired_take sh hu
    refine gname_i ⟨rfl,?_⟩
    unfold tAll
    refine iteT (ht x y _ _ hs ⟨rfl,?_⟩)
    rw [List.take_succ,hy,List.map_append]
    rfl
  · rintro zs G ⟨rfl,rfl⟩ p hp
    rw [ln,List.take_length]
    exact q p hp
theorem comp_wordsL {K:PySem.W.Frag} {te:TE} {j:Nat} {σ:St} {H:Hp} {Q:VK} {a:Addr} {xs:List V} {ys:List Str} (hj:σ[j]?=some (some (.ref a))) (hx:H a=some (.lst xs)) (sh:Paired Shown xs ys) (l:xs.length≤1000)
    (ht:∀ (x:V) (y:Str) (G:Hp) (R:VK),Shown x y→R (.str y) G→te ([some x]++σ) G R) (q:∀ p,H p=none→Q (.ref p) (upd H p (.lst (ys.map V.str)))):tComp 1 (iList K (tVar j)) (gName 0) tAll te σ H Q:=by
  have big:=line1000
  have ln:=Paired.length sh
  refine comp_listT (K:=K) (a:=a) (xs:=xs) (fun R hR=>⟨_,hj,hR⟩) (SqL.of hx) (fun i zs G=>G=H∧zs=(ys.take i).map V.str) ⟨rfl,rfl⟩ ?_ ?_ ?_
  · rintro i zs G hi ⟨rfl,rfl⟩
    refine ⟨SqL.of hx,?_⟩
    rw [List.length_map,List.length_take]
    omega
  · rintro i x zs G hu ⟨rfl,rfl⟩
    obtain ⟨y,hy,hs⟩:=paired_take sh hu
    refine gname_i ⟨rfl,?_⟩
    unfold tAll
    refine iteT (ht x y _ _ hs ⟨rfl,?_⟩)
    rw [List.take_succ,hy,List.map_append]
    rfl
  · rintro zs G ⟨rfl,rfl⟩ p hp
    rw [ln,List.take_length]
    exact q p hp
theorem lines_jsz {ls:List Str} (h:∀ l∈ls,LnOk l) (k:ls.length≤150):jsz "\n" ls≤45150:=by
  have h2:=jsz_le (z:="\n") fun x hx=>(h x hx).len
  have h3:("\n":Str).length=1:=by decide
  rw [h3] at h2
  have:ls.length * (300 + 1)≤150 * 301:=Nat.mul_le_mul_right _ k
  omega
theorem Hap.Ok.shown {h:Hap} (k:h.Ok) (kind:Str):Paired Shown (.str kind :: (h.ks.map V.int++[.int h.to,.str h.nm,.int h.a,.int h.b])) (h.ws kind):=
  .cons (shown_s _) (paired_app (shown_is k.ks) (.cons (shown_i k.to) (.cons (shown_s _) (.cons (shown_i k.a) (.cons (shown_i k.b) .nil)))))
end My
namespace My
open PySem L2
section
variable {P:Program} {w:World} {K:PySem.W.Frag} {mg:Str→Option Value} {base:Heap} {f fJ fH:Addr} {fd fdJ fdH:FuncData}
seal L2.PS L2.PSs L2.PE L2.PA L2.PT L2.PW L2.PI L2.PG L2.PGs L2.PC L2.PSC L2.PSsC L2.PEC L2.PTC L2.PAC L2.PPs
def spJo:Sp:=fun vs H Q _=>∃ (a:Addr) (xs:List V) (ys:List Str),vs=[.ref a]∧H a=some (.lst xs)∧Paired Shown xs ys∧GW ys∧∀ H',Same H H'→Q (.str (jn ys)) H'
abbrev nJo:List Str:=["_law_words"]
abbrev pJo:List Str:=["_law_words"]
theorem scJo:FnScope nJo pJo (defScope s_law_joined):=⟨rfl,rfl,rfl,by decide +kernel,rfl,by decide +kernel,by decide +kernel⟩
theorem ndJo:((["_law_word"]:List Str)++nJo).Nodup:=by decide +kernel
theorem ok_jo (D:Df K mg "_law_joined" s_law_joined pJo f fd) (B:Bl mg):FnOk P w K mg base CX0 1 f fd pJo spJo:=by
  refine D.F.ok scJo (fun vs H Q E h=>?_) (fun cdv A outer s H vs Q E hr h=>?_)
  · obtain ⟨a,xs,ys,rfl,_⟩:=h
    rfl
  obtain ⟨a,xs,ys,rfl,ha,sh,g,q⟩:=h
  refine ⟨_,pss_one (ps_ret (pe_bm PySem.F.plainAttrs_str PySem.F.slot_str_join PySem.F.type_str_join mt_join pe_str (pa_cons (pe_comp ["_law_word"] (CompOk.open (NN:=nJo) (N:=nJo) (sc:=defScope s_law_joined) rfl rfl (by decide +kernel) rfl (by decide +kernel) (by decide +kernel) rfl (by decide +kernel)) rfl (pi_list (pv 0)) (fun _ _ _ _=>pg_name (i:=0) ndJo rfl (Or.inl rfl)) (fun _ _ _ _=>pts_nil) (fun _ _ _ _=>pe_callTy call_strV (by rfl) B.str boot_str (pa_n (pv 0) pa_nil))) pa_nil))),?_⟩
  have:=g.many
  have js:=g.jsz
  have:=Paired.length sh
  refine ret_i ⟨rfl,?_⟩
  dsimp only [tCons]
  refine comp_wordsL (j:=0) rfl ha sh (by omega) (fun x y G R h hR=>⟨_,rfl,x,y,rfl,h,hR⟩) fun p hp=>?_
  exact ⟨_,p,ys,rfl,rfl,.inl (SqL.of upd_same),by omega,q _ (same_new hp _)⟩
def spHl:Sp:=fun vs H Q _=>∃ (kind:Str) (h:Hap) (v:V),vs=[.str kind,v]∧HapIn H h v∧h.Ok∧Good kind∧∀ H',Same H H'→Q (.str (jn (h.ws kind))) H'
abbrev nHl:List Str:=["_law_first","_law_happening_here","_law_key","_law_to","_law_name","_law_one","_law_other"]
abbrev pHl:List Str:=["_law_first","_law_happening_here"]
theorem scHl:FnScope nHl pHl (defScope s_law_happening_line):=⟨rfl,rfl,rfl,by decide +kernel,rfl,by decide +kernel,by decide +kernel⟩
theorem ok_hl (D:Df K mg "_law_happening_line" s_law_happening_line pHl f fd) (DJ:Df K mg "_law_joined" s_law_joined pJo fJ fdJ) (B:Bl mg):FnOk P w K mg base CX0 2 f fd pHl spHl:=by
  have GJ:FnOk P w K mg base CX0 1 fJ fdJ pJo spJo:=ok_jo DJ B
  refine D.F.ok scHl (fun vs H Q E h=>?_) (fun cdv A outer s H vs Q E hr h=>?_)
  · obtain ⟨kind,h,v,rfl,_⟩:=h
    rfl
  obtain ⟨kind,h,v,rfl,⟨t,k,rfl,ht,hk⟩,ok,gk,q⟩:=h
  have r1:Room 1 _:=hr
  refine ⟨_,pss_cons (ps_asg (pv 1) (pg_tup rfl (pgs_cons (pg_name (i:=2) scHl.nd rfl (Or.inl rfl)) (pgs_cons (pg_name (i:=3) scHl.nd rfl (Or.inl rfl)) (pgs_cons (pg_name (i:=4) scHl.nd rfl (Or.inl rfl)) (pgs_cons (pg_name (i:=5) scHl.nd rfl (Or.inl rfl)) (pgs_cons (pg_name (i:=6) scHl.nd rfl (Or.inl rfl)) pgs_nil)))))))
    (pss_one (ps_ret (pe_call GJ r1 (by rfl) DJ.m DJ.F.kp DJ.b .nil pass0 (pa_b (pe_op op_cat (pe_op op_cat (pe_lst (pa_n (pv 0) pa_nil)) (pe_callTy (list_ofK K (by rfl)) (by rfl) B.list boot_list (pa_n (pv 2) pa_nil))) (pe_lst (pa_n (pv 3) (pa_n (pv 4) (pa_n (pv 5) (pa_n (pv 6) pa_nil)))))) pa_nil)))),?_⟩
  have big:=line1000
  refine seq_i ⟨_,rfl,t,_,rfl,SqT.of ht,rfl,_,_,rfl,_,_,rfl,_,_,rfl,_,_,rfl,_,_,rfl,rfl,?_⟩
  dsimp only
  refine ret_i ⟨_,rfl,by show 1≤sizeLine; omega,fun p1 hp1=>?_⟩
  have t1:=same_new hp1 (.lst [.str kind])
  refine ⟨_,rfl,k,h.ks.map V.int,rfl,.inr (SqT.of (t1 _ _ hk)),fun p2 hp2=>?_⟩
  have t2:=same_new hp2 (.lst (h.ks.map V.int))
  refine ⟨p1,p2,_,_,rfl,rfl,t2 _ _ upd_same,upd_same,by rw [List.length_map,ok.k4]; show 1 + 4≤_; omega,fun p3 hp3=>?_⟩
  have t3:=same_new hp3 (.lst ([.str kind]++h.ks.map V.int))
  refine ⟨_,rfl,_,rfl,_,rfl,_,rfl,by show 4≤sizeLine; omega,fun p4 hp4=>?_⟩
  have t4:=same_new hp4 (.lst [.int h.to,.str h.nm,.int h.a,.int h.b])
  refine ⟨p3,p4,_,_,rfl,rfl,t4 _ _ upd_same,upd_same,by rw [List.length_append,List.length_map,ok.k4]; show 1 + 4 + 4≤_; omega,fun p5 hp5=>?_⟩
  have t5:=same_new hp5 (.lst ([.str kind]++h.ks.map V.int++[.int h.to,.str h.nm,.int h.a,.int h.b]))
  exact ⟨p5,_,h.ws kind,rfl,upd_same,ok.shown kind,ok.gw gk,fun G g=>q _ (((((t1.trans t2).trans t3).trans t4).trans t5).trans g)⟩
def spLl:Sp:=fun vs H Q _=>∃ (rl:Addr) (us:List V) (rs:List RcW) (fp:List Addr) (e:En) (ev:V),vs=[.ref rl,ev]∧H rl=some (.lst us)∧Prs (RcF H) rs us fp∧EnIn H e ev∧(∀ r∈rs,r.Ok)∧e.Ok∧rs.length≤20∧∀ l H',H l=none→Same H H'→H' l=some (.lst (((bookW rs e).map jn).map V.str))→Q (.ref l) H'
abbrev nLl:List Str:=["_law_records","_law_ending_here","_law_lines_here","_law_record_here","_law_name","_law_what","_law_sent"]
abbrev pLl:List Str:=["_law_records","_law_ending_here"]
theorem scLl:FnScope nLl pLl (defScope s_law_lines):=⟨rfl,rfl,rfl,by decide +kernel,rfl,by decide +kernel,by decide +kernel⟩
theorem ok_ll (D:Df K mg "_law_lines" s_law_lines pLl f fd) (DH:Df K mg "_law_happening_line" s_law_happening_line pHl fH fdH) (DJ:Df K mg "_law_joined" s_law_joined pJo fJ fdJ) (B:Bl mg):FnOk P w K mg base CX0 3 f fd pLl spLl:=by
  have GJ:FnOk P w K mg base CX0 1 fJ fdJ pJo spJo:=ok_jo DJ B
  have GH:FnOk P w K mg base CX0 2 fH fdH pHl spHl:=ok_hl DH DJ B
  refine D.F.ok scLl (fun vs H Q E h=>?_) (fun cdv A outer s H vs Q E hr h=>?_)
  · obtain ⟨rl,us,rs,fp,e,ev,rfl,_⟩:=h
    rfl
  obtain ⟨rl,us,rs,fp,e,ev,rfl,hrl,pr,he,rok,eok,l20,q⟩:=h
  have r2:Room 2 _:=hr
  have r1:Room 1 _:=r2.mono (by omega)
  refine ⟨_,pss_cons (ps_set (i:=2) scLl.nd rfl (Or.inl rfl) (pe_lst pa_nil))
    (pss_cons (ps_for PassesOwn.never rfl (pi_list (pv 0)) (pg_name (i:=3) scLl.nd rfl (Or.inl rfl)) (pss_cons (ps_expr (pe_bm PySem.F.plainAttrs_list PySem.F.slot_list_append PySem.F.type_list_append mt_append (pv 2) (pa_f (pe_call GH r2 (by rfl) DH.m DH.F.kp DH.b .nil pass0 (pa_c pe_str (pa_s (pe_slice sl_tup (pv 3) po_none (po_some pe_int)) pa_nil))) pa_nil)))
    (pss_cons (ps_for PassesOwn.never rfl (pi_list (pe_ix ix_tup (pv 3) pe_int (fun _ _=>rfl))) (pg_tup rfl (pgs_cons (pg_name (i:=4) scLl.nd rfl (Or.inl rfl)) (pgs_cons (pg_name (i:=5) scLl.nd rfl (Or.inl rfl)) pgs_nil))) (pss_one (ps_if (pt_val (pe_callB call_isinst (by rfl) B.isi boot_isi (pa_n (pv 5) (pa_n (pe_bltn (v:=.ty "list") (by rfl) B.list boot_list rfl) pa_nil)))) (pss_one (ps_expr (pe_bm PySem.F.plainAttrs_list PySem.F.slot_list_append PySem.F.type_list_append mt_append (pv 2) (pa_b (pe_op op_add_str pe_str (pe_call GJ r1 (by rfl) DJ.m DJ.F.kp DJ.b .nil pass0 (pa_b (pe_op op_cat (pe_lst (pa_c pe_str (pa_n (pv 4) pa_nil))) (pv 5)) pa_nil))) pa_nil)))) (pss_one (ps_expr (pe_bm PySem.F.plainAttrs_list PySem.F.slot_list_append PySem.F.type_list_append mt_append (pv 2) (pa_b (pe_op op_add_str pe_str (pe_call GJ r1 (by rfl) DJ.m DJ.F.kp DJ.b .nil pass0 (pa_lst (pe_lst (pa_c pe_str (pa_n (pv 4) (pa_n (pv 5) pa_nil)))) pa_nil))) pa_nil)))))))
    (pss_one (ps_for PassesOwn.never rfl (pi_list (pe_ix ix_tup (pv 3) pe_int (fun _ _=>rfl))) (pg_name (i:=6) scLl.nd rfl (Or.inl rfl)) (pss_one (ps_expr (pe_bm PySem.F.plainAttrs_list PySem.F.slot_list_append PySem.F.type_list_append mt_append (pv 2) (pa_b (pe_op op_add_str pe_str (pe_call GH r2 (by rfl) DH.m DH.F.kp DH.b .nil pass0 (pa_c pe_str (pa_n (pv 6) pa_nil)))) pa_nil)))))))))
    (pss_cons (ps_if (pt_cmpR op_eq (pe_ix ix_tup (pv 1) pe_int (fun _ _=>rfl)) pe_str (nomark _)) (pss_one (ps_ret (pe_op op_cat (pv 2) (pe_lst (pa_f (pe_call GJ r1 (by rfl) DJ.m DJ.F.kp DJ.b .nil pass0 (pa_b (pe_op op_cat (pe_lst (pa_c pe_str pa_nil)) (pe_callTy (list_ofK K (by rfl)) (by rfl) B.list boot_list (pa_s (pe_ix ix_tup (pv 1) pe_int (fun _ _=>rfl)) pa_nil))) pa_nil)) pa_nil))))) pss_nil)
    (pss_cons (ps_if (pt_cmpR op_eq (pe_ix ix_tup (pv 1) pe_int (fun _ _=>rfl)) pe_str (nomark _)) (pss_one (ps_ret (pe_op op_cat (pv 2) (pe_lst (pa_f (pe_call GJ r1 (by rfl) DJ.m DJ.F.kp DJ.b .nil pass0 (pa_b (pe_op op_cat (pe_lst (pa_c pe_str (pa_s (pe_ix ix_tup (pv 1) pe_int (fun _ _=>rfl)) pa_nil))) (pe_callTy (list_ofK K (by rfl)) (by rfl) B.list boot_list (pa_s (pe_ix ix_tup (pv 1) pe_int (fun _ _=>rfl)) pa_nil))) pa_nil)) pa_nil))))) pss_nil)
    (pss_one (ps_ret (pe_op op_cat (pv 2) (pe_lst (pa_s (pe_ix ix_tup (pv 1) pe_int (fun _ _=>rfl)) pa_nil)))))))),?_⟩
  have big:=line1000
  have ul:=pr.len
  refine seq_i (asg_i ⟨Nat.zero_le _,fun m hm=>gname_i ?_⟩)
  dsimp only
  have sm:=same_new hm (.lst [])
  refine seq_i ⟨_,rfl,rl,rfl,⟨us,SqL.of (sm _ _ hrl)⟩,for_list (xs:=us) (fun i σ G=>∃ u3 u4 u5 u6,σ=[some (.ref rl),some ev,some (.ref m),u3,u4,u5,u6]∧Same H G∧G m=some (.lst (((recW (rs.take i)).map jn).map V.str))) ⟨none,none,none,none,rfl,sm,upd_same⟩ ?_ ?_ ?_⟩
  · rintro i σ G hi ⟨u3,u4,u5,u6,rfl,sg,hG⟩
    exact SqL.of (sg _ _ hrl)
  · rintro i v σ G hv ⟨u3,u4,u5,u6,rfl,sg,hG⟩
    obtain ⟨r,fr,hr',fsub,t,k,wl,sl,wv,sv,qs,rfl,rfl,e1,e2,e3,e4,e5,e6⟩:=pr.at hv
    have rk:=rok r (List.mem_of_getElem? hr')
    have lrec:=recW_len (rs:=rs.take i) fun x mx=>rok x (List.mem_of_mem_take mx)
    rw [List.length_take] at lrec
    have lw:=rk.wl
    have ls:=rk.sl
    have lw2:=e5.len
    have ls2:=Paired.length e6
    have rec1:recW (rs.take (i + 1))=recW (rs.take i)++r.wss:=by
      unfold recW
      rw [List.take_succ,hr',List.map_append,List.flatten_append]
      simp
    generalize recW (rs.take i)=W at hG lrec rec1
    refine gname_i ?_
    dsimp only
    refine seq_i ⟨_,rfl,.inl ⟨rfl,_,SqL.of hG⟩,_,rfl,5,rfl,t,_,rfl,SqT.of (sg _ _ e1),(show ¬ (HT.sIx 7 0 none=0∧HT.sIx 7 7 (some 5)=7) from by decide),fun p0 hp0=>?_⟩
    have t0:=same_new hp0 (.tup [.ref k,.int r.h.to,.str r.h.nm,.int r.h.a,.int r.h.b])
    refine ⟨"at",r.h,.ref p0,rfl,⟨p0,k,rfl,upd_same,t0 _ _ (sg _ _ e2)⟩,rk.h,good_kinds _ (by decide),fun G1 g1=>⟨m,_,_,rfl,rfl,g1 _ _ (t0 _ _ hG),by rw [List.length_map,List.length_map]; omega,?_⟩⟩
    have sg1:Same H (upd G1 m (.lst ((W.map jn).map V.str++[.str (jn (r.h.ws "at"))]))):=same_upd hm ((sg.trans t0).trans g1) _
    have hG1:(upd G1 m (.lst ((W.map jn).map V.str++[.str (jn (r.h.ws "at"))]))) m=some (.lst (((W++[r.h.ws "at"]).map jn).map V.str)):=by rw [upd_same]; simp
    generalize (upd G1 m (.lst ((W.map jn).map V.str++[.str (jn (r.h.ws "at"))])))=G2 at sg1 hG1
    have kx2:∀ {G:Hp},Same H G→Prs (WrF G) r.ws wv qs:=fun s=>e5.mono fun x v a _ i=>i.kx (Kx.of_same s)
    refine seq_i ⟨_,rfl,t,_,5,_,rfl,rfl,SqT.of (sg1 _ _ e1),rfl,wl,rfl,⟨wv,SqL.of (sg1 _ _ e3)⟩,for_list (xs:=wv) (fun j σ G=>∃ u4 u5 u6,σ=[some (.ref rl),some ev,some (.ref m),some (.ref t),u4,u5,u6]∧Same H G∧G m=some (.lst (((W++[r.h.ws "at"]++(r.ws.take j).map fun x=>ind x.ws).map jn).map V.str))) ⟨u4,u5,u6,rfl,sg1,by rw [hG1]; simp⟩ ?_ ?_ ?_⟩
    · rintro j σ G hj ⟨u4,u5,u6,rfl,sg,hG⟩
      exact SqL.of (sg _ _ e3)
    · rintro j v σ G hv' ⟨u4,u5,u6,rfl,sg,hG⟩
      obtain ⟨x,fx,hx,_,wf⟩:=(kx2 sg).at hv'
      have xk:=rk.ws x (List.mem_of_getElem? hx)
      have lj:=(Wr.gw xk).ln.len
      have e0:("  ":Str).length=2:=by decide
      have jl:(r.ws.take j).length≤3:=by rw [List.length_take]; omega
      have nxt:∀ {G':Hp},Same G G'→(upd G' m (.lst (((W++[r.h.ws "at"]++(r.ws.take j).map fun x=>ind x.ws).map jn).map V.str++[.str (("  ":Str)++jn x.ws)]))) m=some (.lst (((W++[r.h.ws "at"]++(r.ws.take (j + 1)).map fun x=>ind x.ws).map jn).map V.str)):=fun _=>by
        rw [upd_same,in2 (Wr.gw xk).ne,List.take_succ,hx]
        simp
      have lnn:(((W++[r.h.ws "at"]++(r.ws.take j).map fun x=>ind x.ws).map jn).map V.str).length < sizeLine:=by
        simp only [List.length_map,List.length_append]
        show _ + 1 + _ < _
        omega
      cases x with
      | box n z =>
        obtain ⟨rfl,tw,rfl,htw⟩:=wf
        refine ⟨tw,_,rfl,SqT.of htw,rfl,_,_,rfl,_,_,rfl,rfl,?_⟩
        refine ⟨_,rfl,_,"list",_,false,rfl,.int z,rfl,_,rfl,iteF ?_⟩
        refine ⟨_,rfl,.inl ⟨rfl,_,SqL.of hG⟩,_,rfl,_,rfl,by show 3≤sizeLine; omega,fun p1 hp1=>?_⟩
        have t1:=same_new hp1 (.lst [.str "box",.str n,.int z])
        refine ⟨p1,_,Wr.ws (.box n z),rfl,upd_same,.cons (shown_s _) (.cons (shown_s _) (.cons (shown_i xk.2) .nil)),Wr.gw xk,fun G1 g1=>⟨_,_,rfl,rfl,by rw [e0]; omega,m,_,_,rfl,rfl,(t1.trans g1) _ _ hG,lnn,?_⟩⟩
        exact ⟨_,_,_,rfl,same_upd hm (sg.trans (t1.trans g1)) _,nxt (t1.trans g1)⟩
      | queue n zs =>
        obtain ⟨tw,tq,rfl,rfl,htw,htq⟩:=wf
        refine ⟨tw,_,rfl,SqT.of htw,rfl,_,_,rfl,_,_,rfl,rfl,?_⟩
        refine ⟨_,rfl,_,"list",_,true,rfl,.lst htq,rfl,_,rfl,iteT ?_⟩
        refine ⟨_,rfl,.inl ⟨rfl,_,SqL.of hG⟩,_,rfl,by show 2≤sizeLine; omega,fun p1 hp1=>?_⟩
        have t1:=same_new hp1 (.lst [.str "queue",.str n])
        have:=xk.2.1
        refine ⟨_,rfl,p1,tq,_,_,rfl,rfl,upd_same,t1 _ _ htq,by rw [List.length_map]; show 2 + _≤_; omega,fun p2 hp2=>?_⟩
        have t2:=same_new hp2 (.lst ([.str "queue",.str n]++zs.map V.int))
        have t12:=t1.trans t2
        refine ⟨p2,_,Wr.ws (.queue n zs),rfl,upd_same,.cons (shown_s _) (.cons (shown_s _) (shown_is xk.2.2)),Wr.gw xk,fun G1 g1=>⟨_,_,rfl,rfl,by rw [e0]; omega,m,_,_,rfl,rfl,(t12.trans g1) _ _ hG,lnn,?_⟩⟩
        exact ⟨_,_,_,rfl,same_upd hm (sg.trans (t12.trans g1)) _,nxt (t12.trans g1)⟩
    rintro σ G ⟨u4,u5,u6,rfl,sg2,hG2⟩
    rw [← lw2,List.take_length] at hG2
    dsimp only
    refine ⟨_,rfl,t,_,6,_,rfl,rfl,SqT.of (sg2 _ _ e1),rfl,sl,rfl,⟨sv,SqL.of (sg2 _ _ e4)⟩,for_list (xs:=sv) (fun j σ G=>∃ u6,σ=[some (.ref rl),some ev,some (.ref m),some (.ref t),u4,u5,u6]∧Same H G∧G m=some (.lst (((W++[r.h.ws "at"]++(r.ws.map fun x=>ind x.ws)++(r.ss.take j).map fun x=>ind (x.ws "sent")).map jn).map V.str))) ⟨u6,rfl,sg2,by rw [hG2]; simp⟩ ?_ ?_ ?_⟩
    · rintro j σ G hj ⟨u6,rfl,sg,hG⟩
      exact SqL.of (sg _ _ e4)
    · rintro j v σ G hv' ⟨u6,rfl,sg,hG⟩
      obtain ⟨x,hx,wf⟩:=paired_at e6 hv'
      have xk:=rk.ss x (List.mem_of_getElem? hx)
      have lj:=(xk.gw (good_kinds "sent" (by decide))).ln.len
      have e0:("  ":Str).length=2:=by decide
      have jl:(r.ss.take j).length≤2:=by rw [List.length_take]; omega
      refine gname_i ?_
      refine ⟨_,rfl,.inl ⟨rfl,_,SqL.of hG⟩,_,rfl,"sent",x,v,rfl,wf.kx (Kx.of_same (fp:=[]) sg),xk,good_kinds _ (by decide),fun G1 g1=>⟨_,_,rfl,rfl,by rw [e0]; omega,m,_,_,rfl,rfl,g1 _ _ hG,?_,?_⟩⟩
      · simp only [List.length_map,List.length_append]
        show _ + 1 + _ + _ < _
        omega
      · refine ⟨_,rfl,same_upd hm (sg.trans g1) _,?_⟩
        rw [upd_same,in2 (by simp [Hap.ws]),List.take_succ,hx]
        simp
    · rintro σ G ⟨u6,rfl,sg,hG⟩
      rw [← ls2,List.take_length] at hG
      refine ⟨_,_,_,_,rfl,sg,?_⟩
      rw [hG,rec1]
      unfold RcW.wss
      simp
  · rintro σ G ⟨u3,u4,u5,u6,rfl,sg,hG⟩
    rw [← ul,List.take_length] at hG
    have lrec:=recW_len rok
    have he':=he.kx (Kx.of_same (fp:=[]) sg)
    dsimp only
    have fin:∀ {G1:Hp} {p1:Addr},Same G G1→G1 p1=some (.lst [.str (jn e.ws)])→rCat (.ref m) (.ref p1) G1 Q:=fun {G1 p1} g1 h1=>by
      refine ⟨m,p1,_,_,rfl,rfl,g1 _ _ hG,h1,by rw [List.length_map,List.length_map]; show _ + 1≤_; omega,fun p2 hp2=>?_⟩
      refine q p2 _ (not_some fun o z=>by rw [g1 _ _ (sg _ _ z)] at hp2; cases hp2) ((sg.trans g1).trans (same_new hp2 _)) ?_
      rw [upd_same]
      unfold bookW
      simp
    cases e with
    | one wd =>
      obtain ⟨t,rfl,ht⟩:=he'
      refine seq_i ⟨_,rfl,t,_,0,_,rfl,rfl,SqT.of ht,rfl,rfl,_,rfl,?_⟩
      rw [dstr,decide_eq_false (by rcases eok with rfl | rfl <;> decide)]
      refine iteF ?_
      dsimp only [tNext]
      refine seq_i ⟨_,rfl,t,_,0,_,rfl,rfl,SqT.of ht,rfl,rfl,_,rfl,?_⟩
      rw [dstr,decide_eq_false (by rcases eok with rfl | rfl <;> decide)]
      refine iteF ?_
      dsimp only [tNext]
      refine ret_i ⟨_,rfl,_,rfl,t,_,0,_,rfl,rfl,SqT.of ht,rfl,by show 1≤sizeLine; omega,fun p1 hp1=>?_⟩
      exact fin (same_new hp1 _) upd_same
    | fin ks =>
      obtain ⟨t,k,rfl,ht,hk⟩:=he'
      refine seq_i ⟨_,rfl,t,_,0,_,rfl,rfl,SqT.of ht,rfl,rfl,_,rfl,?_⟩
      rw [dstr,decide_eq_true rfl]
      refine iteT (ret_i ⟨_,rfl,by show 1≤sizeLine; omega,fun p1 hp1=>?_⟩)
      have t1:=same_new hp1 (.lst [.str "end"])
      refine ⟨_,rfl,t,_,1,_,rfl,rfl,SqT.of (t1 _ _ ht),rfl,k,ks.map V.int,rfl,.inr (SqT.of (t1 _ _ hk)),fun p2 hp2=>?_⟩
      have t2:=same_new hp2 (.lst (ks.map V.int))
      refine ⟨p1,p2,_,_,rfl,rfl,t2 _ _ upd_same,upd_same,by rw [List.length_map,eok.1]; show 1 + 4≤_; omega,fun p3 hp3=>?_⟩
      have t3:=same_new hp3 (.lst ([.str "end"]++ks.map V.int))
      refine ⟨p3,_,En.ws (.fin ks),rfl,upd_same,.cons (shown_s _) (shown_is eok.2),En.gw eok,fun G1 g1=>⟨by show 1≤sizeLine; omega,fun p4 hp4=>?_⟩⟩
      exact fin ((((t1.trans t2).trans t3).trans g1).trans (same_new hp4 _)) upd_same
    | flt wd ks =>
      obtain ⟨t,k,rfl,ht,hk⟩:=he'
      refine seq_i ⟨_,rfl,t,_,0,_,rfl,rfl,SqT.of ht,rfl,rfl,_,rfl,?_⟩
      rw [dstr,decide_eq_false (by decide)]
      refine iteF ?_
      dsimp only [tNext]
      refine seq_i ⟨_,rfl,t,_,0,_,rfl,rfl,SqT.of ht,rfl,rfl,_,rfl,?_⟩
      rw [dstr,decide_eq_true rfl]
      refine iteT (ret_i ⟨_,rfl,_,rfl,t,_,1,_,rfl,rfl,SqT.of ht,rfl,by show 2≤sizeLine; omega,fun p1 hp1=>?_⟩)
      have t1:=same_new hp1 (.lst [.str "fault",.str wd])
      refine ⟨_,rfl,t,_,2,_,rfl,rfl,SqT.of (t1 _ _ ht),rfl,k,ks.map V.int,rfl,.inr (SqT.of (t1 _ _ hk)),fun p2 hp2=>?_⟩
      have t2:=same_new hp2 (.lst (ks.map V.int))
      refine ⟨p1,p2,_,_,rfl,rfl,t2 _ _ upd_same,upd_same,by rw [List.length_map,eok.2.1]; show 2 + 4≤_; omega,fun p3 hp3=>?_⟩
      have t3:=same_new hp3 (.lst ([.str "fault",.str wd]++ks.map V.int))
      refine ⟨p3,_,En.ws (.flt wd ks),rfl,upd_same,.cons (shown_s _) (.cons (shown_s _) (shown_is eok.2.2)),En.gw eok,fun G1 g1=>⟨by show 1≤sizeLine; omega,fun p4 hp4=>?_⟩⟩
      exact fin ((((t1.trans t2).trans t3).trans g1).trans (same_new hp4 _)) upd_same
end
end My
namespace My
open PySem L2
theorem comp_pur {α:Type} {ti te:TE} {σ:St} {H:Hp} {Q:VK} {p:Addr} (R:Hp→α→V→List Addr→Prop) (Ok:α→Prop) (Pm:Nat→Prop) (hb:∀ m,Pm m→m < 100) (kx:∀ {H H' x v fp},Kx fp H H'→R H x v fp→R H' x v fp)
    (hi:∀ S:VK,(∀ (m:Nat) (G:Hp),Pm m→Purse G p→But p H G→S (.int m) G)→ti σ H S)
    (hs:∀ (i:Nat) (G:Hp) (S:VK),Purse G p→But p H G→(∀ x v fp G',Ok x→R G' x v fp→p∉fp→Purse G' p→But p G G'→S v G')→te ([some (.int (0 + i))]++σ) G S)
    (q:∀ l xs us fp G,Pm xs.length→(∀ x∈xs,Ok x)→Prs (R G) xs us fp→p∉fp→Purse G p→G l=some (.lst us)→l≠p→But p H G→Q (.ref l) G):tComp 1 (iRng1 (tCons ti tNil)) (gName 0) tAll te σ H Q:=by
  have big:=line1000
  refine comp_rngT (fun m G=>Pm m∧Purse G p∧But p H G) (fun S hS=>hi S fun m G a b c=>hS m G ⟨a,b,c⟩) (fun m G h=>by have:=hb m h.1; omega) (fun m G0 i ys G=>∃ xs fp,xs.length=i∧(∀ x∈xs,Ok x)∧Prs (R G) xs ys fp∧p∉fp∧Purse G p∧But p H G) ?_ ?_ ?_ ?_
  · rintro m G0 ⟨a,b,c⟩
    exact ⟨[],[],rfl,(fun x hx=>by cases hx),.nil,by simp,b,c⟩
  · rintro m G0 ⟨a,b,c⟩ i ys G hi ⟨xs,fp,l,_,pr,_⟩
    have:=hb m a
    have:=pr.len
    omega
  · rintro m G0 ⟨a,b,c⟩ i ys G hi ⟨xs,fp,l,ok,pr,np,pu,bt⟩
    refine gname_i ⟨rfl,?_⟩
    unfold tAll
    refine iteT (hs i G _ pu bt fun x v fp' G' xo rx np' pu' bt'=>?_)
    obtain ⟨y,z,hp⟩:=pu
    refine ⟨xs++[x],fp++(fp'++[]),by rw [List.length_append,l]; rfl,fun y m=>?_,Prs.app (pr.mono fun _ _ _ s r=>kx (Kx.of_but hp bt' fun m=>np (s _ m)) r) (.cons rx .nil),by simp [np,np'],pu',bt.trans bt'⟩
    rcases List.mem_append.mp m with m | m
    · exact ok y m
    · rw [List.mem_singleton.mp m]
      exact xo
  · rintro m G0 ⟨a,b,c⟩ ys G ⟨xs,fp,l,ok,pr,np,pu,bt⟩ t ht
    have st:=same_new ht (.lst ys)
    exact q t xs ys fp _ (by rw [l]; exact a) ok (pr.mono fun _ _ _ s r=>kx (Kx.of_same st) r) np (pu.same st) upd_same (newp pu ht) (bt.same st)
def RInt:Hp→Int→V→List Addr→Prop:=fun _ z v fp=>v=.int z∧fp=[]
def RHap:Hp→Hap→V→List Addr→Prop:=fun H h v fp=>HapIn H h v∧fp=[]
theorem prs_ints {H:Hp} {zs:List Int} {us:List V} {fp:List Addr} (h:Prs (RInt H) zs us fp):us=zs.map V.int:=by
  induction h with
  | nil=>rfl
  | cons h t ih=>rw [h.1,ih]; rfl
theorem prs_haps {H:Hp} {hs:List Hap} {us:List V} {fp:List Addr} (h:Prs (RHap H) hs us fp):Paired (HapIn H) hs us:=by
  induction h with
  | nil=>exact .nil
  | cons h t ih=>exact .cons h.1 ih
section
variable {P:Program} {w:World} {K:PySem.W.Frag} {mg:Str→Option Value} {base:Heap} {f fT fF fH fW fR fN fE:Addr} {fd fdT fdF fdH fdW fdR fdN fdE:FuncData}
seal L2.PS L2.PSs L2.PE L2.PA L2.PT L2.PW L2.PI L2.PG L2.PGs L2.PC L2.PSC L2.PSsC L2.PEC L2.PTC L2.PAC L2.PPs
def spFa:Sp:=fun vs H Q _=>∃ p:Addr,vs=[.ref p]∧Purse H p∧∀ (r:Int) (H':Hp),W20 r→Purse H' p→But p H H'→Q (.int r) H'
abbrev nFa:List Str:=["_law_purse_here","_law_sort"]
abbrev pFa:List Str:=["_law_purse_here"]
theorem scFa:FnScope nFa pFa (defScope s_law_far):=⟨rfl,rfl,rfl,by decide +kernel,rfl,by decide +kernel,by decide +kernel⟩
theorem ok_fa (D:Df K mg "_law_far" s_law_far pFa f fd) (DT:Df K mg "_law_take" s_law_take pT fT fdT) (B:Bl mg):FnOk P w K mg base CX0 2 f fd pFa spFa:=by
  have GT:FnOk P w K mg base CX0 1 fT fdT pT spTake:=ok_take DT B
  refine D.F.ok scFa (fun vs H Q E h=>?_) (fun cdv A outer s H vs Q E hr h=>?_)
  · obtain ⟨p,rfl,_⟩:=h
    rfl
  obtain ⟨p,rfl,hp,q⟩:=h
  have r1:Room 1 _:=hr
  refine ⟨_,pss_cons (ps_set (i:=1) scFa.nd rfl (Or.inl rfl) (pe_call GT r1 (by rfl) DT.m DT.F.kp DT.b .nil pass0 (pa_n (pv 0) (pa_c pe_int pa_nil))))
    (pss_cons (ps_if (pt_cmpR op_eq (pv 1) pe_int (nomark _)) (pss_one (ps_ret (pe_op op_add (pe_op op_sub (pe_call GT r1 (by rfl) DT.m DT.F.kp DT.b .nil pass0 (pa_n (pv 0) (pa_b (pe_op op_sub (pe_op op_mul pe_int (pe_op op_pow pe_int pe_int)) pe_int) pa_nil))) (pe_op op_pow pe_int pe_int)) pe_int))) pss_nil)
    (pss_one (ps_ret (pe_op op_sub (pe_call GT r1 (by rfl) DT.m DT.F.kp DT.b .nil pass0 (pa_n (pv 0) (pa_c pe_int pa_nil))) pe_int)))),?_⟩
  have cp:CPow 10 20:=⟨by decide,by decide,by decide⟩
  refine seq_i (asg_i ⟨_,rfl,p,6,rfl,hp,by decide,by decide,fun t G1 t0 t1 p1 b1=>gname_i ?_⟩)
  dsimp only
  refine seq_i ⟨_,rfl,rfl,_,rfl,?_⟩
  rw [dint]
  by_cases c:t=5
  · rw [decide_eq_true c]
    refine iteT (ret_i ⟨_,rfl,_,_,rfl,rfl,cp,_,_,rfl,rfl,.inl ⟨by decide,by decide⟩,_,_,rfl,rfl,p,2 * 10 ^ 20 - 1,rfl,p1,by decide,by decide,fun r G2 r0 r1' p2 b2=>⟨_,_,rfl,rfl,cp,_,_,rfl,rfl,_,_,rfl,rfl,q _ _ ?_ p2 (b1.trans b2)⟩⟩)
    unfold W20
    show -(10 ^ 20) < r - 10 ^ 20 + 1∧r - 10 ^ 20 + 1 < 10 ^ 20
    omega
  · rw [decide_eq_false c]
    refine iteF ?_
    dsimp only [tNext]
    refine ret_i ⟨_,rfl,p,40,rfl,p1,by decide,by decide,fun r G2 r0 r1' p2 b2=>⟨_,_,rfl,rfl,q _ _ ?_ p2 (b1.trans b2)⟩⟩
    unfold W20
    omega
def spLh:Sp:=fun vs H Q _=>∃ (p nl:Addr) (ns:List Str),vs=[.ref p,.ref nl]∧Purse H p∧H nl=some (.lst (ns.map V.str))∧ns≠[]∧ns.length≤9∧(∀ x∈ns,Nam x)∧∀ (h:Hap) (v:V) (H':Hp),h.Ok→HapIn H' h v→Purse H' p→But p H H'→Q v H'
theorem nl_p {H:Hp} {p nl:Addr} {ns:List Str} (hp:Purse H p) (hn:H nl=some (.lst (ns.map V.str))) (ne:ns≠[]):nl≠p:=fun z=>by
  obtain ⟨x,y,e⟩:=hp
  rw [z,e] at hn
  cases ns with
  | nil=>exact ne rfl
  | cons a ns=>cases hn
abbrev nLh:List Str:=["_law_purse_here","_law_names_here","_law_key","_law_to","_law_name"]
abbrev pLh:List Str:=["_law_purse_here","_law_names_here"]
theorem scLh:FnScope nLh pLh (defScope s_law_happening):=⟨rfl,rfl,rfl,by decide +kernel,rfl,by decide +kernel,by decide +kernel⟩
theorem ndLh:((["_law_k"]:List Str)++nLh).Nodup:=by decide +kernel
theorem ok_lh (D:Df K mg "_law_happening" s_law_happening pLh f fd) (DF:Df K mg "_law_far" s_law_far pFa fF fdF) (DT:Df K mg "_law_take" s_law_take pT fT fdT) (B:Bl mg):FnOk P w K mg base CX0 3 f fd pLh spLh:=by
  have GT:FnOk P w K mg base CX0 1 fT fdT pT spTake:=ok_take DT B
  have GF:FnOk P w K mg base CX0 2 fF fdF pFa spFa:=ok_fa DF DT B
  refine D.F.ok scLh (fun vs H Q E h=>?_) (fun cdv A outer s H vs Q E hr h=>?_)
  · obtain ⟨p,nl,ns,rfl,_⟩:=h
    rfl
  obtain ⟨p,nl,ns,rfl,hp,hn,ne,n9,nam,q⟩:=h
  have r2:Room 2 _:=hr
  have r1:Room 1 _:=r2.mono (by omega)
  refine ⟨_,pss_cons (ps_set (i:=2) scLh.nd rfl (Or.inl rfl) (pe_callTy call_tuple_of (by rfl) B.tuple boot_tuple (pa_cons (pe_comp ["_law_k"] (CompOk.open (NN:=nLh) (N:=nLh) (sc:=defScope s_law_happening) rfl rfl (by decide +kernel) rfl (by decide +kernel) (by decide +kernel) rfl (by decide +kernel)) rfl (pi_range1 (by rfl) B.range (pa_c pe_int pa_nil)) (fun _ _ _ _=>pg_name (i:=0) ndLh rfl (Or.inl rfl)) (fun _ _ _ _=>pts_nil) (fun _ _ _ _=>pe_call GF r2 (by rfl) DF.m DF.F.kp DF.b .nil pass0 (pa_n (pv 1) pa_nil))) pa_nil)))
    (pss_cons (ps_set (i:=3) scLh.nd rfl (Or.inl rfl) (pe_call GF r2 (by rfl) DF.m DF.F.kp DF.b .nil pass0 (pa_n (pv 0) pa_nil)))
    (pss_cons (ps_set (i:=4) scLh.nd rfl (Or.inl rfl) (pe_ix ix_list (pv 1) (pe_call GT r1 (by rfl) DT.m DT.F.kp DT.b .nil pass0 (pa_n (pv 0) (pa_f (pe_callB (call_lenK K (by rfl)) (by rfl) B.len PySem.boot_len (pa_n (pv 1) pa_nil)) pa_nil))) (fun _ _=>rfl)))
    (pss_one (ps_ret (pe_tup (pa_n (pv 2) (pa_n (pv 3) (pa_n (pv 4) (pa_f (pe_call GF r2 (by rfl) DF.m DF.F.kp DF.b .nil pass0 (pa_n (pv 0) pa_nil)) (pa_f (pe_call GF r2 (by rfl) DF.m DF.F.kp DF.b .nil pass0 (pa_n (pv 0) pa_nil)) pa_nil)))))))))),?_⟩
  have big:=line1000
  have nnl:=nl_p hp hn ne
  refine seq_i (asg_i ?_)
  dsimp only [tCB,tCons]
  refine comp_pur (p:=p) RInt W20 (fun m=>m=4) (fun m h=>by omega) (fun _ h=>h) (fun S hS=>hS 4 H rfl hp (But.refl _ _)) (fun i G S pu bt hS=>⟨_,rfl,p,rfl,pu,fun r G' wr pu' bt'=>hS r _ [] G' wr ⟨rfl,rfl⟩ (by simp) pu' bt'⟩) fun l ks us fp G1 l4 kok pr _ p1 hl nlp b1=>?_
  have:=prs_ints pr
  subst this
  refine ⟨l,ks.map V.int,rfl,.inl ⟨SqL.of hl,fun k hk=>gname_i ?_⟩⟩
  have tk:=same_new hk (.tup (ks.map V.int))
  have nk:=newp p1 hk
  refine seq_i (asg_i ⟨_,rfl,p,rfl,p1.same tk,fun to G2 wto p2 b2=>gname_i ?_⟩)
  dsimp only
  have hk2:G2 k=some (.tup (ks.map V.int)):=b2 _ _ upd_same nk
  have bt2:But p H G2:=(b1.same tk).trans b2
  have hn2:=bt2 _ _ hn nnl
  have nl0:0 < ns.length:=List.length_pos_iff.mpr ne
  refine seq_i (asg_i ⟨_,rfl,_,rfl,_,rfl,nl,_,rfl,.inl (SqL.of hn2),p,(ns.length:Int),by rw [List.length_map]; rfl,p2,by omega,by omega,fun j G3 j0 j1 p3 b3=>?_⟩)
  have hn3:=b3 _ _ hn2 nnl
  have hk3:=b3 _ _ hk2 nk
  obtain ⟨j,rfl⟩:∃ i:Nat,j=(i:Int):=⟨j.toNat,by omega⟩
  have jl:j < ns.length:=by omega
  refine ⟨nl,_,(j:Int),.str ns[j],rfl,rfl,SqL.of hn3,atI_nat (by rw [List.getElem?_map,List.getElem?_eq_getElem jl]; rfl),gname_i ?_⟩
  dsimp only
  have nm:=nam ns[j] (List.getElem_mem jl)
  refine ret_i ⟨_,rfl,_,rfl,_,rfl,_,rfl,p,rfl,p3,fun a G4 wa p4 b4=>⟨_,rfl,p,rfl,p4,fun b G5 wb p5 b5=>⟨by show 5≤sizeLine; omega,fun t ht=>?_⟩⟩⟩
  have tt:=same_new ht (.tup [.ref k,.int to,.str ns[j],.int a,.int b])
  exact q ⟨ks,to,ns[j],a,b⟩ _ _ ⟨l4,kok,wto,nm,wa,wb⟩ ⟨t,k,rfl,upd_same,tt _ _ (b5 _ _ (b4 _ _ hk3 nk) nk)⟩ (p5.same tt) ((((bt2.trans b3).trans b4).trans b5).same tt)
def spLw:Sp:=fun vs H Q _=>∃ (p nl:Addr) (ns:List Str),vs=[.ref p,.ref nl]∧Purse H p∧H nl=some (.lst (ns.map V.str))∧ns≠[]∧ns.length≤9∧(∀ x∈ns,Nam x)∧∀ (x:Wr) (v:V) (fp:List Addr) (H':Hp),x.Ok→WrF H' x v fp→p∉fp→Purse H' p→But p H H'→Q v H'
abbrev nLw:List Str:=["_law_purse_here","_law_names_here","_law_name"]
abbrev pLw:List Str:=["_law_purse_here","_law_names_here"]
theorem scLw:FnScope nLw pLw (defScope s_law_write):=⟨rfl,rfl,rfl,by decide +kernel,rfl,by decide +kernel,by decide +kernel⟩
theorem ndLw:((["_law_k"]:List Str)++nLw).Nodup:=by decide +kernel
theorem ok_lw (D:Df K mg "_law_write" s_law_write pLw f fd) (DF:Df K mg "_law_far" s_law_far pFa fF fdF) (DT:Df K mg "_law_take" s_law_take pT fT fdT) (B:Bl mg):FnOk P w K mg base CX0 3 f fd pLw spLw:=by
  have GT:FnOk P w K mg base CX0 1 fT fdT pT spTake:=ok_take DT B
  have GF:FnOk P w K mg base CX0 2 fF fdF pFa spFa:=ok_fa DF DT B
  refine D.F.ok scLw (fun vs H Q E h=>?_) (fun cdv A outer s H vs Q E hr h=>?_)
  · obtain ⟨p,nl,ns,rfl,_⟩:=h
    rfl
  obtain ⟨p,nl,ns,rfl,hp,hn,ne,n9,nam,q⟩:=h
  have r2:Room 2 _:=hr
  have r1:Room 1 _:=r2.mono (by omega)
  refine ⟨_,pss_cons (ps_set (i:=2) scLw.nd rfl (Or.inl rfl) (pe_ix ix_list (pv 1) (pe_call GT r1 (by rfl) DT.m DT.F.kp DT.b .nil pass0 (pa_n (pv 0) (pa_f (pe_callB (call_lenK K (by rfl)) (by rfl) B.len PySem.boot_len (pa_n (pv 1) pa_nil)) pa_nil))) (fun _ _=>rfl)))
    (pss_cons (ps_if (pt_cmpR op_eq (pe_call GT r1 (by rfl) DT.m DT.F.kp DT.b .nil pass0 (pa_n (pv 0) (pa_c pe_int pa_nil))) pe_int (nomark _)) (pss_one (ps_ret (pe_tup (pa_n (pv 2) (pa_f (pe_call GF r2 (by rfl) DF.m DF.F.kp DF.b .nil pass0 (pa_n (pv 0) pa_nil)) pa_nil))))) pss_nil)
    (pss_one (ps_ret (pe_tup (pa_n (pv 2) (pa_cons (pe_comp ["_law_k"] (CompOk.open (NN:=nLw) (N:=nLw) (sc:=defScope s_law_write) rfl rfl (by decide +kernel) rfl (by decide +kernel) (by decide +kernel) rfl (by decide +kernel)) rfl (pi_range1 (by rfl) B.range (pa_f (pe_call GT r1 (by rfl) DT.m DT.F.kp DT.b .nil pass0 (pa_n (pv 0) (pa_c pe_int pa_nil))) pa_nil)) (fun _ _ _ _=>pg_name (i:=0) ndLw rfl (Or.inl rfl)) (fun _ _ _ _=>pts_nil) (fun _ _ _ _=>pe_call GF r2 (by rfl) DF.m DF.F.kp DF.b .nil pass0 (pa_n (pv 1) pa_nil))) pa_nil)))))),?_⟩
  have big:=line1000
  have nnl:=nl_p hp hn ne
  have nl0:0 < ns.length:=List.length_pos_iff.mpr ne
  refine seq_i (asg_i ⟨_,rfl,_,rfl,_,rfl,nl,_,rfl,.inl (SqL.of hn),p,(ns.length:Int),by rw [List.length_map]; rfl,hp,by omega,by omega,fun j G3 j0 j1 p3 b3=>?_⟩)
  have hn3:=b3 _ _ hn nnl
  obtain ⟨j,rfl⟩:∃ i:Nat,j=(i:Int):=⟨j.toNat,by omega⟩
  have jl:j < ns.length:=by omega
  refine ⟨nl,_,(j:Int),.str ns[j],rfl,rfl,SqL.of hn3,atI_nat (by rw [List.getElem?_map,List.getElem?_eq_getElem jl]; rfl),gname_i ?_⟩
  dsimp only
  have nm:=nam ns[j] (List.getElem_mem jl)
  refine seq_i ⟨_,rfl,p,2,rfl,p3,by decide,by decide,fun c G4 c0 c1 p4 b4=>⟨rfl,_,rfl,?_⟩⟩
  rw [dint]
  by_cases c:c=0
  · rw [decide_eq_true c]
    refine iteT (ret_i ⟨_,rfl,_,rfl,p,rfl,p4,fun z G5 wz p5 b5=>⟨by show 2≤sizeLine; omega,fun t ht=>?_⟩⟩)
    have tt:=same_new ht (.tup [.str ns[j],.int z])
    exact q (.box ns[j] z) _ [] _ ⟨nm,wz⟩ ⟨rfl,t,rfl,upd_same⟩ (by simp) (p5.same tt) (((b3.trans b4).trans b5).same tt)
  · rw [decide_eq_false c]
    refine iteF ?_
    dsimp only [tNext]
    refine ret_i ⟨_,rfl,?_⟩
    refine comp_pur (p:=p) RInt W20 (fun m=>m≤3) (fun m h=>by omega) (fun _ h=>h) (fun S hS=>⟨_,rfl,p,4,rfl,p4,by decide,by decide,fun r G' r0 r1' pu' bt'=>?_⟩) (fun i G S pu bt hS=>⟨_,rfl,p,rfl,pu,fun r G' wr pu' bt'=>hS r _ [] G' wr ⟨rfl,rfl⟩ (by simp) pu' bt'⟩) fun l ks us fp G5 l3 kok pr _ p5 hl nlp b5=>?_
    · obtain ⟨i,rfl⟩:∃ i:Nat,r=(i:Int):=⟨r.toNat,by omega⟩
      exact hS i G' (by omega) pu' bt'
    have:=prs_ints pr
    subst this
    refine ⟨by show 2≤sizeLine; omega,fun t ht=>?_⟩
    have tt:=same_new ht (.tup [.str ns[j],.ref l])
    exact q (.queue ns[j] ks) _ [l] _ ⟨nm,l3,kok⟩ ⟨t,l,rfl,rfl,upd_same,tt _ _ hl⟩ (by simp [Ne.symm nlp]) (p5.same tt) (((b3.trans b4).trans b5).same tt)
def spLr:Sp:=fun vs H Q _=>∃ (p nl:Addr) (ns:List Str),vs=[.ref p,.ref nl]∧Purse H p∧H nl=some (.lst (ns.map V.str))∧ns≠[]∧ns.length≤9∧(∀ x∈ns,Nam x)∧∀ (r:RcW) (v:V) (fp:List Addr) (H':Hp),r.Ok→RcF H' r v fp→p∉fp→Purse H' p→But p H H'→Q v H'
abbrev nLr:List Str:=["_law_purse_here","_law_names_here","_law_happening_here","_law_writes","_law_sent"]
abbrev pLr:List Str:=["_law_purse_here","_law_names_here"]
theorem scLr:FnScope nLr pLr (defScope s_law_record):=⟨rfl,rfl,rfl,by decide +kernel,rfl,by decide +kernel,by decide +kernel⟩
theorem ndLr:((["_law_k"]:List Str)++nLr).Nodup:=by decide +kernel
theorem ndLr2:((["_law_k"]:List Str)++nLr).Nodup:=ndLr
theorem ok_lr (D:Df K mg "_law_record" s_law_record pLr f fd) (DH:Df K mg "_law_happening" s_law_happening pLh fH fdH) (DW:Df K mg "_law_write" s_law_write pLw fW fdW) (DF:Df K mg "_law_far" s_law_far pFa fF fdF) (DT:Df K mg "_law_take" s_law_take pT fT fdT) (B:Bl mg):FnOk P w K mg base CX0 4 f fd pLr spLr:=by
  have GT:FnOk P w K mg base CX0 1 fT fdT pT spTake:=ok_take DT B
  have GH:FnOk P w K mg base CX0 3 fH fdH pLh spLh:=ok_lh DH DF DT B
  have GW':FnOk P w K mg base CX0 3 fW fdW pLw spLw:=ok_lw DW DF DT B
  refine D.F.ok scLr (fun vs H Q E h=>?_) (fun cdv A outer s H vs Q E hr h=>?_)
  · obtain ⟨p,nl,ns,rfl,_⟩:=h
    rfl
  obtain ⟨p,nl,ns,rfl,hp,hn,ne,n9,nam,q⟩:=h
  have r3:Room 3 _:=hr
  have r1:Room 1 _:=r3.mono (by omega)
  refine ⟨_,pss_cons (ps_set (i:=2) scLr.nd rfl (Or.inl rfl) (pe_call GH r3 (by rfl) DH.m DH.F.kp DH.b .nil pass0 (pa_n (pv 0) (pa_n (pv 1) pa_nil))))
    (pss_cons (ps_comp (i:=3) ["_law_k"] (CompOk.open (NN:=nLr) (N:=nLr) (sc:=defScope s_law_record) rfl rfl (by decide +kernel) rfl (by decide +kernel) (by decide +kernel) rfl (by decide +kernel)) rfl scLr.nd rfl (Or.inl rfl) (pi_range1 (by rfl) B.range (pa_f (pe_call GT r1 (by rfl) DT.m DT.F.kp DT.b .nil pass0 (pa_n (pv 0) (pa_c pe_int pa_nil))) pa_nil)) (fun _ _ _ _=>pg_name (i:=0) ndLr rfl (Or.inl rfl)) (fun _ _ _ _=>pts_nil) (fun _ _ _ _=>pe_call GW' r3 (by rfl) DW.m DW.F.kp DW.b .nil pass0 (pa_n (pv 1) (pa_n (pv 2) pa_nil))))
    (pss_cons (ps_comp (i:=4) ["_law_k"] (CompOk.open (NN:=nLr) (N:=nLr) (sc:=defScope s_law_record) rfl rfl (by decide +kernel) rfl (by decide +kernel) (by decide +kernel) rfl (by decide +kernel)) rfl scLr.nd rfl (Or.inl rfl) (pi_range1 (by rfl) B.range (pa_f (pe_call GT r1 (by rfl) DT.m DT.F.kp DT.b .nil pass0 (pa_n (pv 0) (pa_c pe_int pa_nil))) pa_nil)) (fun _ _ _ _=>pg_name (i:=0) ndLr2 rfl (Or.inl rfl)) (fun _ _ _ _=>pts_nil) (fun _ _ _ _=>pe_call GH r3 (by rfl) DH.m DH.F.kp DH.b .nil pass0 (pa_n (pv 1) (pa_n (pv 2) pa_nil))))
    (pss_one (ps_ret (pe_op op_catT (pv 2) (pe_tup (pa_n (pv 3) (pa_n (pv 4) pa_nil)))))))),?_⟩
  have big:=line1000
  have nnl:=nl_p hp hn ne
  refine seq_i (asg_i ⟨_,rfl,_,rfl,p,nl,ns,rfl,hp,hn,ne,n9,nam,fun h v G1 hok hv p1 b1=>gname_i ?_⟩)
  dsimp only
  have hn1:=b1 _ _ hn nnl
  refine seq_i (asg_i ?_)
  refine comp_pur (p:=p) WrF Wr.Ok (fun m=>m≤3) (fun m h=>by omega) (fun k h=>h.kx k) (fun S hS=>⟨_,rfl,p,4,rfl,p1,by decide,by decide,fun r G' r0 r1' pu' bt'=>?_⟩) (fun i G S pu bt hS=>⟨_,rfl,_,rfl,p,nl,ns,rfl,pu,bt _ _ hn1 nnl,ne,n9,nam,hS⟩) fun wl ws wv qs G2 l3 wok pr npq p2 hwl nwp b2=>gname_i ?_
  · obtain ⟨i,rfl⟩:∃ i:Nat,r=(i:Int):=⟨r.toNat,by omega⟩
    exact hS i G' (by omega) pu' bt'
  dsimp only
  have hn2:=b2 _ _ hn1 nnl
  refine seq_i (asg_i ?_)
  refine comp_pur (p:=p) RHap Hap.Ok (fun m=>m≤2) (fun m h=>by omega) (fun k h=>⟨h.1.kx k,h.2⟩) (fun S hS=>⟨_,rfl,p,3,rfl,p2,by decide,by decide,fun r G' r0 r1' pu' bt'=>?_⟩) (fun i G S pu bt hS=>⟨_,rfl,_,rfl,p,nl,ns,rfl,pu,bt _ _ hn2 nnl,ne,n9,nam,fun h v G' ho hv pu' bt'=>hS h v [] G' ho ⟨hv,rfl⟩ (by simp) pu' bt'⟩) fun sl ss sv fq G3 l2 sok prs _ p3 hsl nsp b3=>gname_i ?_
  · obtain ⟨i,rfl⟩:∃ i:Nat,r=(i:Int):=⟨r.toNat,by omega⟩
    exact hS i G' (by omega) pu' bt'
  dsimp only
  obtain ⟨x1,y1,e1⟩:=p1
  obtain ⟨x2,y2,e2⟩:=p2
  have hv3:=(hv.kx (Kx.of_but (fp:=[]) e1 b2 (by simp))).kx (Kx.of_but (fp:=[]) e2 b3 (by simp))
  obtain ⟨t,k,rfl,ht,hk⟩:=hv3
  have pr3:=pr.mono fun _ _ _ s i=>WrF.kx (Kx.of_but e2 b3 fun m=>npq (s _ m)) i
  have hwl3:=b3 _ _ hwl nwp
  refine ret_i ⟨_,rfl,_,rfl,_,rfl,by show 2≤sizeLine; omega,fun t2 ht2=>?_⟩
  have u1:=same_new ht2 (.tup [.ref wl,.ref sl])
  refine ⟨t,t2,_,_,rfl,rfl,SqT.of (u1 _ _ ht),SqT.of upd_same,by simp,by show 5 + 2≤sizeLine; omega,fun z=>(by cases z),fun _ t3 ht3=>?_⟩
  have u2:=same_new ht3 (.tup ([.ref k,.int h.to,.str h.nm,.int h.a,.int h.b]++[.ref wl,.ref sl]))
  have u:=u1.trans u2
  refine q ⟨h,ws,ss⟩ (.ref t3) (wl :: sl :: qs) _ ⟨hok,wok,sok,l3,l2⟩ ⟨t3,k,wl,sl,wv,sv,qs,rfl,rfl,upd_same,u _ _ hk,u _ _ hwl3,u _ _ hsl,pr3.mono fun _ _ _ s i=>i.kx (Kx.of_same u),Paired.mono (fun _ _ i=>i.kx (Kx.of_same (fp:=[]) u)) (prs_haps prs)⟩ (by simp [npq,Ne.symm nwp,Ne.symm nsp]) (p3.same u) (((b1.trans b2).trans b3).same u)
def spLe:Sp:=fun vs H Q _=>∃ p:Addr,vs=[.ref p]∧Purse H p∧∀ (e:En) (v:V) (H':Hp),e.Ok→EnIn H' e v→Purse H' p→But p H H'→Q v H'
abbrev nLe:List Str:=["_law_purse_here","_law_key","_law_word"]
abbrev pLe:List Str:=["_law_purse_here"]
theorem scLe:FnScope nLe pLe (defScope s_law_ending):=⟨rfl,rfl,rfl,by decide +kernel,rfl,by decide +kernel,by decide +kernel⟩
theorem ndLe:((["_law_k"]:List Str)++nLe).Nodup:=by decide +kernel
theorem ok_le (D:Df K mg "_law_ending" s_law_ending pLe f fd) (DF:Df K mg "_law_far" s_law_far pFa fF fdF) (DT:Df K mg "_law_take" s_law_take pT fT fdT) (B:Bl mg):FnOk P w K mg base CX0 3 f fd pLe spLe:=by
  have GT:FnOk P w K mg base CX0 1 fT fdT pT spTake:=ok_take DT B
  have GF:FnOk P w K mg base CX0 2 fF fdF pFa spFa:=ok_fa DF DT B
  refine D.F.ok scLe (fun vs H Q E h=>?_) (fun cdv A outer s H vs Q E hr h=>?_)
  · obtain ⟨p,rfl,_⟩:=h
    rfl
  obtain ⟨p,rfl,hp,q⟩:=h
  have r2:Room 2 _:=hr
  have r1:Room 1 _:=r2.mono (by omega)
  refine ⟨_,pss_cons (ps_set (i:=1) scLe.nd rfl (Or.inl rfl) (pe_callTy call_tuple_of (by rfl) B.tuple boot_tuple (pa_cons (pe_comp ["_law_k"] (CompOk.open (NN:=nLe) (N:=nLe) (sc:=defScope s_law_ending) rfl rfl (by decide +kernel) rfl (by decide +kernel) (by decide +kernel) rfl (by decide +kernel)) rfl (pi_range1 (by rfl) B.range (pa_c pe_int pa_nil)) (fun _ _ _ _=>pg_name (i:=0) ndLe rfl (Or.inl rfl)) (fun _ _ _ _=>pts_nil) (fun _ _ _ _=>pe_call GF r2 (by rfl) DF.m DF.F.kp DF.b .nil pass0 (pa_n (pv 1) pa_nil))) pa_nil)))
    (pss_cons (ps_set (i:=2) scLe.nd rfl (Or.inl rfl) (pe_ix ix_list (pe_lst (pa_c pe_str (pa_c pe_str (pa_c pe_str (pa_c pe_str (pa_c pe_str (pa_c pe_str pa_nil))))))) (pe_call GT r1 (by rfl) DT.m DT.F.kp DT.b .nil pass0 (pa_n (pv 0) (pa_c pe_int pa_nil))) (fun _ _=>rfl)))
    (pss_one (ps_ret (pe_ix ix_list (pe_lst (pa_tup (pe_tup (pa_c pe_str pa_nil)) (pa_tup (pe_tup (pa_c pe_str pa_nil)) (pa_tup (pe_tup (pa_c pe_str (pa_n (pv 1) pa_nil))) (pa_tup (pe_tup (pa_c pe_str (pa_n (pv 2) (pa_n (pv 1) pa_nil)))) pa_nil))))) (pe_call GT r1 (by rfl) DT.m DT.F.kp DT.b .nil pass0 (pa_n (pv 0) (pa_c pe_int pa_nil))) (fun _ _=>rfl))))),?_⟩
  have big:=line1000
  refine seq_i (asg_i ?_)
  dsimp only [tCB,tCons]
  refine comp_pur (p:=p) RInt W20 (fun m=>m=4) (fun m h=>by omega) (fun _ h=>h) (fun S hS=>hS 4 H rfl hp (But.refl _ _)) (fun i G S pu bt hS=>⟨_,rfl,p,rfl,pu,fun r G' wr pu' bt'=>hS r _ [] G' wr ⟨rfl,rfl⟩ (by simp) pu' bt'⟩) fun l ks us fp G1 l4 kok pr _ p1 hl nlp b1=>?_
  have:=prs_ints pr
  subst this
  refine ⟨l,ks.map V.int,rfl,.inl ⟨SqL.of hl,fun k hk=>gname_i ?_⟩⟩
  have tk:=same_new hk (.tup (ks.map V.int))
  have nk:=newp p1 hk
  have p1k:=p1.same tk
  refine seq_i (asg_i ⟨by show 6≤sizeLine; omega,fun fl hfl=>?_⟩)
  have tf:=same_new hfl (.lst (faults.map V.str))
  have nf:=newp p1k hfl
  refine ⟨_,rfl,p,6,rfl,p1k.same tf,by decide,by decide,fun j G2 j0 j1 p2 b2=>?_⟩
  have hf2:G2 fl=some (.lst (faults.map V.str)):=b2 _ _ upd_same nf
  obtain ⟨j,rfl⟩:∃ i:Nat,j=(i:Int):=⟨j.toNat,by omega⟩
  have jl:j < faults.length:=by show j < 6; omega
  refine ⟨fl,_,(j:Int),.str faults[j],rfl,rfl,SqL.of hf2,atI_nat (by rw [List.getElem?_map,List.getElem?_eq_getElem jl]; rfl),gname_i ?_⟩
  dsimp only
  have hk2:G2 k=some (.tup (ks.map V.int)):=b2 _ _ (tf _ _ upd_same) nk
  have bt2:But p H G2:=((b1.same tk).same tf).trans b2
  refine ret_i ⟨by show 1≤sizeLine; omega,fun t1 ht1=>⟨by show 1≤sizeLine; omega,fun t2 ht2=>⟨_,rfl,by show 2≤sizeLine; omega,fun t3 ht3=>⟨_,rfl,_,rfl,by show 3≤sizeLine; omega,fun t4 ht4=>⟨by show 4≤sizeLine; omega,fun tl htl=>?_⟩⟩⟩⟩⟩
  have u1:=same_new ht1 (.tup [.str "cut"])
  have u2:=same_new ht2 (.tup [.str "empty"])
  have u3:=same_new ht3 (.tup [.str "end",.ref k])
  have u4:=same_new ht4 (.tup [.str "fault",.str faults[j],.ref k])
  have u5:=same_new htl (.lst [.ref t1,.ref t2,.ref t3,.ref t4])
  have e1:=u5 _ _ (u4 _ _ (u3 _ _ (u2 _ _ (upd_same (H:=G2) (a:=t1) (o:=.tup [.str "cut"])))))
  have e2:=u5 _ _ (u4 _ _ (u3 _ _ (upd_same (H:=upd G2 t1 (.tup [.str "cut"])) (a:=t2) (o:=.tup [.str "empty"]))))
  have e3:=u5 _ _ (u4 _ _ (upd_same (H:=upd (upd G2 t1 (.tup [.str "cut"])) t2 (.tup [.str "empty"])) (a:=t3) (o:=.tup [.str "end",.ref k])))
  have e4:=u5 _ _ (upd_same (H:=upd (upd (upd G2 t1 (.tup [.str "cut"])) t2 (.tup [.str "empty"])) t3 (.tup [.str "end",.ref k])) (a:=t4) (o:=.tup [.str "fault",.str faults[j],.ref k]))
  have el:(upd (upd (upd (upd (upd G2 t1 (.tup [.str "cut"])) t2 (.tup [.str "empty"])) t3 (.tup [.str "end",.ref k])) t4 (.tup [.str "fault",.str faults[j],.ref k])) tl (.lst [.ref t1,.ref t2,.ref t3,.ref t4])) tl=some (.lst [.ref t1,.ref t2,.ref t3,.ref t4]):=upd_same
  have uu:=(((u1.trans u2).trans u3).trans u4).trans u5
  generalize (upd (upd (upd (upd (upd G2 t1 (.tup [.str "cut"])) t2 (.tup [.str "empty"])) t3 (.tup [.str "end",.ref k])) t4 (.tup [.str "fault",.str faults[j],.ref k])) tl (.lst [.ref t1,.ref t2,.ref t3,.ref t4]))=G3 at e1 e2 e3 e4 el uu
  have p3:=p2.same uu
  have ntl:tl≠p:=fun z=>by
    obtain ⟨x,y,e⟩:=p3
    rw [z,e] at el
    cases el
  refine ⟨_,rfl,p,4,rfl,p3,by decide,by decide,fun c G4 c0 c1 p4 b4=>?_⟩
  obtain ⟨x3,y3,e5⟩:=p3
  have kx:=Kx.of_but (fp:=[]) e5 b4 (by simp)
  have hk4:=kx.1 _ _ (uu _ _ hk2)
  have bt4:But p H G4:=(bt2.same uu).trans b4
  have c4:c=0∨c=1∨c=2∨c=3:=by omega
  have el4:=b4 _ _ el ntl
  rcases c4 with rfl | rfl | rfl | rfl
  · exact ⟨tl,_,0,_,rfl,rfl,SqL.of el4,rfl,q (.one "cut") _ _ (.inl rfl) ⟨t1,rfl,kx.1 _ _ e1⟩ p4 bt4⟩
  · exact ⟨tl,_,1,_,rfl,rfl,SqL.of el4,rfl,q (.one "empty") _ _ (.inr rfl) ⟨t2,rfl,kx.1 _ _ e2⟩ p4 bt4⟩
  · exact ⟨tl,_,2,_,rfl,rfl,SqL.of el4,rfl,q (.fin ks) _ _ ⟨l4,kok⟩ ⟨t3,k,rfl,kx.1 _ _ e3,hk4⟩ p4 bt4⟩
  · exact ⟨tl,_,3,_,rfl,rfl,SqL.of el4,rfl,q (.flt faults[j] ks) _ _ ⟨List.getElem_mem jl,l4,kok⟩ ⟨t4,k,rfl,kx.1 _ _ e4,hk4⟩ p4 bt4⟩
def spLb:Sp:=fun vs H Q _=>∃ p:Addr,vs=[.ref p]∧Purse H p∧∀ (l rl:Addr) (us:List V) (rs:List RcW) (fp:List Addr) (e:En) (ev:V) (H':Hp),(∀ r∈rs,r.Ok)→e.Ok→rs.length≤8→H' l=some (.lst [.ref rl,ev])→H' rl=some (.lst us)→Prs (RcF H') rs us fp→EnIn H' e ev→p∉rl :: fp→Purse H' p→But p H H'→Q (.ref l) H'
abbrev nLb:List Str:=["_law_purse_here","_law_names_here","_law_records"]
abbrev pLb:List Str:=["_law_purse_here"]
theorem scLb:FnScope nLb pLb (defScope s_law_book):=⟨rfl,rfl,rfl,by decide +kernel,rfl,by decide +kernel,by decide +kernel⟩
theorem ndLb:((["_law_k"]:List Str)++nLb).Nodup:=by decide +kernel
theorem ok_lb (D:Df K mg "_law_book" s_law_book pLb f fd) (DN:Df K mg "_law_names" s_law_names pN fN fdN) (DE:Df K mg "_law_ending" s_law_ending pLe fE fdE) (DR:Df K mg "_law_record" s_law_record pLr fR fdR) (DH:Df K mg "_law_happening" s_law_happening pLh fH fdH) (DW:Df K mg "_law_write" s_law_write pLw fW fdW) (DF:Df K mg "_law_far" s_law_far pFa fF fdF) (DT:Df K mg "_law_take" s_law_take pT fT fdT) (B:Bl mg):FnOk P w K mg base CX0 5 f fd pLb spLb:=by
  have GT:FnOk P w K mg base CX0 1 fT fdT pT spTake:=ok_take DT B
  have GN:FnOk P w K mg base CX0 2 fN fdN pN spNames:=ok_names DN DT B
  have GE:FnOk P w K mg base CX0 3 fE fdE pLe spLe:=ok_le DE DF DT B
  have GR:FnOk P w K mg base CX0 4 fR fdR pLr spLr:=ok_lr DR DH DW DF DT B
  refine D.F.ok scLb (fun vs H Q E h=>?_) (fun cdv A outer s H vs Q E hr h=>?_)
  · obtain ⟨p,rfl,_⟩:=h
    rfl
  obtain ⟨p,rfl,hp,q⟩:=h
  have r4:Room 4 _:=hr
  have r3:Room 3 _:=r4.mono (by omega)
  have r2:Room 2 _:=r4.mono (by omega)
  have r1:Room 1 _:=r4.mono (by omega)
  refine ⟨_,pss_cons (ps_set (i:=1) scLb.nd rfl (Or.inr rfl) (pe_call GN r2 (by rfl) DN.m DN.F.kp DN.b .nil pass0 (pa_n (pv 0) (pa_c pe_int pa_nil))))
    (pss_cons (ps_comp (i:=2) ["_law_k"] (CompOk.open (NN:=nLb) (N:=nLb) (sc:=defScope s_law_book) rfl rfl (by decide +kernel) rfl (by decide +kernel) (by decide +kernel) rfl (by decide +kernel)) rfl scLb.nd rfl (Or.inl rfl) (pi_range1 (by rfl) B.range (pa_f (pe_call GT r1 (by rfl) DT.m DT.F.kp DT.b .nil pass0 (pa_n (pv 0) (pa_c pe_int pa_nil))) pa_nil)) (fun _ _ _ _=>pg_name (i:=0) ndLb rfl (Or.inl rfl)) (fun _ _ _ _=>pts_nil) (fun _ _ _ _=>pe_call GR r4 (by rfl) DR.m DR.F.kp DR.b .nil pass0 (pa_n (pv 1) (pa_n (pv 2) pa_nil))))
    (pss_one (ps_ret (pe_lst (pa_n (pv 2) (pa_f (pe_call GE r3 (by rfl) DE.m DE.F.kp DE.b .nil pass0 (pa_n (pv 0) pa_nil)) pa_nil)))))),?_⟩
  have big:=line1000
  refine seq_i (asg_i ⟨_,rfl,p,5,rfl,hp,by decide,by decide,fun nl ns G1 hnl hns n5 nam p1 b1=>gname_i ?_⟩)
  dsimp only
  have ne:ns≠[]:=fun z=>by rw [z] at n5; cases n5
  have nnl:=nl_p p1 hns ne
  refine seq_i (asg_i ?_)
  refine comp_pur (p:=p) RcF RcW.Ok (fun m=>m≤8) (fun m h=>by omega) (fun k h=>h.kx k) (fun S hS=>⟨_,rfl,p,9,rfl,p1,by decide,by decide,fun r G' r0 r1' pu' bt'=>?_⟩) (fun i G S pu bt hS=>⟨_,rfl,_,rfl,p,nl,ns,rfl,pu,bt _ _ hns nnl,ne,by omega,nam,hS⟩) fun rl rs us fp G2 l8 rok pr npf p2 hrl nrp b2=>gname_i ?_
  · obtain ⟨i,rfl⟩:∃ i:Nat,r=(i:Int):=⟨r.toNat,by omega⟩
    exact hS i G' (by omega) pu' bt'
  dsimp only
  refine ret_i ⟨_,rfl,_,rfl,p,rfl,p2,fun e ev G3 eok he p3 b3=>⟨by show 2≤sizeLine; omega,fun l hl=>?_⟩⟩
  obtain ⟨x2,y2,e2⟩:=p2
  have u:=same_new hl (.lst [.ref rl,ev])
  exact q l rl us rs fp e ev _ rok eok l8 upd_same (u _ _ (b3 _ _ hrl nrp)) ((pr.rkx (Kx.of_but e2 b3 npf)).rkx (Kx.of_same u)) (he.kx (Kx.of_same (fp:=[]) u)) (by simp [npf,Ne.symm nrp]) (p3.same u) (((b1.trans b2).trans b3).same u)
end
end My
namespace My
open PySem L2
def valStr:Value→Option Str
  | .str s _=>some s
  | _=>none
theorem vals_str:∀ {us:List Value} {ss:List Str},us.map valStr=ss.map some→Vals (ss.map V.str) us
  | [],[],_=>.nil
  | [],s :: ss,h=>by cases h
  | u :: us,[],h=>by cases h
  | u :: us,s :: ss,h=>by
    rw [List.map_cons,List.map_cons] at h
    injection h with h1 h2
    refine .cons ?_ (vals_str h2)
    cases u <;> simp [valStr] at h1
    subst h1
    exact ⟨_,rfl⟩
def TupTx (K:PySem.W.Frag) (a:Addr) (ss:List Str):Prop:=(K.lookup a).any (fun o=>o.cls == .type "tuple" && (match o.data with | .seq its _=>its.toList.map valStr == ss.map some && decide (its.size≤100) | _=>false))=true
theorem TupTx.sq {K:PySem.W.Frag} {a:Addr} {ss:List Str} (h:TupTx K a ss) (H:Hp):SqT K H a (ss.map V.str):=by
  unfold TupTx at h
  cases e:K.lookup a with
  | none=>rw [e] at h; cases h
  | some o =>
    rw [e] at h
    simp only [Option.any_some,Bool.and_eq_true,beq_iff_eq] at h
    obtain ⟨h1,h2⟩:=h
    split at h2
    · rename_i its n ed
      simp only [Bool.and_eq_true,beq_iff_eq,decide_eq_true_eq] at h2
      have big:=line1000
      exact .inr ⟨o,its,n,e,h1,ed,by omega,vals_str h2.1⟩
    · cases h2
end My
namespace My
open PySem L2
def odds:List Str:=(["","at","at 1 2 3 4 5 t 6","at 1 2 3 4 5 t 6 7 8","at 1 2 3 4 5 T 6 7","at 1 2 3 4 5 abcdefg 6 7","at 1 2 3 4 t 5 6 7","at 01 2 3 4 5 t 6 7","at 1 2 3 4 5 t 6 -0","at 1 2 3 4 5 t 6 123456789012345678901","  at 1 2 3 4 5 t 6 7","box a 1","queue a 1","sent 1 2 3 4 5 t 6 7","  box"]:List Str)++(["  box a","  box a 1 2","  box A 1","  box a x","  box abcdefg 1","  queue","  queue A","  queue a 01","  queue a 1  2","  queue a 1 ","  sent","   box a 1","  sent 1 2 3 4 5 t 6","  sent 1 2 3 4 5 T 6 7","    box a 1","end","end 1 2 3","end 1 2 3 4 5","end 1 2 3 x","fault 1 2 3 4","fault fault 1 2 3 4","fault Dry 1 2 3 4","fault dry 1 2 3","Empty","empty ","cut 1"," cut","  empty","record 1 2 3 4"]:List Str)
def noL (ws:List Str):Bool:=(enW ws).isNone && (hapW "at" ws).isNone && (decide (ws.take 2≠[("":Str),""]) || ((hapW "sent" (ws.drop 2)).isNone && (wrW (ws.drop 2)).isNone))
theorem odds_no:∀ o∈odds,noL (Txt.split o " ")=true:=by decide +kernel
theorem tk_none {rs:List RcW} {ws:List Str} (h:hapW "at" ws=none) (k:ws.take 2≠[("":Str),""]∨(hapW "sent" (ws.drop 2)=none∧wrW (ws.drop 2)=none)):tkL rs ws=none:=by
  by_cases c:ws.take 2=[("":Str),""]
  · rcases List.eq_nil_or_concat rs with rfl | ⟨rs0,r,e0⟩
    · exact tkL_no h (.inl rfl)
    · rw [List.concat_eq_append] at e0
      subst e0
      obtain ⟨k1,k2⟩:=k.resolve_left fun z=>z c
      rw [tkL_in h c]
      unfold tkI
      rw [k1,k2]
      dsimp only
      split <;> rfl
  · exact tkL_no h (.inr c)
theorem noL_no {ws:List Str} (h:noL ws=true):enW ws=none∧∀ rs,tkL rs ws=none:=by
  unfold noL at h
  simp only [Bool.and_eq_true,Bool.or_eq_true,Option.isNone_iff_eq_none,decide_eq_true_eq] at h
  exact ⟨h.1.1,fun rs=>tk_none h.1.2 h.2⟩
def okL (o:Str):Prop:=(∀ w∈Txt.split o " ",(∀ c∈w.cps.toList,c < 128)∧w.length≤1000)∧o.length≤300∧(Txt.split o " ").length≤200∧10∉o.cps.toList∧Txt.split o " "≠[]
instance (o:Str):Decidable (okL o):=inferInstanceAs (Decidable (_∧_∧_∧_∧_))
theorem okL.ln {o:Str} (h:okL o):LnOk o:=⟨h.1,h.2.1,h.2.2.1,h.2.2.2.1,h.2.2.2.2⟩
theorem odds_ok:∀ o∈odds,okL o:=by decide +kernel
def ends4:List Str:=["cut","empty","end 1 2 -1 0","fault dry 1 2 -1 0"]
theorem ends_ok:∀ o∈ends4,okL o∧(enW (Txt.split o " ")).isSome=true:=by decide +kernel
def more4:List Str:=["cut","","  box a 1","at 1 2 3 4 5 t 6 7"]
theorem more_ok:∀ o∈more4,okL o:=by decide +kernel
def writes2:List Str:=["  box a 1","  queue a"]
theorem writes_ok:∀ o∈writes2,okL o∧enW (Txt.split o " ")=none∧hapW "at" (Txt.split o " ")=none∧(Txt.split o " ").take 2=[("":Str),""]∧hapW "sent" ((Txt.split o " ").drop 2)=none:=by decide +kernel
section
variable {rs:List RcW} {e:En}
abbrev bl (rs:List RcW) (e:En):List Str:=(bookW rs e).map jn
theorem bl_len (rs:List RcW) (e:En):(bl rs e).length=(recW rs).length + 1:=by
  unfold bl bookW
  rw [List.length_map,List.length_append]
  rfl
theorem bl_take {n:Nat} (h:n≤(recW rs).length):(bl rs e).take n=((recW rs).take n).map jn:=by
  unfold bl bookW
  rw [← List.map_take,List.take_append_of_le_length h]
theorem rd_at {n:Nat} (k:∀ r∈rs,r.Ok) (h:n≤(recW rs).length) {rest:List Str}:∃ rs',runW [] ((recW rs).take n)=some rs'∧rdB 0 [] none ((bl rs e).take n++rest)=rdB n rs' none rest:=by
  obtain ⟨rs',z⟩:=runW_take n (run_rs (r0:=[]) k)
  refine ⟨rs',z,?_⟩
  rw [bl_take h,rdB_run (fun ws m=>recW_gw k ws (List.mem_of_mem_take m)) z,List.length_take,Nat.min_eq_left h,Nat.zero_add]
theorem rd_odd {n:Nat} {o:Str} {rest:List Str} (k:∀ r∈rs,r.Ok) (h:n≤(recW rs).length) (h1:enW (Txt.split o " ")=none) (h2:∀ rs,tkL rs (Txt.split o " ")=none):rdB 0 [] none ((bl rs e).take n++o :: rest)=.error (n + 1):=by
  obtain ⟨rs',_,z⟩:=rd_at (e:=e) k h (rest:=o :: rest)
  rw [z,rdB_n h1 (h2 rs')]
theorem rd_end {n:Nat} {o x:Str} {rest:List Str} (k:∀ r∈rs,r.Ok) (h:n≤(recW rs).length) (h1:(enW (Txt.split o " ")).isSome=true):rdB 0 [] none ((bl rs e).take n++o :: x :: rest)=.error (n + 2):=by
  obtain ⟨rs',_,z⟩:=rd_at (e:=e) k h (rest:=o :: x :: rest)
  obtain ⟨e',h1⟩:=Option.isSome_iff_exists.mp h1
  rw [z,rdB_e h1]
  rfl
theorem rd_more {o:Str} (k:∀ r∈rs,r.Ok) (ke:e.Ok):rdB 0 [] none (bl rs e++[o])=.error ((bl rs e).length + 1):=by
  rw [bl_len]
  unfold bl bookW
  rw [List.map_append,List.append_assoc,rdB_run (recW_gw k) (run_rs k)]
  show rdB _ _ none (jn e.ws :: [o])=_
  rw [rdB_e (by rw [(En.gw ke).split]; exact En.rd ke),Nat.zero_add]
  rfl
theorem rd_pre {n:Nat} (k:∀ r∈rs,r.Ok) (h:n≤(recW rs).length):rdB 0 [] none ((bl rs e).take n)=.error (n + 1):=by
  obtain ⟨rs',_,z⟩:=rd_at (e:=e) k h (rest:=[])
  rw [List.append_nil] at z
  rw [z]
  rfl
theorem shape {ws:List Str} (k:∀ r∈rs,r.Ok) (ke:e.Ok) (m:ws∈bookW rs e):(∃ w0 r,ws=w0 :: r∧w0≠"")∨(∃ x:Wr,ws=ind x.ws)∨∃ h:Hap,h.Ok∧ws=ind (h.ws "sent"):=by
  unfold bookW recW at m
  rcases List.mem_append.mp m with m | m
  · obtain ⟨l,ml,mw⟩:=List.mem_flatten.mp m
    obtain ⟨r,mr,rfl⟩:=List.mem_map.mp ml
    unfold RcW.wss at mw
    rcases List.mem_cons.mp mw with rfl | mw
    · exact .inl ⟨_,_,rfl,by decide⟩
    rcases List.mem_append.mp mw with mw | mw
    · obtain ⟨x,mx,rfl⟩:=List.mem_map.mp mw
      exact .inr (.inl ⟨x,rfl⟩)
    · obtain ⟨x,mx,rfl⟩:=List.mem_map.mp mw
      exact .inr (.inr ⟨x,(k r mr).ss x mx,rfl⟩)
  · rw [List.mem_singleton.mp m]
    cases e with
    | one w=>exact .inl ⟨w,[],rfl,by rcases ke with rfl | rfl <;> decide⟩
    | fin ks=>exact .inl ⟨_,_,rfl,by decide⟩
    | flt w ks=>exact .inl ⟨_,_,rfl,by decide⟩
theorem shape_ne {ws:List Str} (k:∀ r∈rs,r.Ok) (ke:e.Ok) (m:ws∈bookW rs e):jn ws≠"":=fun z=>by
  have h3:=(bookW_gw k ke ws m).split
  rw [z,show Txt.split ("":Str) " "=[("":Str)] from by decide +kernel] at h3
  rcases shape k ke m with ⟨w0,r,rfl,n⟩ | ⟨x,rfl⟩ | ⟨x,_,rfl⟩
  · exact n (List.cons.inj h3).1.symm
  · cases (List.cons.inj h3).2
  · cases (List.cons.inj h3).2
theorem wr_no {w0:Str} {r:List Str} (h1:w0≠"queue") (h2:w0≠"box"):wrW (w0 :: r)=none:=by
  cases r with
  | nil=>rfl
  | cons w1 r =>
    show (match numsIn r with
      | none=>none
      | some zs=>if isName w1=true then (if w0="queue" then some (Wr.queue w1 zs) else if w0="box" then (match zs with | [z]=>some (Wr.box w1 z) | _=>none) else none) else none)=none
    cases numsIn r with
    | none=>rfl
    | some zs =>
      dsimp only
      rw [if_neg h1,if_neg h2]
      split <;> rfl
theorem blank_no {ws:List Str} (k:∀ r∈rs,r.Ok) (ke:e.Ok) (m:ws∈bookW rs e):∃ us,("":Str) :: ws=us∧(" ":Str)++jn ws=jn us∧GW us∧enW us=none∧∀ rs,tkL rs us=none:=by
  have gw:=bookW_gw k ke ws m
  refine ⟨_,rfl,?_,?_,en_no (by decide),fun rs'=>tk_none (hap_no (by decide)) ?_⟩
  · cases ws with
    | nil=>exact absurd rfl gw.ne
    | cons w ws =>
      unfold jn
      rw [join_cons]
      refine str_of ?_
      show ((" ":Str).cps++_).toList=((("":Str).cps++(" ":Str).cps)++_).toList
      simp only [Array.toList_append]
      rfl
  · refine ⟨by simp,fun w mw=>?_,?_⟩
    · rcases List.mem_cons.mp mw with rfl | mw
      · exact good_kinds _ (by decide)
      · exact gw.ok w mw
    · rw [List.length_cons]
      have:ws.length≤11:=by
        rcases List.mem_append.mp m with m | m
        · obtain ⟨l,ml,mw⟩:=List.mem_flatten.mp m
          obtain ⟨r,mr,rfl⟩:=List.mem_map.mp ml
          unfold RcW.wss at mw
          rcases List.mem_cons.mp mw with rfl | mw
          · rw [Hap.ws_len (k r mr).h]
            decide
          rcases List.mem_append.mp mw with mw | mw
          · obtain ⟨x,mx,rfl⟩:=List.mem_map.mp mw
            have:=Wr.ws_len ((k r mr).ws x mx)
            show x.ws.length + 2≤11
            omega
          · obtain ⟨x,mx,rfl⟩:=List.mem_map.mp mw
            have:=Hap.ws_len ((k r mr).ss x mx) "sent"
            show (x.ws "sent").length + 2≤11
            omega
        · rw [List.mem_singleton.mp m]
          cases e with
          | one w=>show 1≤11; decide
          | fin ks=>show (ks.map nt).length + 1≤11; rw [List.length_map,ke.1]; decide
          | flt w ks=>show (ks.map nt).length + 2≤11; rw [List.length_map,ke.2.1]; decide
      omega
  · rcases shape k ke m with ⟨w0,r,rfl,n⟩ | ⟨x,rfl⟩ | ⟨x,_,rfl⟩
    · left
      intro z
      have z':[("":Str),w0]=[("":Str),("":Str)]:=z
      injection z' with _ z'
      injection z' with z' _
      exact n z'
    · exact .inr ⟨hap_no (by decide),wr_no (by decide) (by decide)⟩
    · exact .inr ⟨hap_no (by decide),wr_no (by decide) (by decide)⟩
theorem jn_head {w0:Str} {r:List Str}:∃ t,(jn (w0 :: r)).cps.toList=w0.cps.toList++t:=by
  cases r with
  | nil=>exact ⟨[],by rw [List.append_nil]; rfl⟩
  | cons w1 r =>
    unfold jn
    rw [join_cons]
    refine ⟨(" ":Str).cps.toList++(Txt.join " " (w1 :: r)).cps.toList,?_⟩
    show ((w0.cps++(" ":Str).cps)++(Txt.join " " (w1 :: r)).cps).toList=_
    simp
theorem sent_only {ws:List Str} (k:∀ r∈rs,r.Ok) (ke:e.Ok) (m:ws∈bookW rs e) (h:(jn ws).cps.toList.take 7=("  sent ":Str).cps.toList):∃ x:Hap,x.Ok∧ws=ind (x.ws "sent"):=by
  have sp:("  sent ":Str).cps.toList=[32,32,115,101,110,116,32]:=by decide
  rw [sp] at h
  have gw:=bookW_gw k ke ws m
  rcases shape k ke m with ⟨w0,r,rfl,n⟩ | ⟨x,rfl⟩ | ⟨x,xk,rfl⟩
  · exfalso
    obtain ⟨t,ht⟩:=jn_head (w0:=w0) (r:=r)
    rw [ht] at h
    cases q:w0.cps.toList with
    | nil=>exact n (str_of q)
    | cons c cs =>
      rw [q,List.cons_append,List.take_succ_cons] at h
      injection h with h1 _
      exact (gw.ok w0 (by simp)).2.1 (by rw [q,h1]; simp)
  · exfalso
    have:∃ c t,x.ws=c :: t∧(c="box"∨c="queue"):=by
      cases x with
      | box n z=>exact ⟨_,_,rfl,.inl rfl⟩
      | queue n zs=>exact ⟨_,_,rfl,.inr rfl⟩
    obtain ⟨c,t,ex,hc⟩:=this
    rw [ex,← in2 (by simp)] at h
    obtain ⟨u,hu⟩:=jn_head (w0:=c) (r:=t)
    have h':(("  ":Str).cps++(jn (c :: t)).cps).toList.take 7=[32,32,115,101,110,116,32]:=h
    rw [Array.toList_append,hu] at h'
    rcases hc with rfl | rfl
    · rw [show ("  ":Str).cps.toList=[32,32] from by decide,show ("box":Str).cps.toList=[98,111,120] from by decide] at h'
      simp at h'
    · rw [show ("  ":Str).cps.toList=[32,32] from by decide,show ("queue":Str).cps.toList=[113,117,101,117,101] from by decide] at h'
      simp at h'
  · exact ⟨x,xk,rfl⟩
theorem rd_sent {n:Nat} {o:Str} {x:Hap} {rest:List Str} (k:∀ r∈rs,r.Ok) (h:n < (recW rs).length) (xk:x.Ok) (hx:(recW rs)[n]?=some (ind (x.ws "sent"))) (ho:o∈writes2):rdB 0 [] none ((bl rs e).take (n + 1)++o :: rest)=.error (n + 2):=by
  obtain ⟨rs',z1,z⟩:=rd_at (n:=n + 1) (e:=e) k h (rest:=o :: rest)
  obtain ⟨_,h1,h2,h3,h4⟩:=writes_ok o ho
  rw [z,rdB_n h1]
  have ts:(recW rs).take (n + 1)=(recW rs).take n++[ind (x.ws "sent")]:=by rw [List.take_succ,hx]; rfl
  obtain ⟨r1,e1⟩:=runW_take n (run_rs (r0:=[]) k)
  rw [ts,runW_app e1] at z1
  obtain ⟨r2,_,t2,z2⟩:=runW_inv z1
  cases z2
  rcases List.eq_nil_or_concat r1 with rfl | ⟨r0,r,e0⟩
  · rw [tkL_no (hap_ind _) (.inl rfl)] at t2
    cases t2
  · rw [List.concat_eq_append] at e0
    subst e0
    rw [tk_s xk] at t2
    cases t2
    rw [tkL_in h2 h3]
    unfold tkI
    rw [h4]
    dsimp only
    rw [if_neg (by simp)]
    rfl
end
end My
namespace L2
open PySem PySem.Spec PyProof.Rows
theorem psC_expr {X:Cx} {e:Expr} {te:TE} {pos:Pos} (he:PEC X e te) (hs:swapsWith e none pos.line X.env=pure false:=by rfl):PSC X (.Expr e pos) (tDrop te):=by
  intro pins s σ H D I h
  rw [exec_Expr X.env e pos I.quiet hs]
  exact bindA (wpAny_standAt (bindC' (thnC (he pins s σ H _ I h) fun v s1 ⟨x,H1,I1,r1,q1⟩=>toC (wpAny_dropValue ⟨σ,H1,I1,q1⟩))))
end L2
namespace My
open PySem L2
theorem pe_joinK {X:Cx} {o e:Expr} {es:List Expr} {to:TE} {t:TA} {apos cpos:Pos} (K:PySem.W.Frag) (hK:X.K=K) (ho:PE X o to) (ha:PA X (e :: es) t) (hbase:attributeBase o "join" X.env (eval o X.env)=eval o X.env:=by rfl)
    (hfew:((backTo cpos (starEach (e :: es) X.env)).all (fun x=>!x.1) && (backToKw cpos (keywordEach [] X.env)).all (fun x=>x.1.isSome) && decide ((e :: es).length + ([]:List Keyword).length + (if ([]:List Keyword).isEmpty then 0 else 1) < 30))=true:=by rfl)
    (hline:(apos.endLine == cpos.line)=true:=by rfl) (hs:starEach (e :: es) X.env=(false,eval e X.env) :: starEach es X.env:=by rfl) (hplain:(backTo cpos (starEach es X.env)).any (·.1)=false:=by rfl) :
    PE X (.Call (.Attribute o "join" apos) (e :: es) [] cpos) (tBM K "str" (rJoin K) to t):=by
  subst hK
  exact pe_bm PySem.F.plainAttrs_str PySem.F.slot_str_join PySem.F.type_str_join mt_join ho ha hbase hfew hline hs hplain
structure Oth (K:PySem.W.Frag) (mg:Str→Option Value) (C D' CFault CNoMark CNoModel CNoRoom CTooLate:Addr):Prop where
  mF:mg "Fault"=some (.ref CFault)
  mN:mg "NoMark"=some (.ref CNoMark)
  mM:mg "NoModel"=some (.ref CNoModel)
  mR:mg "NoRoom"=some (.ref CNoRoom)
  mT:mg "TooLate"=some (.ref CTooLate)
  mE:mg "MomentError"=some (.ref D')
  no:PySem.W.kitAny K (.ref C) [.ref CFault,.ref CNoMark,.ref CNoModel,.ref CNoRoom,.ref CTooLate]=some false
  yes:PySem.W.kitOne K (.ref C) (.ref C)=some true
  ve:PySem.W.kitOne K (.ref C) (.type "ValueError")=some true
  ex:PySem.W.exmOne K (.ref C) (.ref D')=some true
section
variable {P:Program} {w:World} {K:PySem.W.Frag} {mg:Str→Option Value} {base:Heap} {f fR fIn C D' CFault CNoMark CNoModel CNoRoom CTooLate:Addr} {fd fdR fdIn:FuncData}
seal L2.PS L2.PSs L2.PE L2.PA L2.PT L2.PW L2.PI L2.PG L2.PGs L2.PC L2.PSC L2.PSsC L2.PEC L2.PTC L2.PAC L2.PPs
def spRf:Sp:=fun vs H Q _=>∃ (l:Addr) (n:Nat) (ls:List Str),vs=[.ref l,.int n]∧H l=some (.lst (ls.map V.str))∧(∀ x∈ls,LnOk x)∧ls.length≤100∧ls≠[("":Str)]∧rdB 0 [] none ls=.error n∧∀ H',Same H H'→Q (.bl true) H'
abbrev nRf:List Str:=["_law_lines_here","_law_line","_law_caught","e"]
abbrev pRf:List Str:=["_law_lines_here","_law_line"]
theorem scRf:FnScope nRf pRf (defScope s_law_refused):=⟨rfl,rfl,rfl,by decide +kernel,rfl,by decide +kernel,by decide +kernel⟩
theorem ok_rf (D:Df K mg "_law_refused" s_law_refused pRf f fd) (DR:Df K mg "read_book" s_read_book pRb fR fdR) (GR:FnOkC P w K mg base (CXl P w) 6 fR fdR pRb (spRb C)) (N:NT K mg C D' fIn fdIn) (O:Oth K mg C D' CFault CNoMark CNoModel CNoRoom CTooLate) (B:Bl mg) (MV:mg "ValueError"=none):FnOkC P w K mg base CX0 7 f fd pRf spRf:=by
  have mME:=O.mE
  have mFault:=O.mF
  have mNoMark:=O.mN
  have mNoModel:=O.mM
  have mNoRoom:=O.mR
  have mTooLate:=O.mT
  refine D.F.okC scRf (fun vs H Q E h=>?_) (fun cdv A outer s H vs Q E hr h=>?_)
  · obtain ⟨l,n,ls,rfl,_⟩:=h
    rfl
  obtain ⟨l,n,ls,rfl,hl,ok,l100,nl,er,q⟩:=h
  have r6:Room 6 _:=hr
  have h50:=hu50 hr
  let TT:Addr→Nat→St→Hp→Prop:=fun C' m σ G=>C'=C∧rdB 0 [] none ls=.error m∧Same H G∧σ=[some (.ref l),some (.int n),some .non,none]
  refine ⟨_,pssC_cons (ps_set (i:=2) scRf.nd rfl (Or.inl rfl) pe_non).c
    (pssC_cons (psC_tryL TT (fun _=>pssC_one (psC_expr (peC_callS GR r6 (by rfl) DR.m DR.F.kp DR.b try_passesL (pa_f (pe_joinK K (by rfl) pe_str (pa_n (pv 0) pa_nil)) pa_nil)))) (phsL_as 3 (by rfl) mME scRf.nd rfl rfl (fun _=>pss_one (ps_set (i:=2) scRf.nd rfl (Or.inl rfl) (pv 3))) phsL_nil))
    (pss_cons (ps_if ((pw_or (pt_not (pt_val (pe_callB call_isinstL (by rfl) B.isi boot_isi (pa_n (pv 2) (pa_n (pe_glob (v:=.ref C) (by rfl) N.m rfl) pa_nil))))) (pw_or1 (pt_not (pt_val (pe_callB call_isinstL (by rfl) B.isi boot_isi (pa_n (pv 2) (pa_n (pe_bltn (v:=.ty "ValueError") (by rfl) MV boot_verr0 rfl) pa_nil))))))).pt) (pss_one (ps_ret pe_bl)) pss_nil)
    (pss_one (ps_ret (pe_and (pe_not (pe_callB call_isinstLT (by rfl) B.isi boot_isi (pa_n (pv 2) (pa_tup (pe_tup (pa_n (pe_glob (v:=.ref CFault) (by rfl) mFault rfl) (pa_n (pe_glob (v:=.ref CNoMark) (by rfl) mNoMark rfl) (pa_n (pe_glob (v:=.ref CNoModel) (by rfl) mNoModel rfl) (pa_n (pe_glob (v:=.ref CNoRoom) (by rfl) mNoRoom rfl) (pa_n (pe_glob (v:=.ref CTooLate) (by rfl) mTooLate rfl) pa_nil)))))) pa_nil)))) (pe_one (pe_cmpR op_eq (pe_line N.cl (pv 2) (by rfl)) (pv 1) (nomark _))))))).c),?_⟩
  have big:=line1000
  have lj:=lines_join nl fun x m=>(ok x m).nl
  have js:=lines_jsz ok (by omega)
  have jl:=join_len "\n" ls
  refine seq_i (asg_i (gname_i ?_))
  dsimp only
  refine seq_i ⟨?_,?_⟩
  · refine ⟨rfl,?_⟩
    dsimp only [tCons]
    refine ⟨_,rfl,_,l,ls,rfl,rfl,.inl (SqL.of hl),by omega,?_⟩
    refine ⟨Txt.join "\n" ls,rfl,by omega,by rw [lj]; exact ok,by rw [lj]; omega,fun m H' e sm=>?_,fun rs e H' t rl ev us fp eo=>?_⟩
    · rw [lj] at e
      exact ⟨C,m,rfl,rfl,rfl,e,sm,rfl⟩
    · rw [lj,er] at eo
      cases eo
  · rintro C' m σ' G _ ⟨rfl,e,sm,rfl⟩
    refine .inl ⟨O.ex,fun ea dd h1 h2 hne=>asg_i ⟨_,rfl,gname_i ?_⟩⟩
    dsimp only [dropE,List.set]
    rw [er] at e
    cases e
    have s1:Same G (upd (upd G dd (LD dd n)) ea (XE ea C' dd)):=(same_new h2 _).trans (same_new (by rw [upd_ne (Ne.symm hne)]; exact h1) _)
    have qe:(upd (upd G dd (LD dd n)) ea (XE ea C' dd)) ea=some (XE ea C' dd):=upd_same
    have qd:(upd (upd G dd (LD dd n)) ea (XE ea C' dd)) dd=some (LD dd n):=by rw [upd_ne hne,upd_same]
    refine seq_i ⟨_,rfl,ea,C',dd,n,_,_,true,rfl,rfl,fun _ z=>z,qe,qd,N.cl.x,O.yes,_,rfl,iteF ?_⟩
    refine ⟨_,rfl,ea,C',dd,n,_,_,true,rfl,rfl,fun _ z=>z,qe,qd,N.cl.x,O.ve,_,rfl,iteF ?_⟩
    dsimp only [tNext]
    refine ret_i ⟨_,rfl,by show 5≤sizeLine; omega,fun tp htp=>?_⟩
    have s2:=same_new htp (.tup [.ref CFault,.ref CNoMark,.ref CNoModel,.ref CNoRoom,.ref CTooLate])
    refine ⟨ea,C',dd,n,tp,[CFault,CNoMark,CNoModel,CNoRoom,CTooLate],false,rfl,upd_same,s2 _ _ qe,s2 _ _ qd,N.cl.x,O.no,_,rfl,_,rfl,iteT ?_⟩
    refine ⟨_,rfl,ea,dd,n,rfl,s2 _ _ qe,s2 _ _ qd,_,rfl,rfl,?_⟩
    rw [dint,decide_eq_true (show (n:Int)=n from rfl)]
    exact q _ ((sm.trans s1).trans s2)
def spOd:Sp:=fun vs H Q _=>∃ k:Int,vs=[.int k]∧∀ o H',o∈odds→Same H H'→Q (.str o) H'
abbrev nOd:List Str:=["_law_number","_law_some"]
abbrev pOd:List Str:=["_law_number"]
theorem scOd:FnScope nOd pOd (defScope s_law_odd):=⟨rfl,rfl,rfl,by decide +kernel,rfl,by decide +kernel,by decide +kernel⟩
theorem ok_od (D:Df K mg "_law_odd" s_law_odd pOd f fd):FnOk P w K mg base CX0 1 f fd pOd spOd:=by
  refine D.F.ok scOd (fun vs H Q E h=>?_) (fun cdv A outer s H vs Q E hr h=>?_)
  · obtain ⟨k,rfl,_⟩:=h
    rfl
  obtain ⟨k,rfl,q⟩:=h
  refine ⟨_,pss_cons (ps_set (i:=1) scOd.nd rfl (Or.inl rfl) (pe_lst (pa_c pe_str (pa_c pe_str (pa_c pe_str (pa_c pe_str (pa_c pe_str pa_nil)))))))
    (pss_cons (ps_set (i:=1) scOd.nd rfl (Or.inl rfl) (pe_op op_cat (pv 1) (pe_lst (pa_c pe_str (pa_c pe_str (pa_c pe_str pa_nil))))))
    (pss_cons (ps_set (i:=1) scOd.nd rfl (Or.inl rfl) (pe_op op_cat (pv 1) (pe_lst (pa_c pe_str (pa_c pe_str pa_nil)))))
    (pss_cons (ps_set (i:=1) scOd.nd rfl (Or.inl rfl) (pe_op op_cat (pv 1) (pe_lst (pa_c pe_str (pa_c pe_str (pa_c pe_str (pa_c pe_str (pa_c pe_str pa_nil))))))))
    (pss_cons (ps_set (i:=1) scOd.nd rfl (Or.inl rfl) (pe_op op_cat (pv 1) (pe_lst (pa_c pe_str (pa_c pe_str (pa_c pe_str (pa_c pe_str (pa_c pe_str (pa_c pe_str pa_nil)))))))))
    (pss_cons (ps_set (i:=1) scOd.nd rfl (Or.inl rfl) (pe_op op_cat (pv 1) (pe_lst (pa_c pe_str (pa_c pe_str (pa_c pe_str (pa_c pe_str (pa_c pe_str pa_nil))))))))
    (pss_cons (ps_set (i:=1) scOd.nd rfl (Or.inl rfl) (pe_op op_cat (pv 1) (pe_lst (pa_c pe_str (pa_c pe_str (pa_c pe_str (pa_c pe_str pa_nil)))))))
    (pss_cons (ps_set (i:=1) scOd.nd rfl (Or.inl rfl) (pe_op op_cat (pv 1) (pe_lst (pa_c pe_str (pa_c pe_str (pa_c pe_str (pa_c pe_str (pa_c pe_str pa_nil))))))))
    (pss_cons (ps_set (i:=1) scOd.nd rfl (Or.inl rfl) (pe_op op_cat (pv 1) (pe_lst (pa_c pe_str (pa_c pe_str (pa_c pe_str (pa_c pe_str (pa_c pe_str pa_nil))))))))
    (pss_cons (ps_set (i:=1) scOd.nd rfl (Or.inl rfl) (pe_op op_cat (pv 1) (pe_lst (pa_c pe_str (pa_c pe_str (pa_c pe_str (pa_c pe_str pa_nil)))))))
    (pss_one (ps_ret (pe_ix ix_list (pv 1) (pe_op op_mod (pv 0) pe_int) (fun _ _=>rfl))))))))))))),?_⟩
  have big:=line1000
  have cat:∀ {n:Nat} {xs ys:List V} {G:Hp} {a:Addr} {i:Nat} {σ:St} {R:VK} {ta:TA},σ[i]?=some (some (.ref a))→G a=some (.lst xs)→(∀ (G:Hp) (R:List V→Hp→Prop),R ys G→ta σ G R)→xs.length + ys.length≤100→(∀ l G',Same G G'→G' l=some (.lst (xs++ys))→R (.ref l) G') →
      tOp rCat (tVar i) (tLst ta) σ G R:=fun {n xs ys G a i σ R ta} h1 h2 h3 h4 h5=>by
    refine ⟨_,h1,h3 _ _ ⟨by omega,fun p hp=>?_⟩⟩
    have s1:=same_new hp (.lst ys)
    exact ⟨a,p,xs,ys,rfl,rfl,s1 _ _ h2,upd_same,by omega,fun l hl=>h5 l _ (s1.trans (same_new hl _)) upd_same⟩
  refine seq_i (asg_i ⟨by show 5≤sizeLine; omega,fun p hp=>gname_i ?_⟩)
  dsimp only
  have s0:=same_new hp (.lst ((odds.take 5).map V.str))
  refine seq_i (asg_i (cat (n:=0) rfl upd_same (fun G R h=>h) (by decide) fun l1 G1 g1 h1=>gname_i ?_))
  dsimp only
  refine seq_i (asg_i (cat (n:=0) rfl h1 (fun G R h=>h) (by decide) fun l2 G2 g2 h2=>gname_i ?_))
  dsimp only
  refine seq_i (asg_i (cat (n:=0) rfl h2 (fun G R h=>h) (by decide) fun l3 G3 g3 h3=>gname_i ?_))
  dsimp only
  refine seq_i (asg_i (cat (n:=0) rfl h3 (fun G R h=>h) (by decide) fun l4 G4 g4 h4=>gname_i ?_))
  dsimp only
  refine seq_i (asg_i (cat (n:=0) rfl h4 (fun G R h=>h) (by decide) fun l5 G5 g5 h5=>gname_i ?_))
  dsimp only
  refine seq_i (asg_i (cat (n:=0) rfl h5 (fun G R h=>h) (by decide) fun l6 G6 g6 h6=>gname_i ?_))
  dsimp only
  refine seq_i (asg_i (cat (n:=0) rfl h6 (fun G R h=>h) (by decide) fun l7 G7 g7 h7=>gname_i ?_))
  dsimp only
  refine seq_i (asg_i (cat (n:=0) rfl h7 (fun G R h=>h) (by decide) fun l8 G8 g8 h8=>gname_i ?_))
  dsimp only
  refine seq_i (asg_i (cat (n:=0) rfl h8 (fun G R h=>h) (by decide) fun l9 G9 g9 h9=>gname_i ?_))
  dsimp only
  have hz:G9 l9=some (.lst (odds.map V.str)):=h9
  obtain ⟨v,hv,mv⟩:=at_mod (xs:=odds.map V.str) (by simp [odds]) k
  obtain ⟨o,mo,rfl⟩:=List.mem_map.mp mv
  refine ret_i ⟨_,rfl,_,rfl,_,_,rfl,rfl,(show (0:Int) < 44 by decide),l9,_,_,_,rfl,rfl,SqL.of hz,hv,q o _ mo ?_⟩
  exact (((((((((s0.trans g1).trans g2).trans g3).trans g4).trans g5).trans g6).trans g7).trans g8).trans g9)
end
end My
namespace My
open PySem L2
theorem slice_to7 (x:Str):(Txt.slice x none (some 7)).cps.toList=x.cps.toList.take 7:=by
  have lx:x.cps.toList.length=x.length:=Array.length_toList
  have e:Builtin.Str.strSliceIndices none (some 7) 1 x.length=(List.range (min 7 x.length)).map (0 + ·):=by
    rw [← Nat.sub_zero (min 7 x.length),← sliceRange_one 0 (min 7 x.length)]
    have m:max 0 (min (7:Int) x.length)=((min 7 x.length:Nat):Int):=by omega
    unfold Builtin.Str.strSliceIndices
    simp only [show ¬ ((7:Int) < 0) by decide,show (1:Int) > 0 by decide,if_true,if_false,m]
    rfl
  unfold Txt.slice
  rw [e]
  split
  · rename_i h
    simp at h
    rw [List.take_of_length_le (by omega)]
  · show ((((List.range (min 7 x.length)).map (0 + ·)).filterMap (x.cps[·]?)).toArray).toList=_
    rw [pick_run,List.drop_zero]
    show x.cps.toList.take (min 7 x.length)=_
    rcases Nat.le_total 7 x.length with h | h
    · rw [Nat.min_eq_left h]
    · rw [Nat.min_eq_right h,List.take_of_length_le (by omega),List.take_of_length_le (by omega)]
theorem slice7 {x:Str} (h:Txt.slice x none (some 7)="  sent "):x.cps.toList.take 7=("  sent ":Str).cps.toList:=by
  rw [← h,slice_to7]
section
variable {P:Program} {w:World} {K:PySem.W.Frag} {mg:Str→Option Value} {base:Heap} {f fR fT fO:Addr} {fd fdR fdT fdO:FuncData}
seal L2.PS L2.PSs L2.PE L2.PA L2.PT L2.PW L2.PI L2.PG L2.PGs L2.PC L2.PSC L2.PSsC L2.PEC L2.PTC L2.PAC L2.PPs
theorem ins_i {te:TE} {σ:St} {G:Hp} {R:VK} {l p:Addr} {i n:Nat} {L:List Str} (Po:Str→Prop) (h0:σ[0]?=some (some (.ref l))) (hi:σ[i]?=some (some (.int n))) (hl:G l=some (.lst (L.map V.str))) (nl:l≠p) (ll:L.length≤90)
    (hte:∀ G',Same G G'→∀ S:VK,(∀ o G'',Po o→But p G' G''→Purse G'' p→S (.str o) G'')→te σ G' S)
    (q:∀ o t G',Po o→But p G G'→Purse G' p→G' t=some (.lst ((L.take n++o :: L.drop n).map V.str))→R (.ref t) G') (hp:Purse G p) :
    tOp rCat (tOp rCat (tSl (rSlL K) (tVar 0) tNoPart (tPart (tVar i))) (tLst (tCons te tNil))) (tSl (rSlL K) (tVar 0) (tPart (tVar i)) tNoPart) σ G R:=by
  have big:=line1000
  refine ⟨_,h0,_,hi,(n:Int),rfl,l,_,rfl,SqL.of hl,fun p1 hp1=>?_⟩
  rw [cut_to,← List.map_take]
  have t1:=same_new hp1 (.lst ((L.take n).map V.str))
  have n1:=newp hp hp1
  refine hte _ t1 _ fun o G2 po b2 pu2=>⟨by show 1≤sizeLine; omega,fun p2 hp2=>?_⟩
  have t2:=same_new hp2 (.lst [.str o])
  have e1:=t2 _ _ (b2 _ _ upd_same n1)
  have lt:(L.take n).length≤90:=by rw [List.length_take]; omega
  refine ⟨p1,p2,_,_,rfl,rfl,e1,upd_same,by rw [List.length_map]; show _ + 1≤_; omega,fun p3 hp3=>?_⟩
  have t3:=same_new hp3 (.lst ((L.take n).map V.str++[.str o]))
  have hl3:=t3 _ _ (t2 _ _ (b2 _ _ (t1 _ _ hl) nl))
  refine ⟨_,h0,_,hi,(n:Int),rfl,l,_,rfl,SqL.of hl3,fun p4 hp4=>?_⟩
  rw [cut_from,← List.map_drop]
  have t4:=same_new hp4 (.lst ((L.drop n).map V.str))
  refine ⟨p3,p4,_,_,rfl,rfl,t4 _ _ upd_same,upd_same,by rw [List.length_append,List.length_map,List.length_map,List.length_drop]; show _ + 1 + _≤_; omega,fun p5 hp5=>?_⟩
  refine q o p5 _ po ?_ ((((pu2.same t2).same t3).same t4).same (same_new hp5 _)) (by rw [upd_same]; simp)
  exact ((((But.of_same t1).trans b2).same t2).same t3).same (t4.trans (same_new hp5 _))
def spGd:Sp:=fun vs H Q _=>∃ (l p:Addr) (rs:List RcW) (e:En),vs=[.ref l,.ref p]∧H l=some (.lst ((bl rs e).map V.str))∧Purse H p∧(∀ r∈rs,r.Ok)∧e.Ok∧rs.length≤8∧∀ H',Purse H' p→But p H H'→Q (.bl true) H'
abbrev nGd:List Str:=["_law_lines_here","_law_purse_here","_law_at","_law_sort","_law_odd_here","_law_endings","_law_more","_law_rows"]
abbrev pGd:List Str:=["_law_lines_here","_law_purse_here"]
theorem scGd:FnScope nGd pGd (defScope s_law_good):=⟨rfl,rfl,rfl,by decide +kernel,rfl,by decide +kernel,by decide +kernel⟩
theorem ndGd:((["_law_k"]:List Str)++nGd).Nodup:=by decide +kernel
theorem ok_gd (D:Df K mg "_law_good" s_law_good pGd f fd) (DR:Df K mg "_law_refused" s_law_refused pRf fR fdR) (GR:FnOkC P w K mg base CX0 7 fR fdR pRf spRf) (DT:Df K mg "_law_take" s_law_take pT fT fdT) (DOd:Df K mg "_law_odd" s_law_odd pOd fO fdO) (B:Bl mg):FnOkC P w K mg base CX0 8 f fd pGd spGd:=by
  have GT:FnOk P w K mg base CX0 1 fT fdT pT spTake:=ok_take DT B
  have GOd:FnOk P w K mg base CX0 1 fO fdO pOd spOd:=ok_od DOd
  refine D.F.okC scGd (fun vs H Q E h=>?_) (fun cdv A outer s H vs Q E hr h=>?_)
  · obtain ⟨l,p,rs,e,rfl,_⟩:=h
    rfl
  obtain ⟨l,p,rs,e,rfl,hl,hp,rok,eok,l8,q⟩:=h
  have r7:Room 7 _:=hr
  have r1:Room 1 _:=r7.mono (by omega)
  have h50:=hu50 hr
  refine ⟨_,pssC_cons (ps_set (i:=2) scGd.nd rfl (Or.inl rfl) (pe_op op_mod (pe_call GT r1 (by rfl) DT.m DT.F.kp DT.b .nil pass0 (pa_n (pv 1) (pa_c pe_int pa_nil))) (pe_callB (call_lenK K (by rfl)) (by rfl) B.len PySem.boot_len (pa_n (pv 0) pa_nil)))).c
    (pssC_cons (ps_set (i:=3) scGd.nd rfl (Or.inl rfl) (pe_call GT r1 (by rfl) DT.m DT.F.kp DT.b .nil pass0 (pa_n (pv 1) (pa_c pe_int pa_nil)))).c
    (pssC_cons (ps_set (i:=4) scGd.nd rfl (Or.inl rfl) (pe_call GOd r1 (by rfl) DOd.m DOd.F.kp DOd.b .nil pass0 (pa_f (pe_call GT r1 (by rfl) DT.m DT.F.kp DT.b .nil pass0 (pa_n (pv 1) (pa_c pe_int pa_nil))) pa_nil))).c
    (pssC_cons (psC_if (pt_cmpR op_eq (pv 3) pe_int (nomark _)) (pssC_cons (ps_set (i:=5) scGd.nd rfl (Or.inl rfl) (pe_lst (pa_c pe_str (pa_c pe_str (pa_c pe_str (pa_c pe_str pa_nil)))))).c
    (pssC_one (psC_ret (peC_call GR r7 (by rfl) DR.m DR.F.kp DR.b .nil pass0 (pa_b (pe_op op_cat (pe_op op_cat (pe_slice sl_list (pv 0) po_none (po_some (pv 2))) (pe_lst (pa_s (pe_ix ix_list (pv 5) (pe_call GT r1 (by rfl) DT.m DT.F.kp DT.b .nil pass0 (pa_n (pv 1) (pa_c pe_int pa_nil))) (fun _ _=>rfl)) pa_nil))) (pe_slice sl_list (pv 0) (po_some (pv 2)) po_none)) (pa_b (pe_op op_add (pv 2) pe_int) pa_nil)))))) pss_nil.c)
    (pssC_cons (psC_if (pt_cmpR op_eq (pv 3) pe_int (nomark _)) (pssC_one (psC_ret (peC_call GR r7 (by rfl) DR.m DR.F.kp DR.b .nil pass0 (pa_b (pe_op op_cat (pe_op op_cat (pe_slice sl_list (pv 0) po_none (po_some (pv 2))) (pe_lst (pa_b (pe_op op_add_str pe_str (pe_ix ix_list (pv 0) (pv 2) (fun _ _=>rfl))) pa_nil))) (pe_slice sl_list (pv 0) (po_some (pv 2)) po_none)) (pa_b (pe_op op_add (pv 2) pe_int) pa_nil))))) pss_nil.c)
    (pssC_cons (psC_if (pt_cmpR op_eq (pv 3) pe_int (nomark _)) (pssC_cons (ps_set (i:=6) scGd.nd rfl (Or.inl rfl) (pe_ix ix_list (pe_lst (pa_c pe_str (pa_c pe_str (pa_c pe_str (pa_c pe_str pa_nil))))) (pe_call GT r1 (by rfl) DT.m DT.F.kp DT.b .nil pass0 (pa_n (pv 1) (pa_c pe_int pa_nil))) (fun _ _=>rfl))).c
    (pssC_one (psC_ret (peC_call GR r7 (by rfl) DR.m DR.F.kp DR.b .nil pass0 (pa_b (pe_op op_cat (pv 0) (pe_lst (pa_n (pv 6) pa_nil))) (pa_b (pe_op op_add (pe_callB (call_lenK K (by rfl)) (by rfl) B.len PySem.boot_len (pa_n (pv 0) pa_nil)) pe_int) pa_nil)))))) pss_nil.c)
    (pssC_cons (ps_comp (i:=7) ["_law_k"] (CompOk.open (NN:=nGd) (N:=nGd) (sc:=defScope s_law_good) rfl rfl (by decide +kernel) rfl (by decide +kernel) (by decide +kernel) rfl (by decide +kernel)) rfl scGd.nd rfl (Or.inl rfl) (pi_range1 (by rfl) B.range (pa_f (pe_callB (call_lenK K (by rfl)) (by rfl) B.len PySem.boot_len (pa_n (pv 0) pa_nil)) pa_nil)) (fun _ _ _ _=>pg_name (i:=0) ndGd rfl (Or.inl rfl)) (fun _ _ _ _=>pts_one (pt_cmpR op_eq (pe_slice sl_str (pe_ix (ix_listK K (by rfl)) (pv 1) (pv 0) (fun _ _=>rfl)) po_none (po_some pe_int)) pe_str (nomark _))) (fun _ _ _ _=>pe_op op_add (pv 0) pe_int)).c
    (pssC_cons (psC_if ((pw_and (pt_cmpR op_eq (pv 3) pe_int (nomark _)) (pw_and1 (pt_cmpR (op_neL h50) (pv 7) (pe_lst pa_nil) (nomark _)))).pt) (pssC_cons (ps_set (i:=2) scGd.nd rfl (Or.inl rfl) (pe_ix ix_list (pv 7) (pe_call GT r1 (by rfl) DT.m DT.F.kp DT.b .nil pass0 (pa_n (pv 1) (pa_f (pe_callB (call_lenK K (by rfl)) (by rfl) B.len PySem.boot_len (pa_n (pv 7) pa_nil)) pa_nil))) (fun _ _=>rfl))).c
    (pssC_one (psC_ret (peC_call GR r7 (by rfl) DR.m DR.F.kp DR.b .nil pass0 (pa_b (pe_op op_cat (pe_op op_cat (pe_slice sl_list (pv 0) po_none (po_some (pv 2))) (pe_lst (pa_s (pe_ix ix_list (pe_lst (pa_c pe_str (pa_c pe_str pa_nil))) (pe_call GT r1 (by rfl) DT.m DT.F.kp DT.b .nil pass0 (pa_n (pv 1) (pa_c pe_int pa_nil))) (fun _ _=>rfl)) pa_nil))) (pe_slice sl_list (pv 0) (po_some (pv 2)) po_none)) (pa_b (pe_op op_add (pv 2) pe_int) pa_nil)))))) pss_nil.c)
    (pssC_one (psC_ret (peC_call GR r7 (by rfl) DR.m DR.F.kp DR.b .nil pass0 (pa_b (pe_op op_cat (pe_op op_cat (pe_slice sl_list (pv 0) po_none (po_some (pv 2))) (pe_lst (pa_n (pv 4) pa_nil))) (pe_slice sl_list (pv 0) (po_some (pv 2)) po_none)) (pa_b (pe_op op_add (pv 2) pe_int) pa_nil)))))))))))),?_⟩
  have big:=line1000
  have nlp:l≠p:=fun z=>by
    obtain ⟨x,y,ep⟩:=hp
    rw [z,ep] at hl
    have:=congrArg (fun o:Option HO=>match o with | some (.lst (.str _ :: _))=>true | _=>false) hl
    have bl0:(bl rs e)≠[]:=fun z=>by have:=bl_len rs e; rw [z] at this; cases this
    cases bb:bl rs e with
    | nil=>exact bl0 bb
    | cons a t=>rw [bb] at this; cases this
  have bll:=bl_len rs e
  have rl:=recW_len rok
  have blln:∀ x∈bl rs e,LnOk x:=fun x mx=>by
    obtain ⟨y,my,rfl⟩:=List.mem_map.mp mx
    exact (bookW_gw rok eok y my).ln
  have bl49:(bl rs e).length≤49:=by omega
  have refi:∀ {n m:Nat} {o:Str} {t:Addr} {G:Hp},LnOk o→G t=some (.lst (((bl rs e).take n++o :: (bl rs e).drop n).map V.str))→rdB 0 [] none ((bl rs e).take n++o :: (bl rs e).drop n)=.error m→Purse G p→But p H G→spRf [.ref t,.int m] G Q E0:=fun {n m o t G} ok ht er pu bt=>by
    have ln:((bl rs e).take n++o :: (bl rs e).drop n).length=(bl rs e).length + 1:=by
      rw [List.length_append,List.length_cons,List.length_take,List.length_drop]
      omega
    refine ⟨t,m,_,rfl,ht,fun x mx=>?_,by rw [ln]; omega,fun z=>?_,er,fun H' s'=>q H' (pu.same s') (bt.same s')⟩
    · rcases List.mem_append.mp mx with mx | mx
      · exact blln x (List.mem_of_mem_take mx)
      · rcases List.mem_cons.mp mx with rfl | mx
        · exact ok
        · exact blln x (List.mem_of_mem_drop mx)
    · rw [z] at ln
      have:(bl rs e).length=(recW rs).length + 1:=bll
      have l1:[("":Str)].length=1:=rfl
      omega
  refine seq_i (asg_i ⟨_,rfl,p,4000,rfl,hp,by decide,by decide,fun a0 G1 a00 a01 p1 b1=>?_⟩)
  have hl1:=b1 _ _ hl nlp
  refine ⟨_,rfl,l,_,rfl,.inl (SqL.of hl1),_,_,rfl,rfl,by rw [List.length_map]; omega,gname_i ?_⟩
  dsimp only
  rw [List.length_map]
  obtain ⟨n,hn,nl⟩:∃ n:Nat,a0 % ((bl rs e).length:Int)=(n:Int)∧n≤(recW rs).length:=by
    have h1:=Int.emod_nonneg a0 (show ((bl rs e).length:Int)≠0 by omega)
    have h2:=Int.emod_lt_of_pos a0 (show (0:Int) < ((bl rs e).length:Int) by omega)
    exact ⟨(a0 % ((bl rs e).length:Int)).toNat,by omega,by omega⟩
  rw [hn]
  refine seq_i (asg_i ⟨_,rfl,p,6,rfl,p1,by decide,by decide,fun so G2 so0 so1 p2 b2=>gname_i ?_⟩)
  dsimp only
  refine seq_i (asg_i ⟨_,rfl,p,44,rfl,p2,by decide,by decide,fun k G3 k0 k1 p3 b3=>⟨k,rfl,fun o G4 mo s4=>gname_i ?_⟩⟩)
  dsimp only
  have b4:But p H G4:=((b1.trans b2).trans b3).same s4
  have p4:=p3.same s4
  have hl4:=b4 _ _ hl nlp
  clear b1 b2 b3 s4 p1 p2 p3 hl1 hn
  have fin:∀ {u5 u6 u7:Option V} {G:Hp},But p H G→Purse G p→G l=some (.lst ((bl rs e).map V.str))→tRet (tCall spRf [] E0 (tCons (tOp rCat (tOp rCat (tSl (rSlL K) (tVar 0) tNoPart (tPart (tVar 2))) (tLst (tCons (tVar 4) tNil))) (tSl (rSlL K) (tVar 0) (tPart (tVar 2)) tNoPart)) (tCons (tOp (rI0 fun i j=>V.int (i + j)) (tVar 2) (tC (V.int 1))) tNil))) {nx:=fun _ H'=>Q .non H',rt:=Q} [some (.ref l),some (.ref p),some (.int n),some (.int so),some (.str o),u5,u6,u7] G:=fun {u5 u6 u7 G} bt pu hl=>by
    refine ret_i (ins_i (i:=2) (n:=n) (L:=bl rs e) (fun x=>x=o) rfl rfl hl nlp (by omega) (fun G' sG S hS=>⟨_,rfl,hS o G' rfl (But.refl _ _) (pu.same sG)⟩) (fun o' t G' ho bt' pu' ht=>?_) pu)
    subst ho
    obtain ⟨h1,h2⟩:=noL_no (odds_no _ mo)
    refine ⟨_,rfl,_,_,rfl,rfl,?_⟩
    exact refi (n:=n) (m:=n + 1) (odds_ok _ mo).ln ht (rd_odd rok nl h1 h2) pu' (bt.trans bt')
  refine seq_i ⟨_,rfl,rfl,_,rfl,?_⟩
  rw [dint]
  by_cases c0:so=0
  · rw [decide_eq_true c0]
    refine iteT (seq_i (asg_i ⟨by show 4≤sizeLine; omega,fun el hel=>gname_i ?_⟩))
    dsimp only
    have te:=same_new hel (.lst (ends4.map V.str))
    have nel:=newp p4 hel
    refine ret_i (ins_i (i:=2) (n:=n) (L:=bl rs e) (fun x=>x∈ends4) rfl rfl (te _ _ hl4) nlp (by omega) (fun G' sG S hS=>⟨_,rfl,_,rfl,p,4,rfl,(p4.same te).same sG,by decide,by decide,fun j G'' j0 j1 pu' bt'=>?_⟩) (fun o' t G' ho bt' pu' ht=>?_) (p4.same te))
    · obtain ⟨j,rfl⟩:∃ i:Nat,j=(i:Int):=⟨j.toNat,by omega⟩
      have jl:j < ends4.length:=by show j < 4; omega
      exact ⟨el,_,(j:Int),.str ends4[j],rfl,rfl,SqL.of (bt' _ _ (sG _ _ upd_same) nel),atI_nat (show (ends4.map V.str)[j]?=some (.str ends4[j]) by rw [List.getElem?_map,List.getElem?_eq_getElem jl]; rfl),hS _ G'' (List.getElem_mem jl) bt' pu'⟩
    · refine ⟨_,rfl,_,_,rfl,rfl,?_⟩
      obtain ⟨o1,o2⟩:=ends_ok o' ho
      refine refi (n:=n) (m:=n + 2) o1.ln ht ?_ pu' ((b4.same te).trans bt')
      rw [List.drop_eq_getElem_cons (show n < (bl rs e).length by omega)]
      exact rd_end rok nl o2
  rw [decide_eq_false c0]
  refine iteF ?_
  dsimp only [tNext]
  refine seq_i ⟨_,rfl,rfl,_,rfl,?_⟩
  rw [dint]
  by_cases c1:so=1
  · rw [decide_eq_true c1]
    have nbl:n < (bookW rs e).length:=by
      have:(bl rs e).length=(bookW rs e).length:=List.length_map ..
      omega
    have hw:(bl rs e)[n]?=some (jn (bookW rs e)[n]):=by rw [List.getElem?_map,List.getElem?_eq_getElem nbl]; rfl
    obtain ⟨us,_,hj,gu,e1,e2⟩:=blank_no rok eok (List.getElem_mem nbl)
    have lj:=(bookW_gw rok eok _ (List.getElem_mem nbl)).ln.len
    refine iteT (ret_i (ins_i (i:=2) (n:=n) (L:=bl rs e) (fun x=>x=jn us) rfl rfl hl4 nlp (by omega) (fun G' sG S hS=>⟨_,rfl,_,rfl,l,_,(n:Int),_,rfl,rfl,SqL.of (sG _ _ hl4),atI_nat (by rw [List.getElem?_map,hw]; rfl),_,_,rfl,rfl,?_,?_⟩) (fun o' t G' ho bt' pu' ht=>?_) p4))
    · have:(" ":Str).length=1:=by decide
      rw [this]
      omega
    · rw [hj]
      exact hS _ G' rfl (But.refl _ _) (p4.same sG)
    · subst ho
      refine ⟨_,rfl,_,_,rfl,rfl,?_⟩
      exact refi (n:=n) (m:=n + 1) gu.ln ht (rd_odd rok nl (by rw [gu.split]; exact e1) (by rw [gu.split]; exact e2)) pu' (b4.trans bt')
  rw [decide_eq_false c1]
  refine iteF ?_
  dsimp only [tNext]
  refine seq_i ⟨_,rfl,rfl,_,rfl,?_⟩
  rw [dint]
  by_cases c2:so=2
  · rw [decide_eq_true c2]
    refine iteT (seq_i (asg_i ⟨by show 4≤sizeLine; omega,fun el hel=>?_⟩))
    have te:=same_new hel (.lst (more4.map V.str))
    have nel:=newp p4 hel
    refine ⟨_,rfl,p,4,rfl,p4.same te,by decide,by decide,fun j G5 j0 j1 p5 b5=>?_⟩
    obtain ⟨j,rfl⟩:∃ i:Nat,j=(i:Int):=⟨j.toNat,by omega⟩
    have jl:j < more4.length:=by show j < 4; omega
    have hl5:=b5 _ _ (te _ _ hl4) nlp
    refine ⟨el,_,(j:Int),.str more4[j],rfl,rfl,SqL.of (b5 _ _ upd_same nel),atI_nat (show (more4.map V.str)[j]?=some (.str more4[j]) by rw [List.getElem?_map,List.getElem?_eq_getElem jl]; rfl),gname_i ?_⟩
    dsimp only
    refine ret_i ⟨_,rfl,_,rfl,by show 1≤sizeLine; omega,fun t1 ht1=>?_⟩
    have u1:=same_new ht1 (.lst [.str more4[j]])
    refine ⟨l,t1,_,_,rfl,rfl,u1 _ _ hl5,upd_same,by rw [List.length_map]; show _ + 1≤_; omega,fun t2 ht2=>?_⟩
    have u2:=same_new ht2 (.lst ((bl rs e).map V.str++[.str more4[j]]))
    have u:=u1.trans u2
    refine ⟨_,rfl,l,_,rfl,.inl (SqL.of (u _ _ hl5)),_,_,rfl,rfl,?_⟩
    have bt:But p H _:=((b4.same te).trans b5).same u
    rw [List.length_map]
    refine ⟨t2,(bl rs e).length + 1,bl rs e++[more4[j]],rfl,by rw [upd_same]; simp,fun x mx=>?_,by rw [List.length_append]; show _ + 1≤_; omega,fun z=>?_,rd_more rok eok,fun H' s'=>q H' ((p5.same u).same s') (bt.same s')⟩
    · rcases List.mem_append.mp mx with mx | mx
      · exact blln x mx
      · rw [List.mem_singleton.mp mx]
        exact (more_ok _ (List.getElem_mem jl)).ln
    · have:=congrArg List.length z
      rw [List.length_append] at this
      have l1:[more4[j]].length=1:=rfl
      have l2:[("":Str)].length=1:=rfl
      omega
  rw [decide_eq_false c2]
  refine iteF ?_
  dsimp only [tNext]
  refine seq_i (asg_i (comp_rngT (fun m G=>m=(bl rs e).length∧G=G4) (fun R hR=>⟨_,rfl,l,_,rfl,.inl (SqL.of hl4),?_⟩) (fun m G h=>by omega) (fun m G0 i ys G=>G=G4∧∃ ks:List Nat,ys=ks.map (fun k=>V.int ((k + 1:Nat):Int))∧ks.length≤i∧∀ k∈ks,∃ x,(bl rs e)[k]?=some x∧Txt.slice x none (some 7)="  sent ") ?_ ?_ ?_ ?_))
  · rw [List.length_map]
    exact hR _ _ ⟨rfl,rfl⟩
  · rintro m G ⟨rfl,rfl⟩
    exact ⟨rfl,[],rfl,Nat.zero_le _,fun k mk=>by cases mk⟩
  · rintro m G0 ⟨rfl,rfl⟩ i ys G hi ⟨rfl,ks,rfl,lk,_⟩
    rw [List.length_map]
    omega
  · rintro m G0 ⟨rfl,rfl⟩ i ys G hi ⟨rfl,ks,rfl,lk,hk⟩
    refine gname_i ⟨rfl,?_⟩
    have hx:(bl rs e)[i]?=some (bl rs e)[i]:=List.getElem?_eq_getElem hi
    have lx:=(blln _ (List.getElem_mem hi)).len
    refine ⟨_,rfl,_,rfl,l,_,_,.str (bl rs e)[i],rfl,rfl,SqL.of hl4,?_,7,rfl,_,rfl,by omega,rfl,_,rfl,?_⟩
    · rw [Int.zero_add]
      exact atI_nat (by rw [List.getElem?_map,hx]; rfl)
    rw [dstr]
    by_cases cs:Txt.slice (bl rs e)[i] none (some 7)="  sent "
    · rw [decide_eq_true cs]
      refine iteT ⟨_,rfl,_,_,rfl,rfl,rfl,ks++[i],?_,by rw [List.length_append]; show _ + 1≤_; omega,fun k mk=>?_⟩
      · rw [List.map_append,Int.zero_add]
        rfl
      · rcases List.mem_append.mp mk with mk | mk
        · exact hk k mk
        · rw [List.mem_singleton.mp mk]
          exact ⟨_,hx,cs⟩
    · rw [decide_eq_false cs]
      exact iteF ⟨rfl,ks,rfl,by omega,hk⟩
  rintro m G0 ⟨rfl,rfl⟩ ys G ⟨rfl,ks,rfl,lk,hk⟩ t5 ht5
  refine gname_i ?_
  dsimp only
  have u5:=same_new ht5 (.lst (ks.map fun k=>V.int ((k + 1:Nat):Int)))
  have nt5:=newp p4 ht5
  have hl5:=u5 _ _ hl4
  have p5:=p4.same u5
  have b5:=b4.same u5
  refine seq_i ⟨_,rfl,rfl,_,rfl,?_⟩
  rw [dint]
  by_cases c3:so=3
  · rw [decide_eq_true c3]
    refine iteT ⟨_,rfl,Nat.zero_le _,fun t6 ht6=>?_⟩
    have u6:=same_new ht6 (.lst [])
    have e5:=u6 _ _ (upd_same (H:=G) (a:=t5) (o:=.lst (ks.map fun k=>V.int ((k + 1:Nat):Int))))
    refine ⟨t5,t6,_,rfl,rfl,e5,upd_same,_,rfl,?_⟩
    cases ks with
    | nil=>exact iteF (fin (b5.same u6) (p5.same u6) (u6 _ _ hl5))
    | cons k0 ks =>
      refine iteT ?_
      have b6:=b5.same u6
      have p6:=p5.same u6
      have hl6:=u6 _ _ hl5
      refine seq_i (asg_i ⟨_,rfl,_,rfl,_,rfl,t5,_,rfl,.inl (SqL.of e5),p,((k0 :: ks).length:Int),by rw [List.length_map]; rfl,p6,by rw [List.length_cons]; omega,by rw [List.length_cons] at lk ⊢; omega,fun j G7 j0 j1 p7 b7=>?_⟩)
      obtain ⟨j,rfl⟩:∃ i:Nat,j=(i:Int):=⟨j.toNat,by omega⟩
      have jl:j < (k0 :: ks).length:=by omega
      obtain ⟨x,hx,sx⟩:=hk _ (List.getElem_mem jl)
      generalize hq:(k0 :: ks)[j]=qn at hx
      refine ⟨t5,_,(j:Int),.int ((qn + 1:Nat):Int),rfl,rfl,SqL.of (b7 _ _ e5 nt5),atI_nat (by rw [List.getElem?_map,List.getElem?_eq_getElem jl,hq]; rfl),gname_i ?_⟩
      dsimp only
      have hl7:=b7 _ _ hl6 nlp
      have b7':=b6.trans b7
      -- the line is what was sent
      have ql:qn < (bookW rs e).length:=by
        have:=(List.getElem?_eq_some_iff.mp hx).1
        rwa [List.length_map] at this
      have ex:x=jn (bookW rs e)[qn]:=by
        rw [List.getElem?_map,List.getElem?_eq_getElem ql] at hx
        exact (Option.some.inj hx).symm
      subst ex
      obtain ⟨h,hok,hw⟩:=sent_only rok eok (List.getElem_mem ql) (slice7 sx)
      have qr:qn < (recW rs).length:=by
        rcases Nat.lt_or_ge qn (recW rs).length with z | z
        · exact z
        · exfalso
          have h1:(recW rs++[e.ws])[qn]?=some (bookW rs e)[qn]:=List.getElem?_eq_getElem ql
          rw [List.getElem?_append_right z] at h1
          have h2:=List.mem_singleton.mp (List.mem_of_getElem? h1)
          rw [h2] at hw
          have:=En.rd eok
          rw [hw,en_ind] at this
          cases this
      have hr:(recW rs)[qn]?=some (ind (h.ws "sent")):=by
        have h1:(recW rs++[e.ws])[qn]?=some (bookW rs e)[qn]:=List.getElem?_eq_getElem ql
        rw [List.getElem?_append_left qr] at h1
        rw [h1,hw]
      refine ret_i (ins_i (i:=2) (n:=qn + 1) (L:=bl rs e) (fun x=>x∈writes2) rfl rfl hl7 nlp (by omega) (fun G' sG S hS=>⟨by show 2≤sizeLine; omega,fun el hel=>?_⟩) (fun o' t G' ho bt' pu' ht=>?_) p7)
      · have te:=same_new hel (.lst (writes2.map V.str))
        have pg:=p7.same sG
        have nel:=newp pg hel
        refine ⟨_,rfl,p,2,rfl,pg.same te,by decide,by decide,fun j G'' j0 j1 pu' bt'=>?_⟩
        obtain ⟨j,rfl⟩:∃ i:Nat,j=(i:Int):=⟨j.toNat,by omega⟩
        have jl:j < writes2.length:=by show j < 2; omega
        exact ⟨el,_,(j:Int),.str writes2[j],rfl,rfl,SqL.of (bt' _ _ upd_same nel),atI_nat (show (writes2.map V.str)[j]?=some (.str writes2[j]) by rw [List.getElem?_map,List.getElem?_eq_getElem jl]; rfl),hS _ G'' (List.getElem_mem jl) ((But.of_same te).trans bt') pu'⟩
      · refine ⟨_,rfl,_,_,rfl,rfl,?_⟩
        exact refi (n:=qn + 1) (m:=qn + 2) (writes_ok o' ho).1.ln ht (rd_sent rok qr hok hr ho) pu' (b7'.trans bt')
  · rw [decide_eq_false c3]
    exact iteF (iteF (fin b5 p5 hl5))
end
end My
namespace My
open PySem L2
section
variable {P:Program} {w:World} {K:PySem.W.Frag} {mg:Str→Option Value} {base:Heap} {f fP fB fLl fG fR:Addr} {fd fdP fdB fdLl fdG fdR:FuncData}
seal L2.PS L2.PSs L2.PE L2.PA L2.PT L2.PW L2.PI L2.PG L2.PGs L2.PC L2.PSC L2.PSsC L2.PEC L2.PTC L2.PAC L2.PPs
abbrev nL:List Str:=["_law_script","_law_purse_here","_law_records","_law_ending_here","_law_lines_here","_law_k","_law_many"]
abbrev pL:List Str:=["_law_script"]
theorem scL:FnScope nL pL (defScope s_law):=⟨rfl,rfl,rfl,by decide +kernel,rfl,by decide +kernel,by decide +kernel⟩
def spLaw (K:PySem.W.Frag):Sp:=fun vs H Q _=>∃ (a:Addr) (ns:List Int),vs=[.ref a]∧SqL K H a (ns.map V.int)∧ns.length≤63∧(∀ x∈ns,Builtin.Int.intBits x≤1048576)∧∀ H',Q (.bl true) H'
theorem ok_law (D:Df K mg "law" s_law pL f fd) (DP:Df K mg "_law_purse" s_law_purse pP fP fdP) (DB:Df K mg "_law_book" s_law_book pLb fB fdB) (GB:FnOk P w K mg base CX0 5 fB fdB pLb spLb) (DLl:Df K mg "_law_lines" s_law_lines pLl fLl fdLl) (GLl:FnOk P w K mg base CX0 3 fLl fdLl pLl spLl)
    (DG:Df K mg "_law_good" s_law_good pGd fG fdG) (GG:FnOkC P w K mg base CX0 8 fG fdG pGd spGd) (DR:Df K mg "_law_refused" s_law_refused pRf fR fdR) (GR:FnOkC P w K mg base CX0 7 fR fdR pRf spRf) (B:Bl mg):FnOkC P w K mg base CX0 9 f fd pL (spLaw K):=by
  have GP:FnOk P w K mg base CX0 1 fP fdP pP (spPurse K):=ok_purse DP B
  refine D.F.okC scL (fun vs H Q E h=>?_) (fun cdv A outer s H vs Q E hr h=>?_)
  · obtain ⟨a,ns,rfl,_⟩:=h
    rfl
  obtain ⟨a,ns,rfl,hS,hlen,hbits,q⟩:=h
  have r1:Room 1 _:=hr.mono (by decide)
  have r3:Room 3 _:=hr.mono (by decide)
  have r5:Room 5 _:=hr.mono (by decide)
  have r7:Room 7 _:=hr.mono (by decide)
  have r8:Room 8 _:=hr.mono (by decide)
  refine ⟨_,pssC_cons (ps_set (i:=1) scL.nd rfl (Or.inl rfl) (pe_call GP r1 (by rfl) DP.m DP.F.kp DP.b .nil pass0 (pa_n (pv 0) pa_nil))).c
    (pssC_cons (ps_asg (pe_call GB r5 (by rfl) DB.m DB.F.kp DB.b .nil pass0 (pa_n (pv 1) pa_nil)) (pg_lst rfl (pgs_cons (pg_name (i:=2) scL.nd rfl (Or.inl rfl)) (pgs_cons (pg_name (i:=3) scL.nd rfl (Or.inl rfl)) pgs_nil)))).c
    (pssC_cons (ps_set (i:=4) scL.nd rfl (Or.inl rfl) (pe_call GLl r3 (by rfl) DLl.m DLl.F.kp DLl.b .nil pass0 (pa_n (pv 2) (pa_n (pv 3) pa_nil)))).c
    (pssC_cons (psC_for PassesOwn.never rfl (pi_range1 (by rfl) B.range (pa_c pe_int pa_nil)) (pg_name (i:=5) scL.nd rfl (Or.inl rfl)) (pssC_one (psC_ifC (ptC_not (ptC_val (peC_call GG r8 (by rfl) DG.m DG.F.kp DG.b .nil pass0 (pa_n (pv 4) (pa_n (pv 1) pa_nil))))) ((pss_one (ps_ret pe_bl)).c) pss_nil.c)))
    (pssC_cons (psC_for PassesOwn.never rfl (pi_range2 (by rfl) B.range (pa_c pe_int (pa_f (pe_callB (call_lenK K (by rfl)) (by rfl) B.len PySem.boot_len (pa_n (pv 4) pa_nil)) pa_nil))) (pg_name (i:=6) scL.nd rfl (Or.inl rfl)) (pssC_one (psC_ifC (ptC_not (ptC_val (peC_call GR r7 (by rfl) DR.m DR.F.kp DR.b .nil pass0 (pa_s (pe_slice sl_list (pv 4) po_none (po_some (pv 6))) (pa_b (pe_op op_add (pv 6) pe_int) pa_nil))))) ((pss_one (ps_ret pe_bl)).c) pss_nil.c)))
    (pssC_one (psC_ret (peC_call GR r7 (by rfl) DR.m DR.F.kp DR.b .nil pass0 (pa_lst (pe_lst pa_nil) (pa_c pe_int pa_nil))))))))),?_⟩
  have big:=line1000
  refine seq_i (asg_i ⟨_,rfl,a,ns,rfl,hS,hlen,hbits,fun p G1 hp pu s1=>gname_i ?_⟩)
  dsimp only
  refine seq_i (asg_i ⟨_,rfl,p,rfl,pu,fun l rl us rs fp e ev G2 rok eok l8 hl hrl pr he npf pu2 b2=>?_⟩)
  refine ⟨l,_,rfl,SqL.of hl,rfl,_,_,rfl,_,_,rfl,rfl,?_⟩
  dsimp only
  refine seq_i (asg_i ⟨_,rfl,_,rfl,rl,us,rs,fp,e,ev,rfl,hrl,pr,he,rok,eok,by omega,fun ll G3 hll s3 hl3=>gname_i ?_⟩)
  dsimp only
  have pu3:=pu2.same s3
  have nlp:ll≠p:=newp pu2 hll
  have bll:=bl_len rs e
  have rl':=recW_len rok
  have blln:∀ x∈bl rs e,LnOk x:=fun x mx=>by
    obtain ⟨y,my,rfl⟩:=List.mem_map.mp mx
    exact (bookW_gw rok eok y my).ln
  have hl3:G3 ll=some (.lst ((bl rs e).map V.str)):=hl3
  refine seq_i ⟨8,rfl,by decide,by decide,for_range (n:=8) (fun i σ G=>∃ u5 u6,σ=[some (.ref a),some (.ref p),some (.ref rl),some ev,some (.ref ll),u5,u6]∧G ll=some (.lst ((bl rs e).map V.str))∧Purse G p) ⟨_,_,rfl,hl3,pu3⟩ ?_ ?_⟩
  · rintro i σ G hi ⟨u5,u6,rfl,hG,puG⟩
    refine gname_i ⟨_,rfl,_,rfl,ll,p,rs,e,rfl,hG,puG,rok,eok,l8,fun G' pu' bt'=>⟨_,rfl,iteF ⟨_,_,rfl,bt' _ _ hG nlp,pu'⟩⟩⟩
  · rintro σ G ⟨u5,u6,rfl,hG,puG⟩
    dsimp only
    refine seq_i ⟨_,rfl,ll,_,rfl,.inl (SqL.of hG),1,((bl rs e).length:Int),by rw [List.length_map],⟨by decide,by decide,by omega,by omega⟩,for_range (lo:=1) (n:=(((bl rs e).length:Int) - 1).toNat) (fun i σ G=>∃ u6,σ=[some (.ref a),some (.ref p),some (.ref rl),some ev,some (.ref ll),u5,u6]∧G ll=some (.lst ((bl rs e).map V.str))) ⟨_,rfl,hG⟩ ?_ ?_⟩
    · rintro i σ G hi ⟨u6,rfl,hG⟩
      have ei:(1 + (i:Int))=((i + 1:Nat):Int):=by omega
      rw [ei]
      have hn:i + 1≤(recW rs).length:=by omega
      refine gname_i ⟨_,rfl,_,rfl,((i + 1:Nat):Int),rfl,ll,_,rfl,SqL.of hG,fun t ht=>?_⟩
      rw [cut_to,← List.map_take]
      have u1:=same_new ht (.lst (((bl rs e).take (i + 1)).map V.str))
      refine ⟨_,rfl,_,_,rfl,rfl,t,i + 2,(bl rs e).take (i + 1),rfl,upd_same,fun x mx=>blln x (List.mem_of_mem_take mx),by rw [List.length_take]; omega,fun z=>?_,rd_pre rok hn,fun G' s'=>⟨_,rfl,iteF ⟨_,rfl,s' _ _ (u1 _ _ hG)⟩⟩⟩
      have m0:("":Str)∈bl rs e:=List.mem_of_mem_take (by rw [z]; simp)
      obtain ⟨y,my,hy⟩:=List.mem_map.mp m0
      exact shape_ne rok eok my hy
    · rintro σ G ⟨u6,rfl,hG⟩
      dsimp only
      refine ret_i ⟨Nat.zero_le _,fun t ht=>⟨t,1,[],rfl,upd_same,(fun x mx=>by cases mx),Nat.zero_le _,(fun z=>by cases z),rfl,fun G' _=>q G'⟩⟩
end
end My
namespace My
open PySem L2
theorem my_cons {α:Type} {n:Nat} {us:List α} (h:us.length=n + 1):∃ a l,us=a :: l∧l.length=n:=by
  cases us with
  | nil=>cases h
  | cons a l=>exact ⟨a,l,rfl,Nat.succ.inj h⟩
theorem my_len1 {α:Type} {us:List α} (h:us.length=1):∃ a,us=[a]:=by
  obtain ⟨a,l,rfl,h⟩:=my_cons h
  cases l with
  | nil=>exact ⟨a,rfl⟩
  | cons b l=>cases h
theorem my_len2 {α:Type} {us:List α} (h:us.length=2):∃ a b,us=[a,b]:=by
  obtain ⟨x,l,rfl,h'⟩:=my_cons h
  obtain ⟨a1,rfl⟩:=my_len1 h'
  exact ⟨x,a1,rfl⟩
theorem my_len3 {α:Type} {us:List α} (h:us.length=3):∃ a b c,us=[a,b,c]:=by
  obtain ⟨x,l,rfl,h'⟩:=my_cons h
  obtain ⟨a1,b1,rfl⟩:=my_len2 h'
  exact ⟨x,a1,b1,rfl⟩
def Dn (K:PySem.W.Frag) (x:Str) (st:Stmt) (f:Addr):Prop:=PySem.W.nsIn K mainGlobals x=some (some (.ref f))∧∃ fd,Fun K x x st f fd
def Mn (K:PySem.W.Frag) (C:Addr) (x q:Str) (st:Stmt) (f:Addr):Prop:=(PySem.W.findIn K (.ref C) x=some (some (.ref f))∧PySem.W.isFn K (.ref f)=true)∧∃ fd,Fun K x q st f fd
structure Cn (K:PySem.W.Frag) (C:Addr):Prop where
  c:Cls K C
  m:PySem.W.makesIn K C=true
  k:PySem.W.keepIn K (.ref C)=true
theorem dn_i {K:PySem.W.Frag} {x:Str} {st:Stmt} {f:Addr} {oc:Value} {od an:Option Addr} {sl:Array (Option Value)} {kV dc pm cd ct:Value} (a:PySem.W.nsIn K mainGlobals x=some (some (.ref f))) (l:K.lookup f=some ⟨oc,od,.func (PySem.W.fnOf x x (defArgs st) (defBody st) (defScope st) .none kV dc pm an cd ct),sl⟩) (c:PySem.W.codeIn K cd x=true) (k:PySem.W.keepIn K (.ref f)=true):Dn K x st f:=⟨a,_,fun_mk l c k⟩
theorem mn_i {K:PySem.W.Frag} {x q:Str} {st:Stmt} {f C:Addr} {oc:Value} {od an:Option Addr} {sl:Array (Option Value)} {kV dc pm cd ct:Value} (a:PySem.W.findIn K (.ref C) x=some (some (.ref f))) (i:PySem.W.isFn K (.ref f)=true) (l:K.lookup f=some ⟨oc,od,.func (PySem.W.fnOf x q (defArgs st) (defBody st) (defScope st) .none kV dc pm an cd ct),sl⟩) (c:PySem.W.codeIn K cd q=true) (k:PySem.W.keepIn K (.ref f)=true):Mn K C x q st f:=⟨⟨a,i⟩,_,fun_mk l c k⟩
theorem dfx {K:PySem.W.Frag} {h:Heap} {mg:Str→Option Value} {x:Str} {st:Stmt} {f:Addr} (ps:List Str) (X:K.In h) (G:h.Ns mainGlobals mg) (a:Dn K x st f) (hb:∀ (kV doc pm:Value) (an:Option Addr) (cdv ct:Value) (us:List Value),us.length=ps.length→bindArgs (PySem.W.fnOf x x (defArgs st) (defBody st) (defScope st) .none kV doc pm an cdv ct) ⟨us,[]⟩=pure (ps.zip us):=by intro _ _ _ _ _ _ us hl; first | (obtain ⟨a,rfl⟩:=my_len1 hl; rfl) | (obtain ⟨a,b,rfl⟩:=my_len2 hl; rfl) | (obtain ⟨a,b,c,rfl⟩:=my_len3 hl; rfl)):∃ fd,Df K mg x st ps f fd:=by
  obtain ⟨a,fd,F⟩:=a
  exact ⟨fd,F,F.binds hb,PySem.W.mg_of X G a⟩
theorem mfx {K:PySem.W.Frag} {x q:Str} {st:Stmt} {f C:Addr} (ps:List Str) (a:Mn K C x q st f) (hb:∀ (kV doc pm:Value) (an:Option Addr) (cdv ct:Value) (us:List Value),us.length=ps.length→bindArgs (PySem.W.fnOf x q (defArgs st) (defBody st) (defScope st) .none kV doc pm an cdv ct) ⟨us,[]⟩=pure (ps.zip us):=by intro _ _ _ _ _ _ us hl; first | (obtain ⟨a,rfl⟩:=my_len1 hl; rfl) | (obtain ⟨a,b,rfl⟩:=my_len2 hl; rfl) | (obtain ⟨a,b,c,rfl⟩:=my_len3 hl; rfl)):∃ fd,Fun K x q st f fd∧Binds K fd ps []∧Meth K C x f:=by
  obtain ⟨⟨a,i⟩,fd,F⟩:=a
  exact ⟨fd,F,F.binds hb,a,i,F.kp⟩
theorem law_b {K:PySem.W.Frag} {x q:Str} {st:Stmt} {f:Addr} {fd:FuncData} {y:Str} (F:Fun K x q st f fd) (hb:∀ (kV doc pm:Value) (an:Option Addr) (cdv ct v:Value),bindArgs (PySem.W.fnOf x q (defArgs st) (defBody st) (defScope st) .none kV doc pm an cdv ct) ⟨[v],[]⟩=pure [(y,v)]) (s:Shared) (v:Value):BindsTo s fd ⟨[v],[]⟩ [(y,v)]:=by
  obtain ⟨oc,od,kV,doc,pm,an,cdv,ct,osl,rfl,_⟩:=F.ex
  exact .of_eq (hb kV doc pm an cdv ct v)
theorem all_mk {l:PySem.W.OpenLaw} {w:World} {K:PySem.W.Frag} {h:Heap} {mg:Str→Option Value} {fa f1 f2 f3 f4 f5 f6 f7 f8 f9 f10 f11 f12 f13 f14 f15 f16 f17 f18 f19 f20 f21 f22 f23 f24 f25 f26:Addr} {aF C D' CFault CNoMark CNoModel CNoRoom CTooLate fIn:Addr} (X:K.In h) (G:h.Ns mainGlobals mg) (hfa:mg "law"=some (.ref fa))
    (a1:Dn K "lines_of" s_lines_of f1) (a2:Dn K "is_name" s_is_name f2) (a3:Dn K "number_in" s_number_in f3) (a4:Dn K "read_book" s_read_book f4) (a5:Dn K "ending_of" s_ending_of f5) (a6:Dn K "take_line" s_take_line f6) (a7:Dn K "take_inner" s_take_inner f7) (a8:Dn K "happening_of" s_happening_of f8) (a9:Dn K "write_of" s_write_of f9) (a10:Dn K "numbers_in" s_numbers_in f10) (a11:Dn K "_law_purse" s_law_purse f11) (a12:Dn K "_law_take" s_law_take f12) (a13:Dn K "_law_names" s_law_names f13) (a14:Dn K "_law_far" s_law_far f14) (a15:Dn K "_law_happening" s_law_happening f15) (a16:Dn K "_law_write" s_law_write f16) (a17:Dn K "_law_record" s_law_record f17) (a18:Dn K "_law_ending" s_law_ending f18) (a19:Dn K "_law_book" s_law_book f19) (a20:Dn K "_law_joined" s_law_joined f20) (a21:Dn K "_law_happening_line" s_law_happening_line f21) (a22:Dn K "_law_lines" s_law_lines f22) (a23:Dn K "_law_odd" s_law_odd f23) (a24:Dn K "_law_refused" s_law_refused f24) (a25:Dn K "_law_good" s_law_good f25) (a26:Dn K "law" s_law f26) (gNoText:PySem.W.nsIn K mainGlobals "NoText"=some (some (.ref C))) (gMomentError:PySem.W.nsIn K mainGlobals "MomentError"=some (some (.ref D'))) (gFault:PySem.W.nsIn K mainGlobals "Fault"=some (some (.ref CFault))) (gNoMark:PySem.W.nsIn K mainGlobals "NoMark"=some (some (.ref CNoMark))) (gNoModel:PySem.W.nsIn K mainGlobals "NoModel"=some (some (.ref CNoModel))) (gNoRoom:PySem.W.nsIn K mainGlobals "NoRoom"=some (some (.ref CNoRoom))) (gTooLate:PySem.W.nsIn K mainGlobals "TooLate"=some (some (.ref CTooLate))) (hmro:(PySem.W.clsIn K C).any (fun cd=>cd.mro == [.ref C,.ref D',.type "ValueError",.type "Exception",.type "BaseException",.type "object"] && cd.hasDict)=true) (hmade:(K.lookup C).any (fun ob=>ob.cls == .type "type" && (match ob.data,ob.slots.toList with | .cls cd,[_,_,_,_,some (.builtin n),_]=>n == "ValueError.__new__" && !cd.hasDel | _,_=>false))=true) (htail:PySem.W.excIn K D' vErr "ValueError.__new__"=true) (hinit:PySem.W.findIn K (.ref C) "__init__"=some (some (.ref fIn))) (hfn:PySem.W.isFn K (.ref fIn)=true) (hkp:PySem.W.keepIn K (.ref C)=true) (hsa:PySem.W.findIn K (.ref C) "__setattr__"=some (some (.builtin "object.__setattr__"))) (hnl:PySem.W.findIn K (.ref C) "line"=some none) (xga:PySem.W.findIn K (.ref C) "__getattribute__"=some (some (.builtin "BaseException.__getattribute__"))) (xgh:PySem.W.findIn K (.ref C) "__getattr__"=some none) (xcl:PySem.W.findIn K (.ref C) "__class__"=some (some (.builtin "object.__class__"))) (xcn:PySem.W.specialIn K (.builtin "object.__class__") "__get__"=some (some (.builtin "getset_descriptor.__get__"))) (xck:PySem.W.takesIn K (.builtin "object.__class__")=some true) (xob:PySem.W.mroIn K C (.type "object")=some true) (xbe:PySem.W.mroIn K C (.type "BaseException")=some true) (ono:PySem.W.kitAny K (.ref C) [.ref CFault,.ref CNoMark,.ref CNoModel,.ref CNoRoom,.ref CTooLate]=some false) (oyes:PySem.W.kitOne K (.ref C) (.ref C)=some true) (ove:PySem.W.kitOne K (.ref C) (.type "ValueError")=some true) (oex:PySem.W.exmOne K (.ref C) (.ref D')=some true) (aIn:Mn K C "__init__" "NoText.__init__" s_NoText_init fIn) (aFa:PySem.W.nsIn K mainGlobals "FAULTS"=some (some (.ref aF))) (hFt:TupTx K aF faults) (zlen:PySem.W.nsIn K mainGlobals "len"=some none) (zabs:PySem.W.nsIn K mainGlobals "abs"=some none) (zisinstance:PySem.W.nsIn K mainGlobals "isinstance"=some none) (zlist:PySem.W.nsIn K mainGlobals "list"=some none) (ztuple:PySem.W.nsIn K mainGlobals "tuple"=some none) (zstr:PySem.W.nsIn K mainGlobals "str"=some none) (zint:PySem.W.nsIn K mainGlobals "int"=some none) (zbool:PySem.W.nsIn K mainGlobals "bool"=some none) (zrange:PySem.W.nsIn K mainGlobals "range"=some none) (zmax:PySem.W.nsIn K mainGlobals "max"=some none) (zdict:PySem.W.nsIn K mainGlobals "dict"=some none) (zenumerate:PySem.W.nsIn K mainGlobals "enumerate"=some none) (zall:PySem.W.nsIn K mainGlobals "all"=some none) (zValueError:PySem.W.nsIn K mainGlobals "ValueError"=some none) :
    ∃ fd:FuncData,(∀ (s:Shared) (v:Value),BindsTo s fd ⟨[v],[]⟩ [("_law_script",v)])∧∀ base:Heap,K.In base→base.Ns mainGlobals mg→FnOkC l.prog w K mg base CX0 9 fa fd ["_law_script"] (spLaw K):=by
  obtain ⟨_,D1⟩:=dfx ["text"] X G a1
  obtain ⟨_,D2⟩:=dfx ["word"] X G a2
  obtain ⟨_,D3⟩:=dfx ["word","least","most"] X G a3
  obtain ⟨_,D4⟩:=dfx ["text"] X G a4
  obtain ⟨_,D5⟩:=dfx ["words"] X G a5
  obtain ⟨_,D6⟩:=dfx ["records","words"] X G a6
  obtain ⟨_,D7⟩:=dfx ["record","words"] X G a7
  obtain ⟨_,D8⟩:=dfx ["kind","words"] X G a8
  obtain ⟨_,D9⟩:=dfx ["words"] X G a9
  obtain ⟨_,D10⟩:=dfx ["words"] X G a10
  obtain ⟨_,D11⟩:=dfx ["_law_script"] X G a11
  obtain ⟨_,D12⟩:=dfx ["_law_purse_here","_law_many"] X G a12
  obtain ⟨_,D13⟩:=dfx ["_law_purse_here","_law_many"] X G a13
  obtain ⟨_,D14⟩:=dfx ["_law_purse_here"] X G a14
  obtain ⟨_,D15⟩:=dfx ["_law_purse_here","_law_names_here"] X G a15
  obtain ⟨_,D16⟩:=dfx ["_law_purse_here","_law_names_here"] X G a16
  obtain ⟨_,D17⟩:=dfx ["_law_purse_here","_law_names_here"] X G a17
  obtain ⟨_,D18⟩:=dfx ["_law_purse_here"] X G a18
  obtain ⟨_,D19⟩:=dfx ["_law_purse_here"] X G a19
  obtain ⟨_,D20⟩:=dfx ["_law_words"] X G a20
  obtain ⟨_,D21⟩:=dfx ["_law_first","_law_happening_here"] X G a21
  obtain ⟨_,D22⟩:=dfx ["_law_records","_law_ending_here"] X G a22
  obtain ⟨_,D23⟩:=dfx ["_law_number"] X G a23
  obtain ⟨_,D24⟩:=dfx ["_law_lines_here","_law_line"] X G a24
  obtain ⟨_,D25⟩:=dfx ["_law_lines_here","_law_purse_here"] X G a25
  obtain ⟨_,D26⟩:=dfx ["_law_script"] X G a26
  have e:=hfa.symm.trans D26.m
  cases e
  have B:Bl mg:=⟨PySem.W.mg_none_of X G zlen,PySem.W.mg_none_of X G zabs,PySem.W.mg_none_of X G zisinstance,PySem.W.mg_none_of X G zlist,PySem.W.mg_none_of X G ztuple,PySem.W.mg_none_of X G zstr,PySem.W.mg_none_of X G zint,PySem.W.mg_none_of X G zbool,PySem.W.mg_none_of X G zrange,PySem.W.mg_none_of X G zmax,PySem.W.mg_none_of X G zdict⟩
  obtain ⟨fdIn,FIn,bIn,mIn⟩:=mfx ["self","line"] aIn
  have N:NT K mg C D' fIn fdIn:=⟨⟨hmro,hmade,htail,hinit,hfn,hkp,hsa,hnl,⟨xga,xgh,xcl,xcn,xck,xob,xbe⟩⟩,FIn,bIn,(PySem.W.mg_of X G gNoText)⟩
  have O:Oth K mg C D' CFault CNoMark CNoModel CNoRoom CTooLate:=⟨(PySem.W.mg_of X G gFault),(PySem.W.mg_of X G gNoMark),(PySem.W.mg_of X G gNoModel),(PySem.W.mg_of X G gNoRoom),(PySem.W.mg_of X G gTooLate),(PySem.W.mg_of X G gMomentError),ono,oyes,ove,oex⟩
  have ME:mg "enumerate"=none:=PySem.W.mg_none_of X G zenumerate
  have MA:mg "all"=none:=PySem.W.mg_none_of X G zall
  have MV:mg "ValueError"=none:=PySem.W.mg_none_of X G zValueError
  have hF:mg "FAULTS"=some (.ref aF):=PySem.W.mg_of X G aFa
  exact ⟨_,law_b D26.F fun _ _ _ _ _ _ _=>rfl,fun base _ _=>ok_law D26 D11 D19 (ok_lb D19 D13 D18 D17 D15 D16 D14 D12 B) D22 (ok_ll D22 D21 D20 B) D25 (ok_gd D25 D24 (ok_rf D24 D4 (ok_rb D4 D1 D5 (ok_en D5 D10 (ok_nb D10 D3 B MV) B hF hFt.sq) D6 (ok_tl D6 D8 (ok_ho D8 D10 (ok_nb D10 D3 B MV) D2 B MA) D7 (ok_ti D7 D8 (ok_ho D8 D10 (ok_nb D10 D3 B MV) D2 B MA) D9 (ok_wr D9 D10 (ok_nb D10 D3 B MV) D2 B MA))) N B ME) N O B MV) D12 D23 B) D24 (ok_rf D24 D4 (ok_rb D4 D1 D5 (ok_en D5 D10 (ok_nb D10 D3 B MV) B hF hFt.sq) D6 (ok_tl D6 D8 (ok_ho D8 D10 (ok_nb D10 D3 B MV) D2 B MA) D7 (ok_ti D7 D8 (ok_ho D8 D10 (ok_nb D10 D3 B MV) D2 B MA) D9 (ok_wr D9 D10 (ok_nb D10 D3 B MV) D2 B MA))) N B ME) N O B MV) B⟩
theorem walk {l:PySem.W.OpenLaw} {q:Program} {loose:List Str} {XP:(Str→Option Value)→Heap→Prop} {YP:World→Heap→Prop} {d:DefRec} {K:Params→PySem.W.Frag} (hn:l.most=some 63) (hdf:d.params.defaults=[])
    (hY:∀ (w:World) (h:Heap),YP w h→(K w.params).In h)
    (F:∀ (w:World) (mg:Str→Option Value) (fa:Addr) (h:Heap),(K w.params).In h→h.Ns mainGlobals mg→mg d.name=some (.ref fa) →
      ∃ fd:FuncData,(∀ (s:Shared) (u:Value),BindsTo s fd ⟨[u],[]⟩ [("_law_script",u)])∧∀ base:Heap,(K w.params).In base→base.Ns mainGlobals mg→FnOkC l.prog w (K w.params) mg base CX0 9 fa fd ["_law_script"] (spLaw (K w.params))) :
    L2.WalkC q loose XP YP l.row.toRowW d:=
  L2.walkC_of (n:=63) (k:=9) (x:="_law_script") (CX:=fun _=>CX0) (sp:=fun w=>spLaw (K w.params)) hn (by decide) hdf ⟨rfl,by decide,by decide⟩ hY F (fun _ _ a ns hl hb hS=>⟨a,ns,rfl,hS,hl,hb,fun _=>rfl⟩) fun _ _ _ _ _ z=>z
end My
def PySem.W.Fast.tw9589238959990798328:Nat:=0
def PySem.W.Fast.tw7744735621894273840:Nat:=0
def PySem.W.Fast.tw10079400093743176157:Nat:=0
def PySem.W.Fast.tw16152861232835913605:Nat:=0
def PySem.W.Fast.tw3074555327045816508:Nat:=0
def PySem.W.Fast.tw7438755690615361434:Nat:=0
def PySem.W.Fast.tw11433571205617575801:Nat:=0
def PySem.W.Fast.tw18034751861164810092:Nat:=0
def PySem.W.Fast.tw8516844029203126906:Nat:=0
def PySem.W.Fast.tw10882991530765570420:Nat:=0
def PySem.W.Fast.tw12915582430233115141:Nat:=0
def PySem.W.Fast.tw5816303271541884155:Nat:=0
def PySem.W.Fast.tw11073339825013193324:Nat:=0
def PySem.W.Fast.tw147744889697273206:Nat:=0
def PySem.W.Fast.tw17468857126258192408:Nat:=0
def PySem.W.Fast.tw7436182734449874191:Nat:=0
def PySem.W.Fast.tw9375681152253656987:Nat:=0
def PySem.W.Fast.tw5385222433836150249:Nat:=0
def PySem.W.Fast.tw4120785401299698753:Nat:=0
def PySem.W.Fast.tw17812721611148807571:Nat:=0
def PySem.W.Fast.tw16549328332140754857:Nat:=0
def PySem.W.Fast.tw17935254846492379693:Nat:=0
def PySem.W.Fast.tw794347828224718249:Nat:=0
def PySem.W.Fast.tw2157363920975297334:Nat:=0
def PySem.W.Fast.tw13901021561943712510:Nat:=0
def PySem.W.Fast.tw3512350166728568216:Nat:=0
def PySem.W.Fast.tw13383007143038244440:Nat:=0
def PySem.W.Fast.tw4323554707501359378:Nat:=0
def PySem.W.Fast.tw7892242911361985226:Nat:=0
def PySem.W.Fast.tw16428692598088657396:Nat:=0
def PySem.W.Fast.tw224681399683855158:Nat:=0
def PySem.W.Fast.tw14826410497194539836:Nat:=0
def PySem.W.Fast.tw16557519607556425087:Nat:=0
def PySem.W.Fast.tw1218457115543694245:Nat:=0
def PySem.W.Fast.tw9377366242644522901:Nat:=0
def PySem.W.Fast.tw8427117299877729912:Nat:=0
def PySem.W.Fast.tw3814359297265995425:Nat:=0
def PySem.W.Fast.tw16756711585645170018:Nat:=0
def PySem.W.Fast.tw9777846887711303567:Nat:=0
def PySem.W.Fast.tw9221769865065511472:Nat:=0
def PySem.W.Fast.tw8722456673420374171:Nat:=0
def PySem.W.Fast.tw13012430550878170484:Nat:=0
def PySem.W.Fast.tw10406589227352729395:Nat:=0
def PySem.W.Fast.tw795650762701330221:Nat:=0
def PySem.W.Fast.tw3220686014076785697:Nat:=0
def PySem.W.Fast.tw11999709789074766701:Nat:=0
def PySem.W.Fast.tw8493953753658932908:Nat:=0
def PySem.W.Fast.tw10320890521497890085:Nat:=0
def PySem.W.Fast.tw15717700123893284438:Nat:=0
def PySem.W.Fast.tw10057697626356428770:Nat:=0
def PySem.W.Fast.tw5192924118906747077:Nat:=0
def PySem.W.Fast.tw14295273040013006154:Nat:=0
def PySem.W.Fast.tw16256831625268126277:Nat:=0
def PySem.W.Fast.tw3520607389937608168:Nat:=0
def PySem.W.Fast.tw16019452482642480256:Nat:=0
def PySem.W.Fast.tw14302488619191970915:Nat:=0
def PySem.W.Fast.tw15282084097735190559:Nat:=0
def PySem.W.Fast.tw10565803034625973187:Nat:=0
def PySem.W.Fast.tw12590400734459629665:Nat:=0
def PySem.W.Fast.tw13123920950199676942:Nat:=0
def PySem.W.Fast.tw17125109632744305322:Nat:=0
def PySem.W.Fast.tw11571978438652341121:Nat:=0
def PySem.W.Fast.tw8806374166257388126:Nat:=0
def PySem.W.Fast.tw10012585790996746252:Nat:=0
def PySem.W.Fast.tw8637082329635474206:Nat:=0
def PySem.W.Fast.tw2283466746019678664:Nat:=0
def PySem.W.Fast.tw1060457311784927094:Nat:=0
def PySem.W.Fast.tw12189549725240487547:Nat:=0
def PySem.W.Fast.tw9355883138288926535:Nat:=0
def PySem.W.Fast.tw4474552978206326036:Nat:=0
def PySem.W.Fast.tw16856630485972142204:Nat:=0
def PySem.W.Fast.tw2055694164029119670:Nat:=0
def PySem.W.Fast.tw7153443512927755182:Nat:=0
def PySem.W.Fast.tw16401138683131171469:Nat:=0
def PySem.W.Fast.tw2656682014585141276:Nat:=0
def PySem.W.Fast.tw8894853437749020319:Nat:=0
def PySem.W.Fast.tw15676616716307473527:Nat:=0
def PySem.W.Fast.tw7694036593306274855:Nat:=0
def PySem.W.Fast.tw2123739575212354093:Nat:=0
def PySem.W.Fast.tw5482046898820280744:Nat:=0
def PySem.W.Fast.tw3122332207701051838:Nat:=0
def PySem.W.Fast.tw8620705110211934601:Nat:=0
def PySem.W.Fast.tw17686677610224024485:Nat:=0
def PySem.W.Fast.tw8312587896432325811:Nat:=0
def PySem.W.Fast.tw13566223948712259532:Nat:=0
def PySem.W.Fast.tw9361909156153831268:Nat:=0
def PySem.W.Fast.tw12588655285748216360:Nat:=0
def PySem.W.Fast.tw2391720729704949671:Nat:=0
def PySem.W.Fast.tw7452467568605921451:Nat:=0
def PySem.W.Fast.tw8312939478170010725:Nat:=0
def PySem.W.Fast.tw17317220528400190886:Nat:=0
def PySem.W.Fast.tw8643529483972619758:Nat:=0
def PySem.W.Fast.tw17898964166252852679:Nat:=0
def PySem.W.Fast.tw7803600659159821412:Nat:=0
def PySem.W.Fast.tw12582863832359838216:Nat:=0
def PySem.W.Fast.tw17943199511967090126:Nat:=0
def PySem.W.Fast.tw8188719382454141293:Nat:=0
def PySem.W.Fast.tw7759968852111565091:Nat:=0
def PySem.W.Fast.tw3536657860013156053:Nat:=0
def PySem.W.Fast.tw2940411475831295225:Nat:=0
def PySem.W.Fast.tw13855713262275716800:Nat:=0
def PySem.W.Fast.tw13328753838584797430:Nat:=0
def PySem.W.Fast.tw14334300780906325317:Nat:=0
def PySem.W.Fast.tw13763454781469223824:Nat:=0
def PySem.W.Fast.tw14360088885549718291:Nat:=0
def PySem.W.Fast.tw10945138961354346477:Nat:=0
def PySem.W.Fast.tw1418688727555654093:Nat:=0
def PySem.W.Fast.tw9196747248682113085:Nat:=0
def PySem.W.Fast.tw6268388288212205387:Nat:=0
def PySem.W.Fast.tw8497944397998301260:Nat:=0
def PySem.W.Fast.tw895323165549426290:Nat:=0
def PySem.W.Fast.tw13632657995555247688:Nat:=0
def PySem.W.Fast.tw9049227607889741100:Nat:=0
def PySem.W.Fast.tw7057723880564831622:Nat:=0
def PySem.W.Fast.tw16651993168316928877:Nat:=0
def PySem.W.Fast.tw7062947938058894519:Nat:=0
def PySem.W.Fast.tw7830660709027901473:Nat:=0
def PySem.W.Fast.tw5368608142900947064:Nat:=0
def PySem.W.Fast.tw15810154039945464033:Nat:=0
def PySem.W.Fast.tw9225102518930584303:Nat:=0
def PySem.W.Fast.tw6221687489130337531:Nat:=0
def PySem.W.Fast.tw5789416274526029060:Nat:=0
def PySem.W.Fast.tw16399952825362305908:Nat:=0
def PySem.W.Fast.tw4334388083266971863:Nat:=0
def PySem.W.Fast.tw763719266479794229:Nat:=0
def PySem.W.Fast.tw13635334897066249170:Nat:=0
def PySem.W.Fast.tw12171142493023845795:Nat:=0
def PySem.W.Fast.tw8373780764208613185:Nat:=0
def PySem.W.Fast.tw15435112708701414344:Nat:=0
def PySem.W.Fast.tw1750463057641389282:Nat:=0
def PySem.W.Fast.tw4631224756741941101:Nat:=0
def PySem.W.Fast.tw9123734569006502916:Nat:=0
def PySem.W.Fast.tw9323092432834303661:Nat:=0
def PySem.W.Fast.tw13580177606124610175:Nat:=0
def PySem.W.Fast.tw3559791954448547122:Nat:=0
def PySem.W.Fast.tw14006044781461020947:Nat:=0
def PySem.W.Fast.tw6918763867131094066:Nat:=0
def PySem.W.Fast.tw5423568333601600892:Nat:=0
def PySem.W.Fast.tw14412042002888903750:Nat:=0
def PySem.W.Fast.tw11023350471386717371:Nat:=0
def PySem.W.Fast.tw8227096409132323410:Nat:=0
def PySem.W.Fast.tw10819846184499136711:Nat:=0
def PySem.W.Fast.tw18350342316213041396:Nat:=0
def PySem.W.Fast.tw3738268163425559536:Nat:=0
def PySem.W.Fast.tw1744572666848025655:Nat:=0
def PySem.W.Fast.tw3890716549388976044:Nat:=0
def PySem.W.Fast.tw12215829232616591564:Nat:=0
def PySem.W.Fast.tw4610310192534782359:Nat:=0
def PySem.W.Fast.tw1344731784822150195:Nat:=0
def PySem.W.Fast.tw12427998139568174186:Nat:=0
def PySem.W.Fast.tw636503223034055647:Nat:=0
def PySem.W.Fast.tw16872813497933136303:Nat:=0
def PySem.W.Fast.tw16203753728649271101:Nat:=0
def PySem.W.Fast.tw11354344876300253151:Nat:=0
def PySem.W.Fast.tw5438309188988641892:Nat:=0
def PySem.W.Fast.tw12584153810002583653:Nat:=0
def PySem.W.Fast.tw12896799158847791765:Nat:=0
def PySem.W.Fast.tw866016624705400255:Nat:=0
def PySem.W.Fast.tw9535051962603579888:Nat:=0
def PySem.W.Fast.tw7284555075183174767:Nat:=0
def PySem.W.Fast.tw17100356406699504526:Nat:=0
def PySem.W.Fast.tw15077808116343119103:Nat:=0
def PySem.W.Fast.tw7907050587162206592:Nat:=0
def PySem.W.Fast.tw4380892422823202613:Nat:=0
def PySem.W.Fast.tw18085609169604917568:Nat:=0
def PySem.W.Fast.tw9810554615640454236:Nat:=0
def PySem.W.Fast.tw2443586799314050675:Nat:=0
def PySem.W.Fast.tw1916367889870081933:Nat:=0
def PySem.W.Fast.tw3970590211521655821:Nat:=0
def PySem.W.Fast.tw10010458602924408598:Nat:=0
namespace My
open PySem PySem.W L2
theorem PySem.W.holds_open {r:OpenRow} {q:Program} {loose:List Str} {Xt:Shared→Bool} {XP:(Str→Option Value)→Heap→Prop} {α:Type} {Yf:Shared→α} {Ya:World→α} {YP:World→Heap→Prop} {d:DefRec} {kwd:List (Str×Expr)} {N:Nat} (left:LeftO r.prog q loose Xt Yf Ya N) (hY:∀ w s,Yf s=Ya w→YP w s.heap)
    (hYk:∀ w h h',YP w h→(∀ b o,h.get? b=some o→h'.get? b=some o)→YP w h') (hX:∀ s,Xt s=true→XP (s.heap.nsMap mainGlobals) s.heap) (hXk:∀ mg h h',XP mg h→(∀ b o,h.get? b=some o→h'.get? b=some o)→XP mg h') (hdef:defOf q r.name=some (d,kwd)) (hp:r.prog.theDef r.name=some (d.params,d.body,d.scope))
    (hk:kwWritten? d.params.kwonlyargs d.params.kw_defaults=some kwd) (hRf:∀ s,Xt s=true→RecFacts r.records s.heap) (hwr:(!r.writes || r.records.isEmpty)=true) (k1:r.wellSaid=true) (ok:(chainsOk q && opensWell r.prog && (frees r.toRowW && r.within.isEmpty))=true) (hb:r.prog.bare) (hw:r.toRowW.promised) (call:WalkC q loose XP YP r.toRowW d):r.Holds:=
  headC left hY hYk hX hXk hdef hp hk hRf hwr k1 ok hb hw call
open PyProof.Rows
set_option maxRecDepth 100000 in
set_option maxHeartbeats 0 in
theorem aux:PySem.Challenge.rw_momentloom_k79_lines_of_no_book.Holds:=by
  w_on; o_law; k_head; (case hw=>w_witness2)
  k_fill
  refine My.walk (l:=PySem.Challenge.rw_momentloom_k79_lines_of_no_book) rfl rfl (fun w h Y=>PySem.W.kIn_of Y) ?F
  case F =>
    intro w mg fa h KX G hmg
    refine' My.all_mk KX G hmg ?a1 ?a2 ?a3 ?a4 ?a5 ?a6 ?a7 ?a8 ?a9 ?a10 ?a11 ?a12 ?a13 ?a14 ?a15 ?a16 ?a17 ?a18 ?a19 ?a20 ?a21 ?a22 ?a23 ?a24 ?a25 ?a26 ?gNoText ?gMomentError ?gFault ?gNoMark ?gNoModel ?gNoRoom ?gTooLate ?hmro ?hmade ?htail ?hinit ?hfn ?hkp ?hsa ?hnl ?xga ?xgh ?xcl ?xcn ?xck ?xob ?xbe ?ono ?oyes ?ove ?oex ?aIn ?aFa ?hFt ?zlen ?zabs ?zisinstance ?zlist ?ztuple ?zstr ?zint ?zbool ?zrange ?zmax ?zdict ?zenumerate ?zall ?zValueError
    case a1 | a2 | a3 | a4 | a5 | a6 | a7 | a8 | a9 | a10 | a11 | a12 | a13 | a14 | a15 | a16 | a17 | a18 | a19 | a20 | a21 | a22 | a23 | a24 | a25 | a26=>
      refine' My.dn_i ?a ?l ?c ?k
      case a=>k_is
      case l=>k_is
      case c=>k_is
      case k=>k_is
    case zlen | zabs | zisinstance | zlist | ztuple | zstr | zint | zbool | zrange | zmax | zdict | zenumerate | zall | zValueError=>k_is
    case gNoText | gMomentError | gFault | gNoMark | gNoModel | gNoRoom | gTooLate | aFa=>k_is
    case hmro | hmade | hinit | hfn | hkp | hsa | hnl | xga | xgh | xcl | xcn | xck | xob | xbe | ono | oyes | ove | oex | hFt=>(first | k_is | rfl | decide | decide +kernel)
    case htail=>k_exc
    case aIn=>(refine' My.mn_i ?a ?i ?l ?c ?k; (case a=>k_is); (case i=>k_is); (case l=>k_is); (case c=>k_is); (case k=>k_is))
end My
theorem PySem.Challenge.cw_momentloom_k79_lines_of_no_book_holds : PySem.Challenge.rw_momentloom_k79_lines_of_no_book.Holds := by
  exact My.aux
