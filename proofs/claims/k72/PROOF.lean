import PyProof.Rows.All
import Wide.All
import OpenK.AllK
import Wide.FinOn
import Lean
import PyProof.EqAt
import PyProof.EqKinds
import PyProof.TupleCall
import KE.KDictOf
import PyProof.AttrMissSeq
import PyProof.DictCopy
import PyProof.NeKinds
import PyProof.DictWalks
import PyProof.MinMaxWalk
import PyProof.MeetsDictList
import PyProof.DictFindH
import PyProof.DictTruth
import KE.KRevSl
import KE.KTab
import PySem.Challenge.RW_momentloom_k72_models_as_text
-- CHANGE: your row's module here, as the last of these rows
set_option Elab.async false
set_option linter.all false
set_option maxRecDepth 100000
namespace L2
open PySem PySem.Spec PyProof.Rows
abbrev Key:=Sum Int Str
def keyIs:Key→Value→Bool
  | .inl k,v=>Value.isInt k v
  | .inr x,v=>Value.isStrOf x v
def keyH (w:World):Key→Int
  | .inl k=>hashInt k
  | .inr x=>hashStr w x
theorem keyIs_shape:∀ {k:Key} {v:Value},keyIs k v=true→(∃ i t,k=Sum.inl i∧v=Value.int i t)∨(∃ x t,k=Sum.inr x∧v=Value.str x t)
  | .inl i,v,h=>by
    obtain ⟨t,e⟩:=Value.isInt_shape (k:=i) (v:=v) h
    exact .inl ⟨i,t,rfl,e⟩
  | .inr x,v,h=>by
    obtain ⟨t,e⟩:=Value.isStrOf_shape (x:=x) (v:=v) h
    exact .inr ⟨x,t,rfl,e⟩
theorem keyIs_int (i:Int) (t:Tok):keyIs (.inl i) (.int i t)=true:=by simp [keyIs,Value.isInt]
theorem keyIs_str (x:Str) (t:Tok):keyIs (.inr x) (.str x t)=true:=by simp [keyIs,Value.isStrOf]
theorem key_ll (a b:Int):decide ((Sum.inl a:Key)=Sum.inl b)=(a == b):=by
  by_cases e:a=b
  · subst e; simp
  · have h:¬ (Sum.inl a:Key)=Sum.inl b:=fun q=>e (Sum.inl.inj q)
    rw [decide_eq_false h]
    exact (beq_eq_false_iff_ne.mpr e).symm
theorem key_rr (a b:Str):decide ((Sum.inr a:Key)=Sum.inr b)=decide (a=b):=by
  by_cases e:a=b
  · subst e; simp
  · have h:¬ (Sum.inr a:Key)=Sum.inr b:=fun q=>e (Sum.inr.inj q)
    rw [decide_eq_false h,decide_eq_false e]
theorem key_lr (a:Int) (b:Str):decide ((Sum.inl a:Key)=Sum.inr b)=false:=decide_eq_false (fun q=>nomatch q)
theorem key_rl (a:Str) (b:Int):decide ((Sum.inr a:Key)=Sum.inl b)=false:=decide_eq_false (fun q=>nomatch q)
def mixKind (prog:Program) (w:World):PySem.KeyKind prog w Key where
  is:=keyIs
  hash:=keyH w
  inj:=fun v a b ha hb=>by
    rcases keyIs_shape ha with ⟨i,t,rfl,rfl⟩ | ⟨x,t,rfl,rfl⟩
    · rcases keyIs_shape hb with ⟨j,u,rfl,e⟩ | ⟨y,u,rfl,e⟩
      · injection e with e1 _; rw [e1]
      · exact nomatch e
    · rcases keyIs_shape hb with ⟨j,u,rfl,e⟩ | ⟨y,u,rfl,e⟩
      · exact nomatch e
      · injection e with e1 _; rw [e1]
  byValue:=fun k v h=>by
    rcases keyIs_shape h with ⟨i,t,rfl,rfl⟩ | ⟨x,t,rfl,rfl⟩ <;> rfl
  pyHash:=fun hv h=>by
    rcases keyIs_shape hv with ⟨i,t,rfl,rfl⟩ | ⟨x,t,rfl,rfl⟩
    · exact wpAny_pyHash_int h
    · exact wpAny_pyHash_str h
  eqBool:=fun hu hv h=>by
    rcases keyIs_shape hu with ⟨i,t,rfl,rfl⟩ | ⟨x,t,rfl,rfl⟩
    · rcases keyIs_shape hv with ⟨j,u,rfl,rfl⟩ | ⟨y,u,rfl,rfl⟩
      · rw [key_ll] at h; exact wpAny_eqBool_int h
      · rw [key_lr] at h; exact SeqAt.EqAt.int_str i t y u _ _ _ _ h
    · rcases keyIs_shape hv with ⟨j,u,rfl,rfl⟩ | ⟨y,u,rfl,rfl⟩
      · rw [key_rl] at h; exact SeqAt.EqAt.str_int x t j u _ _ _ _ h
      · rw [key_rr] at h; exact wpAny_eqBool_str h
  «strs»:=fun k x t v h=>by
    rcases keyIs_shape h with ⟨i,u,rfl,e⟩ | ⟨y,u,rfl,e⟩
    · exact nomatch e
    · injection e with e1 _
      subst e1
      cases v <;> rfl
theorem mixKind_int (prog:Program) (w:World) (i:Int) (t:Tok):(mixKind prog w).is (.inl i) (.int i t)=true:=keyIs_int i t
theorem mixKind_str (prog:Program) (w:World) (x:Str) (t:Tok):(mixKind prog w).is (.inr x) (.str x t)=true:=keyIs_str x t
end L2
namespace L2
open PySem PySem.Spec PyProof.Rows
inductive V where
  | non | bl (b:Bool) | int (i:Int) | str (x:Str) | byt (b:Array UInt8) | flt (b:UInt64) | ref (a:Addr) | ty (n:String)
  deriving DecidableEq
def RelV:V→Value→Prop
  | .non,u=>u=Value.none
  | .bl b,u=>u=Value.bool b
  | .int i,u=>∃ t,u=Value.int i t
  | .str x,u=>∃ t,u=Value.str x t
  | .byt b,u=>∃ t,u=Value.bytes b t
  | .flt b,u=>∃ t,u=Value.float b t
  | .ref a,u=>u=Value.ref a
  | .ty n,u=>u=Value.type n
abbrev Vals:List V→List Value→Prop:=Paired RelV
theorem Vals.length {xs:List V} {us:List Value} (r:Vals xs us):xs.length=us.length:=Paired.length r
theorem Vals.get:∀ {xs:List V} {us:List Value} {i:Nat} {x:V},Vals xs us→xs[i]?=some x→∃ u,us[i]?=some u∧RelV x u
  | _,_,_,_,.nil,e=>by simp at e
  | _,_,0,_,.cons r _,e=>by simp at e; subst e; exact ⟨_,rfl,r⟩
  | _,_,i + 1,x,.cons _ t,e=>by
    obtain ⟨u,h1,h2⟩:=Vals.get (i:=i) (x:=x) t (by simpa using e)
    exact ⟨u,by simpa using h1,h2⟩
theorem Vals.set {x:V} {u:Value} (r:RelV x u):∀ {xs:List V} {us:List Value} (i:Nat),Vals xs us→Vals (xs.set i x) (us.set i u)
  | _,_,_,.nil=>.nil
  | _,_,0,.cons _ t=>.cons r t
  | _,_,i + 1,.cons q t=>.cons q (Vals.set r i t)
theorem Vals.append:∀ {xs ys:List V} {us ws:List Value},Vals xs us→Vals ys ws→Vals (xs++ys) (us++ws)
  | _,_,_,_,.nil,s=>s
  | _,_,_,_,.cons r t,s=>.cons r (Vals.append t s)
theorem Vals.take:∀ {xs:List V} {us:List Value} (n:Nat),Vals xs us→Vals (xs.take n) (us.take n)
  | _,_,0,_=>.nil
  | _,_,_ + 1,.nil=>.nil
  | _,_,n + 1,.cons r t=>.cons r (Vals.take n t)
theorem Vals.drop:∀ {xs:List V} {us:List Value} (n:Nat),Vals xs us→Vals (xs.drop n) (us.drop n)
  | _,_,0,r=>r
  | _,_,_ + 1,.nil=>.nil
  | _,_,n + 1,.cons _ t=>Vals.drop n t
def RelO:Option V→Option Value→Prop
  | some v,some u=>RelV v u
  | none,none=>True
  | _,_=>False
def KV {κ:Type}:List (κ×V)→List (κ×Value)→Prop:=Paired fun (p:κ×V) (q:κ×Value)=>p.1=q.1∧RelV p.2 q.2
def kV:Key→V
  | .inl i=>.int i
  | .inr x=>.str x
inductive HO where
  /-- a list -/
  | lst (xs:List V)
  /-- a tuple (never changes) -/
  | tup (xs:List V)
  /-- a dict whose keys are ints and texts; one whose keys are tuples of ints and texts (the empty one is both) -/
  | dK (kvs:List (Key×V)) | dT (kvs:List (List Key×V))
  /-- a set of ints: its members, its size -/
  | set (S:Int→Bool) (n:Nat)
  /-- an instance of the class at C, its dict at dx, its attributes -/
  | ins (C dx:Addr) (fs:List (Str×V))
  /-- the dict of the instance at x -/
  | own (x:Addr)
  /-- the dict of an exception -/
  | xd (fs:List (Str×V))
  /-- a bound method, f of x -/
  | met (f x:Addr)
  /-- a range object lo, lo + 1, .. below hi -/
  | rng (lo hi:Int)
  /-- a thing that is known to the object (the script; a dict while a loop walks it): read, never written while it is so -/
  | frz (o:Obj) (u:HO)
  /-- a code object's table -/
  | tbl (ps:Array Value)
  /-- any other thing, by what is true of its one object (a def of one's own: SetO a S n := HO.ext fun h => ..) -/
  | ext (φ:Heap→Prop)
abbrev Hp:=Addr→Option HO
def upd (H:Hp) (a:Addr) (o:HO):Hp:=fun b=>if b=a then some o else H b
theorem upd_same {H:Hp} {a:Addr} {o:HO}:upd H a o a=some o:=by unfold upd; rw [if_pos rfl]
theorem upd_ne {H:Hp} {a b:Addr} {o:HO} (h:b≠a):upd H a o b=H b:=by unfold upd; rw [if_neg h]
theorem ne_of {H:Hp} {a b:Addr} {o u:HO} (h:H a=some o) (h':H b=some u) (d:o≠u):a≠b:=by
  intro e; subst e; rw [h] at h'; exact d (Option.some.inj h')
theorem ne_of_none {H:Hp} {a b:Addr} {o:HO} (h:H a=some o) (h':H b=none):a≠b:=by
  intro e; subst e; rw [h] at h'; cases h'
section
variable (P:Program) (w:World)
def ObjOk (H:Hp) (h:Heap) (a:Addr):HO→Prop
  | .lst xs=>xs.length≤sizeLine∧∃ (its:List Value) (n:Nat),Vals xs its∧h.get? a=some {cls:=.type "list",data:=.seq its.toArray n}
  | .tup xs=>xs.length≤sizeLine∧∃ its:List Value,Vals xs its∧IsTup h a its.toArray
  | .dK kvs=>kvs.length≤sizeLine∧(a == sysModules)=false∧∃ vs,KV kvs vs∧h.DictOf (mixKind P w) a vs
  | .dT kvs=>kvs.length≤sizeLine∧(a == sysModules)=false∧∃ xs:List (List Key×Addr×Value),
      Paired (fun (p:List Key×V) (q:List Key×Addr×Value)=>p.1=q.1∧H q.2.1=some (.tup (p.1.map kV))∧RelV p.2 q.2.2) kvs xs ∧
      ∃ o es ep,h.get? a=some o∧o.ExactDict∧o.data=.dict es ep∧es.toList=xs.map (entryOfKey (tupleKind (mixKind P w)))∧(xs.map (·.1)).Nodup
  | .set S n=>h.SetOf (intKind P w) a S n
  | .ins C dx fs=>H dx=some (.own a)∧fs.length≤1000∧dx≠a∧h.get? a=some (PySem.W.instObj C dx) ∧
      ∃ mA,h.Ns1 dx mA∧(∀ f,RelO (fs.lookup f) (mA f))∧PySem.Within mA (fs.map (·.1))
  | .own _=>∃ o,h.get? a=some o
  | .xd fs=>∃ mA,h.Ns1 a mA∧∀ f,RelO (fs.lookup f) (mA f)
  | .rng lo hi=>∃ t u v,h.get? a=some {cls:=.type "range",data:=.fields #[.int lo t,.int hi u,.int 1 v]}
  | .frz o u=>h.get? a=some o∧ObjOk H h a u
  | .tbl ps=>h.get? a=some {cls:=.none,data:=.fields ps}
  | .met f x=>h.get? a=some (PySem.W.methodObj (.ref f) (.ref x))
  | .ext φ=>φ h∧(∃ o,h.get? a=some o)∧∀ h1 h2:Heap,φ h1→(∀ o,h1.get? a=some o→h2.get? a=some o)→φ h2
def HOk (H:Hp) (h:Heap):Prop:=∀ a o,H a=some o→ObjOk P w H h a o
end
section
variable {P:Program} {w:World} {H H':Hp} {h h':Heap} {a:Addr} {o:HO}
theorem ObjOk.lt (x:ObjOk P w H h a o):a < h.objs.size:=by
  cases o with
  | lst xs=>obtain ⟨_,_,_,_,e⟩:=x; exact Heap.lt_size e
  | tup xs=>obtain ⟨_,_,_,p⟩:=x; exact p.lt
  | dK kvs=>obtain ⟨_,_,_,_,o,_,_,e,_⟩:=x; exact Heap.lt_size e
  | dT kvs=>obtain ⟨_,_,_,_,o,_,_,e,_⟩:=x; exact Heap.lt_size e
  | set S n=>obtain ⟨o,_,_,_,e,_⟩:=x; exact Heap.lt_size e
  | ins C dx fs=>obtain ⟨_,_,_,e,_⟩:=x; exact Heap.lt_size e
  | own y=>obtain ⟨_,e⟩:=x; exact Heap.lt_size e
  | xd fs=>obtain ⟨_,⟨_,_,_,e,_⟩,_⟩:=x; exact Heap.lt_size e
  | rng lo hi=>obtain ⟨_,_,_,e⟩:=x; exact Heap.lt_size e
  | frz ob u=>obtain ⟨e,_⟩:=x; exact Heap.lt_size e
  | tbl ps=>exact Heap.lt_size (show h.get? a=some _ from x)
  | met f y=>exact Heap.lt_size (show h.get? a=some _ from x)
  | ext φ=>obtain ⟨_,⟨_,e⟩,_⟩:=x; exact Heap.lt_size e
theorem Paired.mapP {α β:Type} {F G:α→β→Prop}:∀ {l₁:List α} {l₂:List β},Paired F l₁ l₂→(∀ a b,F a b→G a b)→Paired G l₁ l₂
  | _,_,.nil,_=>.nil
  | _,_,.cons r t,f=>.cons (f _ _ r) (Paired.mapP t f)
theorem ObjOk.stay (x:ObjOk P w H h a o) (k:∀ b u,(b=a∨H b=some (.own a))→h.get? b=some u→h'.get? b=some u)
    (ho:∀ b,H b=some (.own a)→H' b=some (.own a)) (ht:∀ b xs,H b=some (.tup xs)→H' b=some (.tup xs)):ObjOk P w H' h' a o:=by
  induction o with
  | lst xs=>obtain ⟨z,its,n,r,e⟩:=x; exact ⟨z,its,n,r,k _ _ (.inl rfl) e⟩
  | tup xs=>obtain ⟨z,its,r,ob,e,c⟩:=x; exact ⟨z,its,r,ob,k _ _ (.inl rfl) e,c⟩
  | dK kvs=>obtain ⟨z,y,vs,r,ob,es,ep,e,c⟩:=x; exact ⟨z,y,vs,r,ob,es,ep,k _ _ (.inl rfl) e,c⟩
  | dT kvs =>
    obtain ⟨z,y,xs,r,ob,es,ep,e,c⟩:=x
    exact ⟨z,y,xs,Paired.mapP r fun p q z=>⟨z.1,ht _ _ z.2.1,z.2.2⟩,ob,es,ep,k _ _ (.inl rfl) e,c⟩
  | set S n=>obtain ⟨ob,es,ep,t,e,c⟩:=x; exact ⟨ob,es,ep,t,k _ _ (.inl rfl) e,c⟩
  | ins C dx fs =>
    obtain ⟨d,z,ne,e,mA,⟨od,es,ep,e2,c⟩,r⟩:=x
    exact ⟨ho _ d,z,ne,k _ _ (.inl rfl) e,mA,⟨od,es,ep,k _ _ (.inr d) e2,c⟩,r⟩
  | own y=>obtain ⟨ob,e⟩:=x; exact ⟨ob,k _ _ (.inl rfl) e⟩
  | xd fs=>obtain ⟨mA,⟨od,es,ep,e,c⟩,r⟩:=x; exact ⟨mA,⟨od,es,ep,k _ _ (.inl rfl) e,c⟩,r⟩
  | rng lo hi=>obtain ⟨t,u,v,e⟩:=x; exact ⟨t,u,v,k _ _ (.inl rfl) e⟩
  | frz ob u ih=>obtain ⟨e,q⟩:=x; exact ⟨k _ _ (.inl rfl) e,ih q⟩
  | tbl ps =>
    have e:h.get? a=some {cls:=.none,data:=.fields ps}:=x
    show h'.get? a=some {cls:=.none,data:=.fields ps}
    exact k a _ (.inl rfl) e
  | met f y =>
    have e:h.get? a=some (PySem.W.methodObj (.ref f) (.ref y)):=x
    show h'.get? a=some (PySem.W.methodObj (.ref f) (.ref y))
    exact k a _ (.inl rfl) e
  | ext φ=>obtain ⟨p,⟨o,e⟩,st⟩:=x; exact ⟨st _ _ p fun o q=>k _ _ (.inl rfl) q,⟨o,k _ _ (.inl rfl) e⟩,st⟩
theorem HOk.lt (x:HOk P w H h) (e:H a=some o):a < h.objs.size:=(x a o e).lt
theorem HOk.fresh (x:HOk P w H h) (e:h.objs.size≤a):H a=none:=by
  cases q:H a with
  | none=>rfl
  | some u=>exact absurd (Nat.lt_of_lt_of_le (x.lt q) e) (Nat.lt_irrefl _)
theorem HOk.kept (x:HOk P w H h) (k:∀ b u,h.get? b=some u→h'.get? b=some u):HOk P w H h':=fun a o e =>
  (x a o e).stay (fun b u _ q=>k b u q) (fun _ q=>q) fun _ _ q=>q
theorem HOk.laid (x:HOk P w H h) (k:∀ b u,h.get? b=some u→h'.get? b=some u) (hp:h.objs.size≤a) (new:ObjOk P w (upd H a o) h' a o):HOk P w (upd H a o) h':=fun b u e=>by
  have hn:=x.fresh hp
  by_cases hb:b=a
  · subst hb; rw [upd_same] at e; cases e; exact new
  · rw [upd_ne hb] at e
    exact (x b u e).stay (fun c v _ q=>k c v q) (fun c q=>by rw [upd_ne (ne_of_none q hn)]; exact q) fun c xs q=>by rw [upd_ne (ne_of_none q hn)]; exact q
end
def Rd (H:Hp) (a:Addr) (u:HO):Prop:=H a=some u∨∃ o,H a=some (.frz o u)
theorem Rd.ok {P:Program} {w:World} {H:Hp} {h:Heap} {a:Addr} {u:HO} (r:Rd H a u) (x:HOk P w H h):ObjOk P w H h a u:=by
  rcases r with r | ⟨o,r⟩
  · exact x a u r
  · obtain ⟨_,q⟩:=x a _ r
    exact q
def Mut:Option HO→Prop
  | some (.lst _)=>True
  | some (.dK _)=>True
  | some (.dT _)=>True
  | some (.set _ _)=>True
  | some (.ins _ _ _)=>True
  | some (.ext _)=>True
  | _=>False
section
variable {P:Program} {w:World} {H:Hp} {h h':Heap} {x e:Addr} {o':HO}
theorem HOk.write (ok:HOk P w H h) (mu:Mut (H x)) (he:e=x∨H e=some (.own x)) (k:∀ b u,b≠e→h.get? b=some u→h'.get? b=some u) (heo:∃ u,h'.get? e=some u)
    (new:ObjOk P w (upd H x o') h' x o'):HOk P w (upd H x o') h':=fun b u q=>by
  have nown:∀ c y,H c=some (.own y)→c≠x:=fun c y r z=>by subst z; rw [r] at mu; exact mu
  have ntup:∀ c xs,H c=some (.tup xs)→c≠x:=fun c xs r z=>by subst z; rw [r] at mu; exact mu
  by_cases hb:b=x
  · subst hb; rw [upd_same] at q; cases q; exact new
  · rw [upd_ne hb] at q
    by_cases hbe:b=e
    · have q':H b=some (.own x):=by
        rcases he with z | z
        · exact absurd (hbe.trans z) hb
        · rw [hbe]; exact z
      rw [q] at q'; cases q'
      obtain ⟨v,hv⟩:=heo
      exact ⟨v,by rw [hbe]; exact hv⟩
    · refine (ok b u q).stay (fun c v hc r=>k c v ?_ r) (fun c r=>by rw [upd_ne (nown c b r)]; exact r) fun c xs r=>by rw [upd_ne (ntup c xs r)]; exact r
      rcases hc with rfl | hc
      · exact hbe
      · rintro rfl
        rcases he with z | z
        · exact nown c b hc z
        · rw [hc] at z; cases z; exact hb rfl
end
structure Un (fs ex:List Addr) (H H':Hp) (h h':Heap):Prop where
  keep:∀ b o,h.get? b=some o→H b=none→b∉fs→b∉ex→h'.get? b=some o
  slot:∀ b o,h.get? b=some o→H b=none→b∈fs→b∉ex→∃ sl,h'.get? b=some {o with slots:=sl}
  free:∀ b o,h.get? b=some o→H b=none→b∉ex→H' b=none
  there:∀ b o,h.get? b=some o→b∉ex→∃ o',h'.get? b=some o'
  tups:∀ b xs,H b=some (.tup xs)→H' b=some (.tup xs)
  frzs:∀ b o u,H b=some (.frz o u)→H' b=some (.frz o u)
  tbls:∀ b ps,H b=some (.tbl ps)→∃ more,H' b=some (.tbl (ps++more))
section
variable {fs fs' ex ex':List Addr} {H H1 H2:Hp} {h h1 h2 h':Heap} {a x e:Addr} {o:HO}
theorem Un.any (u:Un fs ex H H1 h h1) {b:Addr} {ob:Obj} (q:h.get? b=some ob) (n:H b=none) (hx:b∉ex):∃ sl,h1.get? b=some {ob with slots:=sl}:=by
  by_cases hb:b∈fs
  · exact u.slot b ob q n hb hx
  · exact ⟨ob.slots,u.keep b ob q n hb hx⟩
theorem Un.kept (k:∀ b u,h.get? b=some u→h'.get? b=some u):Un fs ex H H h h':=
  ⟨fun b ob q _ _ _=>k b ob q,fun b ob q _ _ _=>⟨ob.slots,k b ob q⟩,fun _ _ _ n _=>n,fun b ob q _=>⟨ob,k b ob q⟩,fun _ _ q=>q,fun _ _ _ q=>q,fun _ ps q=>⟨#[],by rw [q]; simp⟩⟩
theorem Un.refl:Un fs ex H H h h:=Un.kept fun _ _ q=>q
theorem Un.laid (k:∀ b u,h.get? b=some u→h'.get? b=some u) (hp:h.objs.size≤a) (hn:H a=none):Un fs ex H (upd H a o) h h' where
  keep:=fun b u q _ _ _=>k b u q
  slot:=fun b u q _ _ _=>⟨u.slots,k b u q⟩
  free:=fun b u q n _=>by rw [upd_ne (Nat.ne_of_lt (Nat.lt_of_lt_of_le (Heap.lt_size q) hp))]; exact n
  there:=fun b u q _=>⟨u,k b u q⟩
  tups:=fun b xs q=>by rw [upd_ne (ne_of_none q hn)]; exact q
  frzs:=fun b u xs q=>by rw [upd_ne (ne_of_none q hn)]; exact q
  tbls:=fun b ps q=>⟨#[],by rw [upd_ne (ne_of_none q hn),q]; simp⟩
theorem Un.write (mu:Mut (H x)) (he:e=x∨H e=some (.own x)) (k:∀ b u,b≠e→h.get? b=some u→h'.get? b=some u) (heo:∃ u,h'.get? e=some u):Un fs ex H (upd H x o) h h':=by
  have hx:∀ b,H b=none→b≠x:=fun b n z=>by subst z; rw [n] at mu; exact mu
  have hb:∀ b,H b=none→b≠e:=fun b n z=>by
    subst z
    rcases he with r | r
    · exact hx b n r
    · rw [n] at r; cases r
  have hm:∀ b u,H b=some u→¬ Mut (some u)→b≠x:=fun b u q nm z=>by subst z; rw [q] at mu; exact nm mu
  refine ⟨fun b u q n _ _=>k b u (hb b n) q,fun b u q n _ _=>⟨u.slots,k b u (hb b n) q⟩,fun b u q n _=>by rw [upd_ne (hx b n)]; exact n,fun b u q _=>?_,
    fun b xs q=>by rw [upd_ne (hm b _ q fun z=>z)]; exact q,fun b u xs q=>by rw [upd_ne (hm b _ q fun z=>z)]; exact q,fun b ps q=>⟨#[],by rw [upd_ne (hm b _ q fun z=>z),q]; simp⟩⟩
  by_cases hbe:b=e
  · subst hbe; exact heo
  · exact ⟨u,k b u hbe q⟩
end
def trk (h:Heap) (H:Hp):List Addr:=(List.range h.objs.size).filter fun a=>(H a).isSome
def hidT (h:Heap) (H:Hp):Heap:=PySem.W.hideAll h (trk h H)
theorem hidT_size (h:Heap) (H:Hp):(hidT h H).objs.size=h.objs.size:=PySem.W.hideAll_size _ _
theorem hidT_get {h:Heap} {H:Hp} {b:Addr} {o:Obj} (e:h.get? b=some o) (n:H b=none):(hidT h H).get? b=some o:=
  PySem.W.hideAll_get _ e fun hm=>by
    have q:(H b).isSome=true:=(List.mem_filter.mp hm).2
    rw [n] at q; simp at q
theorem of_hidT {h:Heap} {H:Hp} {b:Addr} {o:Obj} (e:(hidT h H).get? b=some o):h.get? b=some o∧H b=none:=by
  have e':h.get? b=some o:=PySem.W.of_hideAll (trk h H) e
  refine ⟨e',?_⟩
  cases q:H b with
  | none=>rfl
  | some x =>
    have hm:b∈trk h H:=List.mem_filter.mpr ⟨List.mem_range.mpr (Heap.lt_size e'),by simp [q]⟩
    have z:(hidT h H).get? b=none:=PySem.W.hideAll_none (trk h H) hm
    rw [z] at e; cases e
def allNews (g h:Heap) (L:Addr):List (Addr×Obj):=(List.range h.objs.size).filterMap fun a=>if a=L∨(g.get? a).isSome=true then none else (h.get? a).map fun o=>(a,o)
def rest (g h:Heap) (L d:Addr):List (Addr×Obj):=(allNews g h L).filter fun p=>decide (p.1≠d)
end L2
namespace L2
open PySem PySem.Spec PyProof.Rows
structure Mod (K:PySem.W.Frag) (mg:Str→Option Value) (base:Heap):Prop where
  kin:K.In base
  glob:base.Ns mainGlobals mg
  blt:∃ mb,base.Ns builtinsNs mb∧∀ x:Str,x≠"__name__"→mb x=bootBuiltins x
  nolimit:base.NoLimit
structure Cx where
  prog:Program
  w:World
  K:PySem.W.Frag
  mg:Str→Option Value
  base:Heap
  A:Around
  N:List Str
  s₀:Shared
  H₀:Hp
  env:Env
  outer:List Env
  stack:List Env
  ex:List Addr
  fn:Str→Bool
  calm:Bool
  pn:List (Addr×Obj)
  xe:Value→Shared→Prop
def frs (l:List Env):List Addr:=l.filterMap (·.frame)
abbrev Cx.fs (X:Cx):List Addr:=frs X.outer
def Vis (sc:Scope) (x:Str):Prop:=sc.names.lookup x=some .local∨sc.names.lookup x=some .cell∨sc.names.lookup x=some .free
def Loc (sc:Scope) (x:Str):Prop:=sc.names.lookup x=some .local∨sc.names.lookup x=some .cell
def Look (env:Env) (h:Heap) (m:Str→Option Value) (x:Str) (u:Value):Prop:=
  (env.kindOf x=some .local∧m x=some u)∨((env.kindOf x=some .cell∨env.kindOf x=some .free)∧∃ c,env.cells.lookup x=some c∧h.IsCell c (some u))
structure Cx.Ok (X:Cx):Prop where
  mod:Mod X.K X.mg X.base
  kind:X.env.scope.kind=.function
  glob:X.env.globals=mainGlobals
  blt:X.env.builtins=builtinsNs
  above:X.s₀.heap.objs.size≤X.env.locals
  inj:∀ x y c,X.env.cells.lookup x=some c→X.env.cells.lookup y=some c→x=y
  has:∀ x,(X.env.kindOf x=some .cell∨X.env.kindOf x=some .free)→∃ c,X.env.cells.lookup x=some c
  cab:∀ x c,X.fn x=true→X.env.cells.lookup x=some c→X.s₀.heap.objs.size≤c
  hd:X.calm=true→X.A.handled=none
  frames:X.A.frames=some X.stack
  stk:X.stack=X.outer∨(X.stack=X.env :: X.outer∧X.env.frame=some X.env.locals)
  exf:∀ b∈X.ex,b≠X.env.locals∧∀ x c,X.env.cells.lookup x=some c→c≠b
  bs:∀ b o,X.base.get? b=some o→X.s₀.heap.get? b=some o∧X.H₀ b=none
  bsz:X.base.objs.size≤X.s₀.heap.objs.size
  noex:∀ b o,X.base.get? b=some o→b∉X.ex
  exfs:∀ b∈X.ex,b∉X.fs
  funs:X.s₀.heap.FunFrames X.base X.outer
  frf:∀ b∈X.fs,X.H₀ b=none
structure Inv (X:Cx) (pins:List (Addr×Obj)) (σ:List (Option V)) (H:Hp) (s:Shared):Prop where
  ok:X.Ok
  os:s.os=X.s₀.os
  bare:AllBare s.gens
  base:Un X.fs X.ex X.H₀ H X.s₀.heap s.heap
  loc:∃ m,s.heap.Ns X.env.locals m∧∀ (i:Nat) (x:Str) (v:V),X.N[i]?=some x→σ[i]?=some (some v)→Vis X.env.scope x→∃ u,RelV v u∧Look X.env s.heap m x u
  cell:∀ x c,X.env.cells.lookup x=some c→∃ v,s.heap.IsCell c v
  free:H X.env.locals=none
  freeC:∀ x c,X.env.cells.lookup x=some c→H c=none
  pin:∀ p∈X.pn++pins,s.heap.get? p.1=some p.2∧H p.1=none∧p.1≠X.env.locals∧p.1∉X.fs∧∀ v,p.2.data≠.cell v
  hok:HOk X.prog X.w H s.heap
  len:σ.length=X.N.length
section
variable {X:Cx} {pins:List (Addr×Obj)} {σ:List (Option V)} {H H':Hp} {s:Shared} {h':Heap}
theorem Cx.Ok.nofr (ok:X.Ok) {b:Addr} {o:Obj} (e:X.base.get? b=some o):b∉X.fs:=fun hb=>by
  have:=(ok.funs.mem hb).1
  rw [e] at this; cases this
theorem Inv.bs (I:Inv X pins σ H s):∀ b o,X.base.get? b=some o→s.heap.get? b=some o∧H b=none:=fun b o e =>
  ⟨I.base.keep b o (I.ok.bs b o e).1 (I.ok.bs b o e).2 (I.ok.nofr e) (I.ok.noex b o e),I.base.free b o (I.ok.bs b o e).1 (I.ok.bs b o e).2 (I.ok.noex b o e)⟩
theorem Inv.bk (I:Inv X pins σ H s):∀ b o,X.base.get? b=some o→s.heap.get? b=some o:=fun b o e=>(I.bs b o e).1
theorem Inv.mod (I:Inv X pins σ H s):Mod X.K X.mg X.base:=I.ok.mod
theorem Inv.kIn (I:Inv X pins σ H s):X.K.In s.heap:=I.ok.mod.kin.keeps I.bk
theorem Inv.fr (I:Inv X pins σ H s):∃ m,Fr X.base X.env.locals s.heap m:=
  let ⟨m,hn,_⟩:=I.loc
  ⟨m,hn,I.bk,Nat.le_trans I.ok.bsz I.ok.above⟩
theorem Inv.lt (I:Inv X pins σ H s):X.env.locals < s.heap.objs.size:=let ⟨_,hn,_⟩:=I.loc; hn.lt
theorem Inv.sz (I:Inv X pins σ H s):X.s₀.heap.objs.size≤s.heap.objs.size:=Nat.le_trans I.ok.above (Nat.le_of_lt I.lt)
theorem Inv.nofs (I:Inv X pins σ H s) {a:Addr} (h:s.heap.objs.size≤a):a∉X.fs:=fun hb=>by
  obtain ⟨_,o,ho,_⟩:=I.ok.funs.mem hb
  exact absurd (Nat.lt_of_lt_of_le (Heap.lt_size ho) (Nat.le_trans I.sz h)) (Nat.lt_irrefl _)
theorem Inv.cne (I:Inv X pins σ H s):∀ x c,X.env.cells.lookup x=some c→c≠X.env.locals:=fun x c e z=>by
  obtain ⟨v,o,ho,hd⟩:=I.cell x c e
  obtain ⟨m,⟨o',es,ep,ho',hd',_⟩,_⟩:=I.loc
  rw [z,ho'] at ho; cases ho; rw [hd'] at hd; cases hd
theorem Inv.funs (I:Inv X pins σ H s):s.heap.FunFrames X.base X.outer:=by
  have all:∀ (l:List Env),(∀ b∈frs l,b∈X.fs)→X.s₀.heap.FunFrames X.base l→s.heap.FunFrames X.base l:=by
    intro l
    induction l with
    | nil=>intro _ _; trivial
    | cons env r ih =>
      intro hs hl
      obtain ⟨hk,⟨L,o,hf,hn,ho,hd⟩,hr⟩:=hl
      have hL:L∈X.fs:=hs L (by unfold frs; rw [List.filterMap_cons,hf]; exact List.mem_cons_self)
      obtain ⟨sl,e⟩:=I.base.slot L o ho (I.ok.frf L hL) hL fun z=>I.ok.exfs L z hL
      exact ⟨hk,⟨L,_,hf,hn,e,hd⟩,ih (fun b hb=>hs b (by unfold frs; rw [List.filterMap_cons,hf]; exact List.mem_cons_of_mem _ hb)) hr⟩
  exact all X.outer (fun _ hb=>hb) I.ok.funs
theorem Inv.stack (I:Inv X pins σ H s):s.heap.FunFrames X.base X.stack:=by
  rcases I.ok.stk with e | ⟨e,hf⟩
  · rw [e]; exact I.funs
  · rw [e]
    obtain ⟨m,hn,_⟩:=I.loc
    refine .cons (by rw [I.ok.kind]; decide) hf hn ?_ I.funs
    exact Heap.get?_none_of_le (Nat.le_trans I.ok.bsz I.ok.above)
theorem Inv.stkSub (I:Inv X pins σ H s):∀ b∈frs X.stack,b∈X.env.locals :: X.fs:=fun b hb=>by
  rcases I.ok.stk with e | ⟨e,hf⟩
  · rw [e] at hb; exact List.mem_cons_of_mem _ hb
  · rw [e] at hb
    unfold frs at hb
    rw [List.filterMap_cons,hf] at hb
    exact hb
theorem Inv.stkFree (I:Inv X pins σ H s):∀ b∈frs X.stack,H b=none:=fun b hb=>by
  rcases List.mem_cons.mp (I.stkSub b hb) with e | hb
  · rw [e]; exact I.free
  · obtain ⟨_,o,ho,_⟩:=I.ok.funs.mem hb
    exact I.base.free b o ho (I.ok.frf b hb) fun z=>I.ok.exfs b z hb
theorem Inv.step {g':Array GenState} {t':Nat} {d':Drawn} {ch:List Addr} (I:Inv X pins σ H s)
    (hch:∀ b∈ch,(b∈X.ex∨X.s₀.heap.objs.size≤b)∧b≠X.env.locals∧(∀ x c,X.env.cells.lookup x=some c→c≠b)∧∀ p∈X.pn++pins,p.1≠b)
    (keep:∀ b o,b≠X.env.locals→b∉X.fs→b∉ch→s.heap.get? b=some o→H b=none→h'.get? b=some o)
    (slot:∀ b o,b≠X.env.locals→b∈X.fs→b∉ch→s.heap.get? b=some o→H b=none→∃ sl,h'.get? b=some {o with slots:=sl}) (free:∀ b o,b∉ch→s.heap.get? b=some o→H b=none→H' b=none)
    (there:∀ b o,b∉ch→s.heap.get? b=some o→∃ o',h'.get? b=some o')
    (tups:∀ b xs,H b=some (.tup xs)→H' b=some (.tup xs)) (frzs:∀ b o u,H b=some (.frz o u)→H' b=some (.frz o u)) (tbls:∀ b ps,H b=some (.tbl ps)→∃ more,H' b=some (.tbl (ps++more)))
    (ns:∀ m,s.heap.Ns X.env.locals m→h'.Ns X.env.locals m) (hok:HOk X.prog X.w H' h') (hg:AllBare g') :
    Inv X pins σ H' {s with heap:=h',gens:=g',drawn:=d',toks:=t'}:=by
  have neL:∀ b o,X.s₀.heap.get? b=some o→b≠X.env.locals:=fun b o e=>Nat.ne_of_lt (Nat.lt_of_lt_of_le (Heap.lt_size e) I.ok.above)
  have neC:∀ b o,X.s₀.heap.get? b=some o→b∉X.ex→b∉ch:=fun b o e hx hb=>by
    rcases (hch b hb).1 with z | z
    · exact hx z
    · exact absurd (Nat.lt_of_lt_of_le (Heap.lt_size e) z) (Nat.lt_irrefl _)
  have cellK:∀ x c,X.env.cells.lookup x=some c→∀ v,s.heap.IsCell c v→h'.IsCell c v:=fun x c e v ⟨o,ho,hd⟩=>by
    have nch:c∉ch:=fun z=>(hch c z).2.2.1 x c e rfl
    by_cases hc:c∈X.fs
    · obtain ⟨sl,q⟩:=slot c o (I.cne x c e) hc nch ho (I.freeC x c e)
      exact ⟨_,q,hd⟩
    · exact ⟨o,keep c o (I.cne x c e) hc nch ho (I.freeC x c e),hd⟩
  refine ⟨I.ok,I.os,hg,⟨fun b o e n hb hx=>?_,fun b o e n hb hx=>?_,fun b o e n hx=>?_,fun b o e hx=>?_,fun b xs e=>tups b xs (I.base.tups b xs e),fun b o xs e=>frzs b o xs (I.base.frzs b o xs e),fun b ps e=>?_⟩,?_,fun x c e=>?_,?_,fun x c e=>?_,fun p hp=>?_,hok,I.len⟩
  · exact keep b o (neL b o e) hb (neC b o e hx) (I.base.keep b o e n hb hx) (I.base.free b o e n hx)
  · obtain ⟨sl,e1⟩:=I.base.slot b o e n hb hx
    obtain ⟨sl',e2⟩:=slot b _ (neL b o e) hb (neC b o e hx) e1 (I.base.free b o e n hx)
    exact ⟨sl',e2⟩
  · obtain ⟨o',e1⟩:=I.base.there b o e hx
    exact free b o' (neC b o e hx) e1 (I.base.free b o e n hx)
  · obtain ⟨o',e1⟩:=I.base.there b o e hx
    exact there b o' (neC b o e hx) e1
  · obtain ⟨m1,e1⟩:=I.base.tbls b ps e
    obtain ⟨m2,e2⟩:=tbls b _ e1
    exact ⟨m1++m2,by rw [e2,Array.append_assoc]⟩
  · obtain ⟨m,hn,hl⟩:=I.loc
    refine ⟨m,ns m hn,fun i x v e1 e2 e3=>?_⟩
    obtain ⟨u,r,l⟩:=hl i x v e1 e2 e3
    refine ⟨u,r,?_⟩
    rcases l with l | ⟨k,c,e,z⟩
    · exact .inl l
    · exact .inr ⟨k,c,e,cellK x c e _ z⟩
  · obtain ⟨v,z⟩:=I.cell x c e
    exact ⟨v,cellK x c e v z⟩
  · obtain ⟨m,⟨o,_,_,ho,_⟩,_⟩:=I.loc
    exact free _ o (fun z=>(hch _ z).2.1 rfl) ho I.free
  · obtain ⟨v,o,ho,hd⟩:=I.cell x c e
    exact free c o (fun z=>(hch c z).2.2.1 x c e rfl) ho (I.freeC x c e)
  · obtain ⟨e,n,ne,nf,d⟩:=I.pin p hp
    have nch:p.1∉ch:=fun z=>(hch p.1 z).2.2.2 p hp rfl
    exact ⟨keep p.1 p.2 ne nf nch e n,free p.1 p.2 nch e n,ne,nf,d⟩
theorem Inv.un {t':Nat} (I:Inv X pins σ H s) (u:Un X.fs [] H H' s.heap h') (hok:HOk X.prog X.w H' h'):Inv X pins σ H' {s with heap:=h',toks:=t'}:=by
  obtain ⟨m,⟨o,es,ep,ho,r⟩,_⟩:=id I.loc
  obtain ⟨sl,hL⟩:=u.any ho I.free (by simp)
  exact I.step (g':=s.gens) (d':=s.drawn) (ch:=[]) (fun _ z=>nomatch z) (fun b o _ hb _ e n=>u.keep b o e n hb (by simp)) (fun b o _ hb _ e n=>u.slot b o e n hb (by simp)) (fun b o _ e n=>u.free b o e n (by simp)) (fun b o _ e=>u.there b o e (by simp)) u.tups u.frzs u.tbls (fun m' hm=>by
    obtain ⟨o',es',ep',ho',r'⟩:=hm
    rw [ho] at ho'; cases ho'
    exact ⟨_,es',ep',hL,r'⟩) hok I.bare
theorem Inv.call {g':Array GenState} {t':Nat} {d':Drawn} {ch:List Addr} (I:Inv X pins σ H s) (u:Un (frs X.stack) ch H H' s.heap h') (hok:HOk X.prog X.w H' h') (hg:AllBare g')
    (hch:∀ b∈ch,(b∈X.ex∨X.s₀.heap.objs.size≤b)∧b≠X.env.locals∧(∀ x c,X.env.cells.lookup x=some c→c≠b)∧∀ p∈X.pn++pins,p.1≠b) :
    Inv X pins σ H' {s with heap:=h',gens:=g',drawn:=d',toks:=t'}:=by
  obtain ⟨m,⟨o,es,ep,ho,r⟩,_⟩:=id I.loc
  obtain ⟨sl,hL⟩:=u.any ho I.free fun z=>(hch _ z).2.1 rfl
  exact I.step (ch:=ch) hch (fun b o hL hb hc e n=>u.keep b o e n (fun z=>(List.mem_cons.mp (I.stkSub b z)).elim hL hb) hc) (fun b o _ _ hc e n=>u.any e n hc) (fun b o hc e n=>u.free b o e n hc) (fun b o hc e=>u.there b o e hc) u.tups u.frzs u.tbls (fun m' hm=>by
    obtain ⟨o',es',ep',ho',r'⟩:=hm
    rw [ho] at ho'; cases ho'
    exact ⟨_,es',ep',hL,r'⟩) hok hg
theorem Inv.turned {t':Nat} {it:Addr} (I:Inv X pins σ H s) (k:∀ b o,b≠it→s.heap.get? b=some o→h'.get? b=some o) (hn:H it=none) (hL:it≠X.env.locals)
    (h1:it∈X.ex∨X.s₀.heap.objs.size≤it) (h2:∀ x c,X.env.cells.lookup x=some c→c≠it) (h3:∀ p∈X.pn++pins,p.1≠it):Inv X pins σ H {s with heap:=h',toks:=t'}:=by
  have nit:∀ b u,H b=some u→b≠it:=fun b u e z=>by rw [z,hn] at e; cases e
  refine I.step (g':=s.gens) (d':=s.drawn) (ch:=[it]) (fun b hb=>?_) (fun b o _ _ hc e _=>k b o (fun z=>hc (by simp [z])) e) (fun b o _ _ hc e _=>⟨o.slots,k b o (fun z=>hc (by simp [z])) e⟩) (fun _ _ _ _ n=>n)
    (fun b o hc e=>⟨o,k b o (fun z=>hc (by simp [z])) e⟩) (fun _ _ e=>e) (fun _ _ _ e=>e) (fun b ps e=>⟨#[],by rw [e]; simp⟩) (fun m hm=>?_) (fun b u e=>?_) I.bare
  · have e:b=it:=by simpa using hb
    subst e
    exact ⟨h1,hL,h2,h3⟩
  · obtain ⟨o,es,ep,ho,r⟩:=hm
    exact ⟨o,es,ep,k _ o (Ne.symm hL) ho,r⟩
  · refine (I.hok b u e).stay (fun c v hc q=>k c v ?_ q) (fun _ q=>q) fun _ _ q=>q
    rcases hc with z | z
    · rw [z]; exact nit b u e
    · exact nit c _ z
theorem Inv.tok (I:Inv X pins σ H s) (t:Nat):Inv X pins σ H {s with toks:=t}:=I.un (h':=s.heap) (t':=t) Un.refl I.hok
theorem Inv.kept {t':Nat} (I:Inv X pins σ H s) (k:∀ b u,s.heap.get? b=some u→h'.get? b=some u):Inv X pins σ H {s with heap:=h',toks:=t'}:=I.un (Un.kept k) (I.hok.kept k)
theorem Inv.laid {a:Addr} {o:HO} {t':Nat} (I:Inv X pins σ H s) (k:∀ b u,s.heap.get? b=some u→h'.get? b=some u) (hp:s.heap.objs.size≤a) (new:ObjOk X.prog X.w (upd H a o) h' a o) :
    Inv X pins σ (upd H a o) {s with heap:=h',toks:=t'}:=I.un (Un.laid k hp (I.hok.fresh hp)) (I.hok.laid k hp new)
theorem Inv.write {x e:Addr} {o:HO} {t':Nat} (I:Inv X pins σ H s) (mu:Mut (H x)) (he:e=x∨H e=some (.own x)) (k:∀ b u,b≠e→s.heap.get? b=some u→h'.get? b=some u) (heo:∃ u,h'.get? e=some u)
    (new:ObjOk X.prog X.w (upd H x o) h' x o):Inv X pins σ (upd H x o) {s with heap:=h',toks:=t'}:=I.un (Un.write mu he k heo) (I.hok.write mu he k heo new)
theorem Inv.weak {σ':List (Option V)} (I:Inv X pins σ H s) (hl:σ'.length=σ.length) (w:∀ (i:Nat) v,σ'[i]?=some (some v)→σ[i]?=some (some v)):Inv X pins σ' H s:=
  ⟨I.ok,I.os,I.bare,I.base,let ⟨m,hn,hl'⟩:=I.loc; ⟨m,hn,fun i x v e1 e2 e3=>hl' i x v e1 (w i v e2) e3⟩,I.cell,I.free,I.freeC,I.pin,I.hok,hl.trans I.len⟩
theorem Inv.pins_of {pins':List (Addr×Obj)} (I:Inv X pins σ H s) (h:∀ p∈pins',s.heap.get? p.1=some p.2∧H p.1=none∧p.1≠X.env.locals∧p.1∉X.fs∧∀ v,p.2.data≠.cell v):Inv X pins' σ H s:=
  ⟨I.ok,I.os,I.bare,I.base,I.loc,I.cell,I.free,I.freeC,fun p hp=>(List.mem_append.mp hp).elim (fun z=>I.pin p (List.mem_append_left _ z)) (h p),I.hok,I.len⟩
theorem nodup_ix {N:List Str} (hN:N.Nodup) {i j:Nat} {x:Str} (a:N[i]?=some x) (b:N[j]?=some x):i=j:=by
  obtain ⟨h1,e1⟩:=List.getElem?_eq_some_iff.mp a
  obtain ⟨h2,e2⟩:=List.getElem?_eq_some_iff.mp b
  exact (List.getElem_inj hN).mp (e1.trans e2.symm)
theorem store_ok2 {M:Model} {A:Around} {E:Value→Shared→Prop} {i:Nat} {x:Str} {v:V} {u:Value} {Q:Unit→Shared→Prop} (I:Inv X pins σ H s) (hN:X.N.Nodup) (hi:X.N[i]?=some x) (hx:Loc X.env.scope x) (r:RelV v u)
    (h:∀ s',Inv X pins (σ.set i (some v)) H s'→(∃ a,Heap.SameBut a s.heap s'.heap∧(a=X.env.locals∨X.env.cells.lookup x=some a))→Q () s') (hf:X.fn x=true∨X.env.scope.names.lookup x=some .local:=by first | exact .inl rfl | exact .inr rfl | assumption):wpAny M A (storeName X.env x u) Q E s:=by
  obtain ⟨m,hn,hl⟩:=id I.loc
  have hcls:(X.env.scope.kind == .class || (X.env.scope.kind == .module && X.env.locals != X.env.globals))=false:=by rw [I.ok.kind]; rfl
  have hiσ:i < σ.length:=by rw [I.len]; exact (List.getElem?_eq_some_iff.mp hi).1
  have cne:=I.cne
  have tracked:∀ {a:Addr} {h':Heap},(∃ o,s.heap.get? a=some o∧H a=none)→Heap.SameBut a s.heap h'→HOk X.prog X.w H h':=fun {a h'} ha hs b ob e=>by
    obtain ⟨_,_,hfree⟩:=ha
    refine (I.hok b ob e).stay (fun c w' hc q=>(hs.2 c ?_).trans q) (fun _ q=>q) fun _ _ q=>q
    rintro rfl
    rcases hc with rfl | hc
    · rw [hfree] at e; cases e
    · rw [hfree] at hc; cases hc
  rcases hx with hk | hk
  · refine wpAny_storeName_local hk hn (fun h' hn' hs=>?_) hcls
    obtain ⟨oL,_,_,hoL,_⟩:=id hn
    refine h _ ⟨I.ok,I.os,I.bare,⟨fun b o e n hb hx=>?_,fun b o e n hb hx=>?_,I.base.free,fun b o e hx=>?_,I.base.tups,I.base.frzs,I.base.tbls⟩,⟨_,hn',fun j y v' e1 e2 e3=>?_⟩,fun y c e=>?_,I.free,I.freeC,fun p hp=>?_,tracked ⟨oL,hoL,I.free⟩ hs,by simpa using I.len⟩ ⟨_,hs,.inl rfl⟩
    · exact (hs.2 b (Nat.ne_of_lt (Nat.lt_of_lt_of_le (Heap.lt_size e) I.ok.above))).trans (I.base.keep b o e n hb hx)
    · obtain ⟨sl,e1⟩:=I.base.slot b o e n hb hx
      exact ⟨sl,(hs.2 b (Nat.ne_of_lt (Nat.lt_of_lt_of_le (Heap.lt_size e) I.ok.above))).trans e1⟩
    · obtain ⟨o',e1⟩:=I.base.there b o e hx
      exact ⟨o',(hs.2 b (Nat.ne_of_lt (Nat.lt_of_lt_of_le (Heap.lt_size e) I.ok.above))).trans e1⟩
    · by_cases hj:j=i
      · subst hj
        rw [hi] at e1; cases e1
        rw [List.getElem?_set_self hiσ] at e2
        cases e2
        exact ⟨u,r,.inl ⟨hk,by simp⟩⟩
      · rw [List.getElem?_set_ne (Ne.symm hj)] at e2
        obtain ⟨u',r',q⟩:=hl j y v' e1 e2 e3
        refine ⟨u',r',?_⟩
        rcases q with ⟨k,e⟩ | ⟨k,c,e,z⟩
        · refine .inl ⟨k,?_⟩
          have:y≠x:=fun e=>hj (nodup_ix hN e1 (e ▸ hi))
          simp [this,e]
        · exact .inr ⟨k,c,e,z.sameBut hs (cne y c e)⟩
    · obtain ⟨w',z⟩:=I.cell y c e
      exact ⟨w',z.sameBut hs (cne y c e)⟩
    · obtain ⟨e,n,ne,nf,d⟩:=I.pin p hp
      exact ⟨(hs.2 p.1 ne).trans e,n,ne,nf,d⟩
  · have hfn:X.fn x=true:=by
      rcases hf with z | z
      · exact z
      · rw [z] at hk; cases hk
    obtain ⟨c,hc⟩:=I.ok.has x (.inl hk)
    obtain ⟨w',z⟩:=I.cell x c hc
    refine wpAny_storeName_cell I.ok.kind hk hc z (fun h' hc' hs=>?_)
    obtain ⟨oc,hoc,hocd⟩:=id z
    refine h {s with heap:=h'} ⟨I.ok,I.os,I.bare,⟨fun b o e n hb hx=>?_,fun b o e n hb hx=>?_,I.base.free,fun b o e hx=>?_,I.base.tups,I.base.frzs,I.base.tbls⟩,⟨m,hn.sameBut hs (Ne.symm (cne x c hc)),fun j y v' e1 e2 e3=>?_⟩,fun y c' e=>?_,I.free,I.freeC,fun p hp=>?_,tracked ⟨oc,hoc,I.freeC x c hc⟩ hs,by simpa using I.len⟩ ⟨c,hs,.inr hc⟩
    · exact (hs.2 b (Nat.ne_of_lt (Nat.lt_of_lt_of_le (Heap.lt_size e) (I.ok.cab x c hfn hc)))).trans (I.base.keep b o e n hb hx)
    · obtain ⟨sl,e1⟩:=I.base.slot b o e n hb hx
      exact ⟨sl,(hs.2 b (Nat.ne_of_lt (Nat.lt_of_lt_of_le (Heap.lt_size e) (I.ok.cab x c hfn hc)))).trans e1⟩
    · obtain ⟨o',e1⟩:=I.base.there b o e hx
      exact ⟨o',(hs.2 b (Nat.ne_of_lt (Nat.lt_of_lt_of_le (Heap.lt_size e) (I.ok.cab x c hfn hc)))).trans e1⟩
    · by_cases hj:j=i
      · subst hj
        rw [hi] at e1; cases e1
        rw [List.getElem?_set_self hiσ] at e2
        cases e2
        exact ⟨u,r,.inr ⟨.inl hk,c,hc,hc'⟩⟩
      · rw [List.getElem?_set_ne (Ne.symm hj)] at e2
        obtain ⟨u',r',q⟩:=hl j y v' e1 e2 e3
        refine ⟨u',r',?_⟩
        rcases q with q | ⟨k,c',e,z'⟩
        · exact .inl q
        · refine .inr ⟨k,c',e,z'.sameBut hs ?_⟩
          rintro rfl
          exact hj (nodup_ix hN e1 (I.ok.inj _ _ _ e hc ▸ hi))
    · by_cases hcc:c'=c
      · subst hcc; exact ⟨_,hc'⟩
      · obtain ⟨w2,z2⟩:=I.cell y c' e
        exact ⟨w2,z2.sameBut hs hcc⟩
    · obtain ⟨e,n,ne,nf,d⟩:=I.pin p hp
      refine ⟨(hs.2 p.1 ?_).trans e,n,ne,nf,d⟩
      intro q
      rw [q,hoc] at e
      have q':oc=p.2:=Option.some.inj e
      exact d w' (by rw [← q']; exact hocd)
theorem store_ok {M:Model} {A:Around} {E:Value→Shared→Prop} {i:Nat} {x:Str} {v:V} {u:Value} {Q:Unit→Shared→Prop} (I:Inv X pins σ H s) (hN:X.N.Nodup) (hi:X.N[i]?=some x) (hx:Loc X.env.scope x) (r:RelV v u)
    (h:∀ s',Inv X pins (σ.set i (some v)) H s'→Q () s') (hf:X.fn x=true∨X.env.scope.names.lookup x=some .local:=by first | exact .inl rfl | exact .inr rfl | assumption):wpAny M A (storeName X.env x u) Q E s:=
  store_ok2 I hN hi hx r (fun s' I' _=>h s' I') hf
theorem Inv.call' {s':Shared} {ch:List Addr} (I:Inv X pins σ H s) (ho:s'.os=s.os) (u:Un (frs X.stack) ch H H' s.heap s'.heap) (hok:HOk X.prog X.w H' s'.heap) (hg:AllBare s'.gens)
    (hch:∀ b∈ch,(b∈X.ex∨X.s₀.heap.objs.size≤b)∧b≠X.env.locals∧(∀ x c,X.env.cells.lookup x=some c→c≠b)∧∀ p∈X.pn++pins,p.1≠b):Inv X pins σ H' s':=by
  obtain ⟨h',g',d',t',o'⟩:=s'
  have e:o'=s.os:=ho
  subst e
  exact I.call (g':=g') (t':=t') (d':=d') u hok hg hch
end
abbrev XK:=Value→Option Addr→Hp→Prop
abbrev St:=List (Option V)
abbrev VK:=V→Hp→Prop
abbrev TE:=St→Hp→VK→Prop
abbrev TT:=St→Hp→(Bool→Hp→Prop)→Prop
abbrev TA:=St→Hp→(List V→Hp→Prop)→Prop
structure Ends where
  nx:St→Hp→Prop
  rt:VK
  bk:St→Hp→Prop:=fun _ _=>False
  ct:St→Hp→Prop:=fun _ _=>False
abbrev TS:=Ends→St→Hp→Prop
def EP (X:Cx) (pins:List (Addr×Obj)) (σ:St) (Q:VK) (u:Value) (s':Shared):Prop:=∃ v H',Inv X pins σ H' s'∧RelV v u∧Q v H'
def TP (X:Cx) (pins:List (Addr×Obj)) (σ:St) (Q:Bool→Hp→Prop) (b:Bool) (s':Shared):Prop:=∃ H',Inv X pins σ H' s'∧Q b H'
def AP (X:Cx) (pins:List (Addr×Obj)) (σ:St) (Q:List V→Hp→Prop) (us:List Value) (s':Shared):Prop:=∃ vs H',Inv X pins σ H' s'∧Vals vs us∧Q vs H'
def SP (X:Cx) (pins:List (Addr×Obj)) (D:Ends) (f:Flow) (s':Shared):Prop:=
  match f with
  | .next=>∃ σ' H',Inv X pins σ' H' s'∧D.nx σ' H'
  | .brk=>∃ σ' H',Inv X pins σ' H' s'∧D.bk σ' H'
  | .cont=>∃ σ' H',Inv X pins σ' H' s'∧D.ct σ' H'
  | .ret u=>∃ v σ' H',Inv X pins σ' H' s'∧RelV v u∧D.rt v H'
def PE (X:Cx) (e:Expr) (t:TE):Prop:=
  ∀ (pins:List (Addr×Obj)) (s:Shared) (σ:St) (H:Hp) (Q:VK),Inv X pins σ H s→t σ H Q→wpAny (model X.prog X.w) X.A (eval e X.env) (EP X pins σ Q) X.xe s
def PT (X:Cx) (e:Expr) (t:TT):Prop:=
  ∀ (pins:List (Addr×Obj)) (s:Shared) (σ:St) (H:Hp) (Q:Bool→Hp→Prop),Inv X pins σ H s→t σ H Q→wpAny (model X.prog X.w) X.A (isTrue e X.env (eval e X.env)) (TP X pins σ Q) X.xe s
def PW (X:Cx) (e:Expr) (t:TT):Prop:=
  ∀ (whole:Sem Value) (pins:List (Addr×Obj)) (s:Shared) (σ:St) (H:Hp) (Q:Bool→Hp→Prop),Inv X pins σ H s→t σ H Q→wpAny (model X.prog X.w) X.A (isTrue e X.env whole) (TP X pins σ Q) X.xe s
theorem PW.pt {X:Cx} {e:Expr} {t:TT} (h:PW X e t):PT X e t:=h _
def PA (X:Cx) (es:List Expr) (t:TA):Prop:=
  ∀ (pos:Pos) (pins:List (Addr×Obj)) (s:Shared) (σ:St) (H:Hp) (Q:List V→Hp→Prop),Inv X pins σ H s→t σ H Q→wpAny (model X.prog X.w) X.A (spliced (backTo pos (starEach es X.env))) (AP X pins σ Q) X.xe s
def PS (X:Cx) (st:Stmt) (t:TS):Prop:=
  ∀ (pins:List (Addr×Obj)) (s:Shared) (σ:St) (H:Hp) (D:Ends),Inv X pins σ H s→t D σ H→wpAny (model X.prog X.w) X.A (exec st X.env) (SP X pins D) X.xe s
def PSs (X:Cx) (st:List Stmt) (t:TS):Prop:=
  ∀ (pins:List (Addr×Obj)) (s:Shared) (σ:St) (H:Hp) (D:Ends),Inv X pins σ H s→t D σ H→wpAny (model X.prog X.w) X.A (execs st X.env) (SP X pins D) X.xe s
theorem thn {α:Type} {t:Sem α} {Q Q':α→Shared→Prop} {M:Model} {A:Around} {E:Value→Shared→Prop} {s:Shared} (h:wpAny M A t Q E s) (hQ:∀ a s,Q a s→Q' a s):wpAny M A t Q' E s:=wpAny_mono h hQ fun _ _ x=>x
end L2
namespace L2
open PySem PySem.Spec PyProof.Rows
section
variable {X:Cx}
theorem bin {a b:Expr} {ta tb:TE} (ha:PE X a ta) (hb:PE X b tb) {pins:List (Addr×Obj)} {s:Shared} {σ:St} {H:Hp} {R:V→V→Hp→Prop} (I:Inv X pins σ H s) (h:ta σ H fun x H1=>tb σ H1 fun y H2=>R x y H2)
    {α:Type} {Q:α→Shared→Prop} {f:Value→Value→Sem α}
    (hf:∀ v u s2 x y H2,Inv X pins σ H2 s2→RelV x v→RelV y u→R x y H2→wpAny (model X.prog X.w) X.A (f v u) Q X.xe s2) :
    wpAny (model X.prog X.w) X.A (eval a X.env) (fun v s₁=>wpAny (model X.prog X.w) X.A (eval b X.env) (fun u s₂=>wpAny (model X.prog X.w) X.A (f v u) Q X.xe s₂) X.xe s₁) X.xe s:=by
  refine thn (ha pins s σ H _ I h) fun v s1 ⟨x,H1,I1,r1,q1⟩=>?_
  refine thn (hb pins s1 σ H1 _ I1 q1) fun u s2 ⟨y,H2,I2,r2,q2⟩=>?_
  exact hf v u s2 x y H2 I2 r1 r2 q2
def tVar (i:Nat):TE:=fun σ H Q=>∃ v,σ[i]?=some (some v)∧Q v H
def tC (v:V):TE:=fun _ H Q=>Q v H
theorem pe_var {i:Nat} {x:Str} {pos:Pos} (hN:X.N[i]?=some x) (hv:Vis X.env.scope x) (hd:(x == ("__debug__":Str))=false:=by decide) (hcd:(x == ("__classdict__":Str))=false:=by decide):PE X (.Name x pos) (tVar i):=by
  intro pins s σ H Q I h
  obtain ⟨v,e,h⟩:=h
  obtain ⟨m,hn,hl⟩:=I.loc
  obtain ⟨u,r,l⟩:=hl i x v hN e hv
  have fin:EP X pins σ Q u s:=⟨v,H,I,r,h⟩
  rcases l with ⟨hk,hm⟩ | ⟨hk,c,hc,hcell⟩
  · exact wpAny_Name (wpAny_loadName_local I.ok.kind hk hn hm fin) hd
  · rcases hk with hk | hk
    · exact wpAny_Name (wpAny_loadName_cell I.ok.kind hk hc hcell fin) hd
    · exact wpAny_Name (wpAny_loadName_free I.ok.kind hk hc hcell fin hcd) hd
theorem pe_int {i j pos}:PE X (.Constant (.int i) j pos) (tC (.int i)):=fun _ _ _ H _ I h=>wpAny_Constant_int ⟨.int i,H,I.tok _,⟨_,rfl⟩,h⟩
theorem pe_bl {b j pos}:PE X (.Constant (.bool b) j pos) (tC (.bl b)):=fun _ _ _ H _ I h=>Constant_bool ⟨.bl b,H,I,rfl,h⟩
theorem pe_str {x j pos}:PE X (.Constant (.str x) j pos) (tC (.str x)):=fun _ _ _ H _ I h=>Calls.Constant_str ⟨.str x,H,I.tok _,⟨_,rfl⟩,h⟩
def Gl (X:Cx) (x:Str):Prop:=X.env.kindOf x=some .globalImplicit
theorem ld_glob {E:Value→Shared→Prop} {pins:List (Addr×Obj)} {s:Shared} {σ:St} {H:Hp} {x:Str} {u:Value} {pos:Pos} {Q:Value→Shared→Prop} (I:Inv X pins σ H s) (hg:Gl X x) (hm:X.mg x=some u) (h:Q u s)
    (hd:(x == ("__debug__":Str))=false:=by decide):wpAny (model X.prog X.w) X.A (eval (.Name x pos) X.env) Q E s:=
  Calls.Name_function_global I.ok.kind hg (Calls.loadGlobal_global (by rw [I.ok.glob]; exact I.mod.glob.keeps I.bk) hm h) hd
theorem ld_blt {E:Value→Shared→Prop} {pins:List (Addr×Obj)} {s:Shared} {σ:St} {H:Hp} {x:Str} {u:Value} {pos:Pos} {Q:Value→Shared→Prop} (I:Inv X pins σ H s) (hg:Gl X x) (hm:X.mg x=none) (hv:bootBuiltins x=some u) (h:Q u s)
    (hn:x≠"__name__":=by decide) (hd:(x == ("__debug__":Str))=false:=by decide):wpAny (model X.prog X.w) X.A (eval (.Name x pos) X.env) Q E s:=by
  obtain ⟨mb,h1,h2⟩:=I.mod.blt
  exact Calls.Name_function_global I.ok.kind hg (Calls.loadGlobal_builtin (by rw [I.ok.glob]; exact I.mod.glob.keeps I.bk) hm (by rw [I.ok.blt]; exact h1.keeps I.bk) ((h2 x hn).trans hv) h) hd
theorem pe_glob {x:Str} {v:V} {u:Value} {pos:Pos} (hg:Gl X x) (hm:X.mg x=some u) (r:RelV v u) (hd:(x == ("__debug__":Str))=false:=by decide):PE X (.Name x pos) (tC v):=
  fun _ _ _ H _ I h=>ld_glob I hg hm ⟨v,H,I,r,h⟩ hd
theorem pe_bltn {x:Str} {v:V} {u:Value} {pos:Pos} (hg:Gl X x) (hm:X.mg x=none) (hv:bootBuiltins x=some u) (r:RelV v u) (hn:x≠"__name__":=by decide) (hd:(x == ("__debug__":Str))=false:=by decide):PE X (.Name x pos) (tC v):=
  fun _ _ _ H _ I h=>ld_blt I hg hm hv ⟨v,H,I,r,h⟩ hn hd
def t2I (ta tb:TE) (k:Int→Int→Hp→Prop):St→Hp→Prop:=fun σ H=>ta σ H fun x H1=>tb σ H1 fun y H2=>∃ i j,x=.int i∧y=.int j∧k i j H2
def tAdd (ta tb:TE):TE:=fun σ H Q=>t2I ta tb (fun i j H2=>Q (.int (i + j)) H2) σ H
def tSub (ta tb:TE):TE:=fun σ H Q=>t2I ta tb (fun i j H2=>Q (.int (i - j)) H2) σ H
def tMul (ta tb:TE):TE:=fun σ H Q=>t2I ta tb (fun i j H2=>(-(2 ^ 64) < i∧i < 2 ^ 64)∧Q (.int (i * j)) H2) σ H
variable {a b:Expr} {ta tb:TE} {pos:Pos}
def PC (X:Cx) (op:CmpOp) (a b:Expr) (t:TE):Prop:=
  ∀ (pins:List (Addr×Obj)) (s:Shared) (σ:St) (H:Hp) (Q:VK),Inv X pins σ H s→t σ H Q →
    wpAny (model X.prog X.w) X.A (eval a X.env) (fun v s₁=>wpAny (model X.prog X.w) X.A (eval b X.env) (fun u s₂=>wpAny (model X.prog X.w) X.A (compareOp op v u) (EP X pins σ Q) X.xe s₂) X.xe s₁) X.xe s
def tCmp (p:Int→Int→Bool) (ta tb:TE):TE:=fun σ H Q=>t2I ta tb (fun i j H2=>Q (.bl (p i j)) H2) σ H
abbrev tLt:TE→TE→TE:=tCmp fun i j=>decide (i < j)
abbrev tLe:TE→TE→TE:=tCmp fun i j=>decide (i≤j)
abbrev tGt:TE→TE→TE:=tCmp fun i j=>decide (j < i)
abbrev tGe:TE→TE→TE:=tCmp fun i j=>decide (j≤i)
abbrev tEqI:TE→TE→TE:=tCmp fun i j=>decide (i=j)
abbrev tNeI:TE→TE→TE:=tCmp fun i j=>!decide (i=j)
def tIsN (ta:TE):TE:=fun σ H Q=>ta σ H fun x H1=>Q (.bl (decide (x=.non))) H1
def tNotN (ta:TE):TE:=fun σ H Q=>ta σ H fun x H1=>Q (.bl (!decide (x=.non))) H1
def tB (t:TE):TT:=fun σ H Q=>t σ H fun x H1=>∃ c,x=.bl c∧Q c H1
theorem pt_cmp {op:CmpOp} {t:TE} (h:PC X op a b t) (h1:behindInMarks op b=false:=by first | exact nobehind _ (by decide) (by decide) | rfl):PT X (.Compare a [op] [b] pos) (tB t):=by
  intro pins s σ H Q I hw
  refine wpAny_isTrue_Compare1 (thn (h pins s σ H _ I hw) fun v s1 h1=>thn h1 fun u s2 h2=>thn h2 fun c s3 ⟨x,H1,I1,r1,q1⟩=>?_) h1
  obtain ⟨d,rfl,q⟩:=q1
  cases r1
  exact wpAny_truthy_bool ⟨H1,I1,q⟩
theorem pt_val {e:Expr} {t:TE} (h:PE X e t) (he:∀ whole,isTrue e X.env whole=(do let v ← whole; standAt e.pos; holding [v] (truthy v)):=by intro _; rfl):PT X e (tB t):=by
  intro pins s σ H Q I hw
  refine isTrue_plain (thn (h pins s σ H _ I hw) fun v s1 ⟨x,H1,I1,r1,q1⟩=>?_) (he _)
  obtain ⟨d,rfl,q⟩:=q1
  cases r1
  exact wpAny_truthy_bool ⟨H1,I1,q⟩
variable {tA tB':TT} {rest:List Expr}
def tAnd (t u:TT):TT:=fun σ H Q=>t σ H fun c H1=>if c=true then u σ H1 Q else Q false H1
def tOr (t u:TT):TT:=fun σ H Q=>t σ H fun c H1=>if c=true then Q true H1 else u σ H1 Q
def tNot (t:TT):TT:=fun σ H Q=>t σ H fun c H1=>Q (!c) H1
theorem pw_and1 (ha:PT X a tA):PW X (.BoolOp .And [a] pos) tA:=by
  intro wh pins s σ H Q I h
  refine isTrue_and (thn (ha pins s σ H Q I h) fun c s1 e=>?_)
  cases c with
  | true=>exact isTrue_and_nil e
  | false=>exact e
theorem pw_or1 (ha:PT X a tA):PW X (.BoolOp .Or [a] pos) tA:=by
  intro wh pins s σ H Q I h
  refine isTrue_or (thn (ha pins s σ H Q I h) fun c s1 e=>?_)
  cases c with
  | false=>exact isTrue_or_nil e
  | true=>exact e
theorem pw_and (ha:PT X a tA) (hb:PW X (.BoolOp .And (b :: rest) pos) tB'):PW X (.BoolOp .And (a :: b :: rest) pos) (tAnd tA tB'):=by
  intro wh pins s σ H Q I h
  refine isTrue_and (thn (ha pins s σ H _ I h) fun c s1 ⟨H1,I1,q1⟩=>?_)
  cases c with
  | true=>exact hb wh pins s1 σ H1 Q I1 q1
  | false=>exact ⟨H1,I1,q1⟩
theorem pw_or (ha:PT X a tA) (hb:PW X (.BoolOp .Or (b :: rest) pos) tB'):PW X (.BoolOp .Or (a :: b :: rest) pos) (tOr tA tB'):=by
  intro wh pins s σ H Q I h
  refine isTrue_or (thn (ha pins s σ H _ I h) fun c s1 ⟨H1,I1,q1⟩=>?_)
  cases c with
  | true=>exact ⟨H1,I1,q1⟩
  | false=>exact hb wh pins s1 σ H1 Q I1 q1
theorem pt_not (ha:PT X a tA):PT X (.UnaryOp .Not a pos) (tNot tA):=by
  intro pins s σ H Q I h
  exact isTrue_not (ha pins s σ H (fun c H1=>Q (!c) H1) I h)
def tAndV (ta tb:TE):TE:=fun σ H Q=>ta σ H fun x H1=>∃ c,x=.bl c∧if c=true then tb σ H1 Q else Q (.bl false) H1
def tOrV (ta tb:TE):TE:=fun σ H Q=>ta σ H fun x H1=>∃ c,x=.bl c∧if c=true then Q (.bl true) H1 else tb σ H1 Q
def tNotV (ta:TE):TE:=fun σ H Q=>ta σ H fun x H1=>∃ c,x=.bl c∧Q (.bl (!c)) H1
def tIf (t:TT) (ta tb:TE):TE:=fun σ H Q=>t σ H fun c H1=>if c=true then ta σ H1 Q else tb σ H1 Q
end
end L2
namespace L2
open PySem PySem.Spec PyProof.Rows
def SqL (K:PySem.W.Frag) (H:Hp) (a:Addr) (xs:List V):Prop:=
  Rd H a (.lst xs) ∨
    ∃ (o:Obj) (its:Array Value) (n:Nat),K.lookup a=some o∧o.cls=.type "list"∧o.dict=none∧o.data=.seq its n∧its.size≤sizeLine∧Vals xs its.toList
def SqT (K:PySem.W.Frag) (H:Hp) (a:Addr) (xs:List V):Prop:=
  Rd H a (.tup xs) ∨
    ∃ (o:Obj) (its:Array Value) (n:Nat),K.lookup a=some o∧o.cls=.type "tuple"∧o.data=.seq its n∧its.size≤sizeLine∧Vals xs its.toList
def absV:Value→Option V
  | .none=>some .non
  | .bool b=>some (.bl b)
  | .int i _=>some (.int i)
  | .str x _=>some (.str x)
  | .bytes b _=>some (.byt b)
  | .float b _=>some (.flt b)
  | .ref a=>some (.ref a)
  | .type n=>some (.ty n)
  | _=>none
theorem RelV.abs {x:V} {u:Value} (r:RelV x u):absV u=some x:=by
  cases x with
  | non=>cases r; rfl
  | bl _=>cases r; rfl
  | int _=>obtain ⟨t,rfl⟩:=r; rfl
  | str _=>obtain ⟨t,rfl⟩:=r; rfl
  | byt _=>obtain ⟨t,rfl⟩:=r; rfl
  | flt _=>obtain ⟨t,rfl⟩:=r; rfl
  | ref _=>cases r; rfl
  | ty _=>cases r; rfl
theorem RelV.inj {x y:V} {u:Value} (r:RelV x u) (q:RelV y u):x=y:=Option.some.inj (r.abs.symm.trans q.abs)
theorem Vals.inj:∀ {xs ys:List V} {us:List Value},Vals xs us→Vals ys us→xs=ys
  | _,_,_,.nil,.nil=>rfl
  | _,_,_,.cons r t,.cons r' t'=>by rw [r.inj r',Vals.inj t t']
section
variable {X:Cx} {pins:List (Addr×Obj)} {σ:St} {H:Hp} {s:Shared} {a:Addr} {xs ys:List V}
theorem SqL.of {K:PySem.W.Frag} (h:H a=some (.lst xs)):SqL K H a xs:=.inl (.inl h)
theorem SqT.of {K:PySem.W.Frag} (h:H a=some (.tup xs)):SqT K H a xs:=.inl (.inl h)
theorem Inv.list (I:Inv X pins σ H s) (h:SqL X.K H a xs):∃ its:List Value,Vals xs its∧PlainL s.heap a its.toArray∧xs.length≤sizeLine:=by
  rcases h with h | ⟨o,its,n,hk,hc,hd,hs,hz,r⟩
  · obtain ⟨z,its,n,r,e⟩:=h.ok I.hok
    exact ⟨its,r,⟨_,n,e,rfl,rfl,rfl⟩,z⟩
  · refine ⟨its.toList,r,⟨o,n,I.kIn a o hk,hc,hd,by simpa using hs⟩,?_⟩
    have e:=r.length
    simp only [Array.length_toList] at e
    omega
theorem Inv.tuple (I:Inv X pins σ H s) (h:SqT X.K H a xs):∃ its:List Value,Vals xs its∧IsTup s.heap a its.toArray∧xs.length≤sizeLine:=by
  rcases h with h | ⟨o,its,n,hk,hc,hs,hz,r⟩
  · obtain ⟨z,its,r,p⟩:=h.ok I.hok
    exact ⟨its,r,p,z⟩
  · refine ⟨its.toList,r,⟨o,I.kIn a o hk,hc,n,by simpa using hs⟩,?_⟩
    have e:=r.length
    simp only [Array.length_toList] at e
    omega
theorem Inv.list_inj (I:Inv X pins σ H s) (h:SqL X.K H a xs) (h':SqL X.K H a ys):xs=ys:=by
  obtain ⟨its,r,⟨o,n,e,_,_,d⟩,_⟩:=I.list h
  obtain ⟨its',r',⟨o',n',e',_,_,d'⟩,_⟩:=I.list h'
  rw [e] at e'; cases e'
  rw [d] at d'
  injection d' with d1 _
  have:its=its':=by simpa using congrArg Array.toList d1
  subst this
  exact r.inj r'
theorem Inv.tuple_inj (I:Inv X pins σ H s) (h:SqT X.K H a xs) (h':SqT X.K H a ys):xs=ys:=by
  obtain ⟨its,r,⟨o,e,_,n,d⟩,_⟩:=I.tuple h
  obtain ⟨its',r',⟨o',e',_,n',d'⟩,_⟩:=I.tuple h'
  rw [e] at e'; cases e'
  rw [d] at d'
  injection d' with d1 _
  have:its=its':=by simpa using congrArg Array.toList d1
  subst this
  exact r.inj r'
end
abbrev Cx.wish (X:Cx) (E:Value→Shared→Prop):Cx:={X with xe:=E}
abbrev Cx.nox (X:Cx):Cx:=X.wish fun _ _=>False
theorem Cx.Ok.wish {X:Cx} (ok:X.Ok) (E:Value→Shared→Prop):(X.wish E).Ok:=
  ⟨ok.mod,ok.kind,ok.glob,ok.blt,ok.above,ok.inj,ok.has,ok.cab,ok.hd,ok.frames,ok.stk,ok.exf,ok.bs,ok.bsz,ok.noex,ok.exfs,ok.funs,ok.frf⟩
theorem Cx.Ok.unwish {X:Cx} {E:Value→Shared→Prop} (ok:(X.wish E).Ok):X.Ok:=
  ⟨ok.mod,ok.kind,ok.glob,ok.blt,ok.above,ok.inj,ok.has,ok.cab,ok.hd,ok.frames,ok.stk,ok.exf,ok.bs,ok.bsz,ok.noex,ok.exfs,ok.funs,ok.frf⟩
section
variable {X:Cx} {pins:List (Addr×Obj)} {σ:St} {H:Hp} {s:Shared} {E:Value→Shared→Prop}
theorem Inv.wish (I:Inv X pins σ H s) (E:Value→Shared→Prop):Inv (X.wish E) pins σ H s:=⟨I.ok.wish E,I.os,I.bare,I.base,I.loc,I.cell,I.free,I.freeC,I.pin,I.hok,I.len⟩
theorem Inv.unwish (I:Inv (X.wish E) pins σ H s):Inv X pins σ H s:=⟨I.ok.unwish,I.os,I.bare,I.base,I.loc,I.cell,I.free,I.freeC,I.pin,I.hok,I.len⟩
theorem SP.unwish {D:Ends} {f:Flow} {s':Shared} (h:SP (X.wish E) pins D f s'):SP X pins D f s':=by
  cases f with
  | next=>obtain ⟨σ',H',I,q⟩:=h; exact ⟨σ',H',I.unwish,q⟩
  | brk=>obtain ⟨σ',H',I,q⟩:=h; exact ⟨σ',H',I.unwish,q⟩
  | cont=>obtain ⟨σ',H',I,q⟩:=h; exact ⟨σ',H',I.unwish,q⟩
  | ret u=>obtain ⟨v,σ',H',I,r,q⟩:=h; exact ⟨v,σ',H',I.unwish,r,q⟩
theorem PSs.nox {st:List Stmt} {t:TS} (h:PSs X.nox st t):PSs X st t:=fun pins s σ H D I hw =>
  wpAny_mono (h pins s σ H D (I.wish _) hw) (fun _ _ q=>q.unwish) fun _ _ z=>False.elim z
end
section
variable {X:Cx} {st:Stmt} {rest:List Stmt} {t u:TS} {e:Expr} {te:TE} {pos:Pos}
def tNext:TS:=fun D σ H=>D.nx σ H
def tSeq (t u:TS):TS:=fun D σ H=>t {D with nx:=u D} σ H
theorem pss_nil:PSs X [] tNext:=fun _ _ σ H _ I h=>wpAny_execs_nil ⟨σ,H,I,h⟩
theorem pss_cons (h1:PS X st t) (h2:PSs X rest u):PSs X (st :: rest) (tSeq t u):=by
  intro pins s σ H D I h
  refine wpAny_execs_cons (thn (h1 pins s σ H {D with nx:=u D} I h) fun f s1 q=>?_)
  cases f with
  | next =>
    obtain ⟨σ',H',I',q⟩:=q
    exact h2 pins s1 σ' H' D I' q
  | ret v=>exact q
  | brk=>exact q
  | cont=>exact q
theorem pss_one (h1:PS X st t):PSs X [st] t:=by
  intro pins s σ H D I h
  refine wpAny_execs_cons (thn (h1 pins s σ H D I h) fun f s1 q=>?_)
  cases f with
  | next=>exact wpAny_execs_nil q
  | ret v=>exact q
  | brk=>exact q
  | cont=>exact q
def tBreak:TS:=fun D σ H=>D.bk σ H
def tCont:TS:=fun D σ H=>D.ct σ H
theorem Inv.quiet {pins:List (Addr×Obj)} {σ:St} {H:Hp} {s:Shared} (I:Inv X pins σ H s):interactive X.env=false:=by simp [interactive,I.ok.kind]
def tDrop (te:TE):TS:=fun D σ H=>te σ H fun _ H1=>D.nx σ H1
theorem ps_expr (he:PE X e te) (hs:swapsWith e none pos.line X.env=pure false:=by rfl):PS X (.Expr e pos) (tDrop te):=by
  intro pins s σ H D I h
  exact wpAny_Expr_any (thn (he pins s σ H _ I h) fun v s1 ⟨x,H1,I1,r1,q1⟩=>⟨σ,H1,I1,q1⟩) I.quiet hs
def tRet (te:TE):TS:=fun D σ H=>te σ H D.rt
theorem ps_ret (he:PE X e te):PS X (.Return (some e) pos) (tRet te):=by
  intro pins s σ H D I h
  exact wpAny_Return_some (thn (he pins s σ H _ I h) fun v s1 ⟨x,H1,I1,r1,q1⟩=>⟨x,σ,H1,I1,r1,q1⟩)
def tRetN:TS:=fun D _ H=>D.rt .non H
def tIfS (c:TT) (t u:TS):TS:=fun D σ H=>c σ H fun b H1=>if b=true then t D σ H1 else u D σ H1
theorem ps_if {c:Expr} {a b:List Stmt} {tc:TT} (hc:PT X c tc) (ha:PSs X a t) (hb:PSs X b u):PS X (.If c a b pos) (tIfS tc t u):=by
  intro pins s σ H D I h
  refine wpAny_If (thn (hc pins s σ H _ I h) fun d s1 ⟨H1,I1,q1⟩=>?_)
  cases d with
  | true=>exact ha pins s1 σ H1 D I1 q1
  | false=>exact hb pins s1 σ H1 D I1 q1
def tNever:TS:=fun _ _ _=>False
end
abbrev TG:=V→St→Hp→(St→Hp→Prop)→Prop
abbrev TGs:=List V→St→Hp→(St→Hp→Prop)→Prop
def PG (X:Cx) (target:Expr) (t:TG):Prop:=
  ∀ (pins:List (Addr×Obj)) (s:Shared) (σ:St) (H:Hp) (v:V) (u:Value) (Q:St→Hp→Prop),Inv X pins σ H s→RelV v u→t v σ H Q →
    wpAny (model X.prog X.w) X.A (assign target X.env u) (fun _ s'=>∃ σ' H',Inv X pins σ' H' s'∧Q σ' H') X.xe s
def PGs (X:Cx) (ts:List Expr) (t:TGs):Prop:=
  ∀ (pins:List (Addr×Obj)) (s:Shared) (σ:St) (H:Hp) (vs:List V) (us:List Value) (Q:St→Hp→Prop),Inv X pins σ H s→Vals vs us→t vs σ H Q →
    wpAny (model X.prog X.w) X.A (assignInOrder ((assignEach ts X.env).map (·.2)) us) (fun _ s'=>∃ σ' H',Inv X pins σ' H' s'∧Q σ' H') X.xe s
abbrev TSet:=V→V→V→Hp→(Hp→Prop)→Prop
def PSet (X:Cx) (t:TSet):Prop:=
  ∀ (pins:List (Addr×Obj)) (s:Shared) (σ:St) (H:Hp) (o i v:V) (ov iv u:Value) (Q:Hp→Prop),Inv X pins σ H s→RelV o ov→RelV i iv→RelV v u→t o i v H Q →
    wpAny (model X.prog X.w) X.A (setItem ov iv u) (fun _ s'=>∃ H',Inv X pins σ H' s'∧Q H') X.xe s
abbrev TIp:=V→V→Hp→VK→Prop
def PIp (X:Cx) (op:Operator) (t:TIp):Prop:=
  ∀ (pins:List (Addr×Obj)) (s:Shared) (σ:St) (H:Hp) (x y:V) (v u:Value) (Q:VK),Inv X pins σ H s→RelV x v→RelV y u→t x y H Q →
    wpAny (model X.prog X.w) X.A (inplaceOp op v u) (EP X pins σ Q) X.xe s
section
variable {X:Cx} {pos:Pos}
def gName (i:Nat):TG:=fun v σ H Q=>Q (σ.set i (some v)) H
theorem pg_name {i:Nat} {x:Str} (hN:X.N.Nodup) (hi:X.N[i]?=some x) (hx:Loc X.env.scope x) (hf:X.fn x=true∨X.env.scope.names.lookup x=some .local:=by first | exact .inl rfl | exact .inr rfl | assumption):PG X (.Name x pos) (gName i):=by
  intro pins s σ H v u Q I r h
  exact wpAny_assign_Name (store_ok I hN hi hx r (fun s' I'=>⟨_,H,I',h⟩) hf)
def gNil:TGs:=fun vs σ H Q=>vs=[]∧Q σ H
def gCons (t:TG) (u:TGs):TGs:=fun vs σ H Q=>∃ v r,vs=v :: r∧t v σ H fun σ' H'=>u r σ' H' Q
theorem pgs_nil:PGs X [] gNil:=by
  intro pins s σ H vs us Q I r h
  obtain ⟨e,h⟩:=h
  subst e
  cases r
  exact assignInOrder_nil ⟨σ,H,I,h⟩
theorem pgs_cons {e:Expr} {es:List Expr} {t:TG} {u:TGs} (h1:PG X e t) (h2:PGs X es u)
    (hs:(assignEach (e :: es) X.env).map (·.2)=assign e X.env :: (assignEach es X.env).map (·.2):=by rfl):PGs X (e :: es) (gCons t u):=by
  intro pins s σ H vs us Q I r h
  obtain ⟨v,vr,e1,h⟩:=h
  subst e1
  cases r with
  | cons r rr =>
    rw [hs]
    refine assignInOrder_cons (thn (h1 pins s σ H _ _ _ I r h) fun _ s1 ⟨σ1,H1,I1,q1⟩=>?_)
    exact h2 pins s1 σ1 H1 _ _ Q I1 rr q1
def gTup (K:PySem.W.Frag) (n:Nat) (t:TGs):TG:=fun v σ H Q=>∃ a xs,v=.ref a∧SqT K H a xs∧xs.length=n∧t xs σ H Q
theorem pg_tup {es:List Expr} {k:Nat} {t:TGs} {n:Nat} (hc:X.calm=true) (h:PGs X es t)
    (hn:(assignEach es X.env).length=n:=by rfl) (hst:(assignEach es X.env).findIdx? (·.1)=none:=by rfl):PG X (.Tuple es k pos) (gTup X.K n t):=by
  intro pins s σ H v u Q I r hw
  obtain ⟨a,xs,e1,hq,hl,hw⟩:=hw
  subst e1
  cases r
  obtain ⟨its,rv,ht,hz⟩:=I.tuple hq
  refine assign_Tuple_tuple (I.ok.hd hc) ht (by simp [hn,← hl,rv.length]) hst fun h' hx=>?_
  have I1:Inv X pins σ H {s with heap:=h'}:=I.kept (t':=s.toks) fun b o e=>hx b o (Nat.ne_of_lt (Heap.lt_size e)) e
  exact h pins _ σ H xs _ Q I1 (by simpa using rv) hw
def gSub (to ti:TE) (t:TSet):TG:=fun v σ H Q=>to σ H fun o H1=>ti σ H1 fun i H2=>t o i v H2 fun H3=>Q σ H3
theorem pg_sub {o i:Expr} {to ti:TE} {t:TSet} (ho:PE X o to) (hi:PE X i ti) (hs:PSet X t)
    (ha:∀ v,assign (.Subscript o i pos) X.env v=(do
      let ov ← holding [v] (eval o X.env)
      let iv ← holding [v,ov] (eval i X.env)
      standAt pos
      holding [v,ov,iv] (setItem ov iv v)
      release [v,ov,iv] []):=by intro _; rfl):PG X (.Subscript o i pos) (gSub to ti t):=by
  intro pins s σ H v u Q I r h
  rw [ha]
  refine wpAny_bind (wpAny_holding (thn (ho pins s σ H _ I h) fun ov s1 ⟨x,H1,I1,r1,q1⟩=>?_))
  refine wpAny_bind (wpAny_holding (thn (hi pins s1 σ H1 _ I1 q1) fun iv s2 ⟨y,H2,I2,r2,q2⟩=>?_))
  refine wpAny_bind (wpAny_standAt (wpAny_bind (wpAny_holding (thn (hs pins s2 σ H2 x y v ov iv u _ I2 r1 r2 r q2) fun _ s3 ⟨H3,I3,q3⟩=>?_))))
  exact wpAny_release ⟨σ,H3,I3,q3⟩
def tAsg (te:TE) (g:TG):TS:=fun D σ H=>te σ H fun x H1=>g x σ H1 D.nx
theorem ps_asg {tg e:Expr} {te:TE} {g:TG} (he:PE X e te) (hg:PG X tg g) (hs:swapsWithSole [tg] e pos.line X.env=pure false:=by rfl) (hw:swappedStores [tg] e X.env=pure none:=by rfl)
    (h1:(assignEach [tg] X.env).map (·.2)=[assign tg X.env]:=by rfl):PS X (.Assign [tg] e pos) (tAsg te g):=by
  intro pins s σ H D I h
  refine wpAny_Assign_stores (thn (he pins s σ H _ I h) fun v s1 ⟨x,H1,I1,r1,q1⟩=>?_) hs hw
  rw [h1]
  exact thn (hg pins s1 σ H1 x v _ I1 r1 q1) fun _ s2 q=>q
theorem ps_set {i:Nat} {x:Str} {e:Expr} {te:TE} {pos':Pos} (hN:X.N.Nodup) (hi:X.N[i]?=some x) (hx:Loc X.env.scope x) (he:PE X e te) (hs:swapsWith e (some (.Name x pos')) pos.line X.env=pure false:=by rfl) (hf:X.fn x=true∨X.env.scope.names.lookup x=some .local:=by first | exact .inl rfl | exact .inr rfl | assumption) :
    PS X (.Assign [.Name x pos'] e pos) (tAsg te (gName i)):=by
  intro pins s σ H D I h
  refine wpAny_Assign_Name (thn (he pins s σ H _ I h) fun v s1 ⟨y,H1,I1,r1,q1⟩=>?_) hs
  exact store_ok I1 hN hi hx r1 (fun s2 I2=>⟨_,H1,I2,q1⟩) hf
def tPar (i j:Nat) (ta:TA):TS:=fun D σ H=>ta σ H fun vs H1=>∃ v w,vs=[v,w]∧D.nx ((σ.set i (some v)).set j (some w)) H1
def tAug (i:Nat) (te:TE) (ti:TIp):TS:=fun D σ H=>∃ x,σ[i]?=some (some x)∧te σ H fun y H1=>ti x y H1 fun z H2=>D.nx (σ.set i (some z)) H2
def tAugS (to ti te:TE) (tget:V→V→Hp→VK→Prop) (tip:TIp) (tset:TSet):TS:=fun D σ H=>to σ H fun o H1=>ti σ H1 fun i H2=>tget o i H2 fun x H3=>te σ H3 fun y H4=>tip x y H4 fun z H5=>tset o i z H5 fun H6=>D.nx σ H6
def PGet (X:Cx) (t:V→V→Hp→VK→Prop):Prop:=
  ∀ (pins:List (Addr×Obj)) (s:Shared) (σ:St) (H:Hp) (o i:V) (ov iv:Value) (Q:VK),Inv X pins σ H s→RelV o ov→RelV i iv→t o i H Q →
    wpAny (model X.prog X.w) X.A (getItem ov iv) (EP X pins σ Q) X.xe s
def ipI (f:Int→Int→Int):TIp:=fun x y H Q=>∃ i j,x=.int i∧y=.int j∧Q (.int (f i j)) H
end
section
variable {X:Cx} {pos:Pos}
def tWhile (c:TT) (tb:TS):TS:=fun D σ H=>∃ W:Nat→St→Hp→Prop,(∃ m,W m σ H)∧∀ m σ H,W m σ H →
  c σ H fun b H1=>if b=true then ∃ N:St→Hp→Prop,(∀ σ' H',N σ' H'→∃ m',m' < m∧W m' σ' H')∧tb {D with nx:=N,ct:=N,bk:=D.nx} σ H1 else D.nx σ H1
end
structure It where
  go:Nat→Hp→Prop
  yld:Nat→Hp→V→Hp→Prop
  stop:Nat→Hp→Prop
def FpOk (X:Cx) (pins:List (Addr×Obj)) (H:Hp) (b:Addr):Prop:=
  H b=none∧b≠X.env.locals∧b∉X.fs∧(b∈X.ex∨X.s₀.heap.objs.size≤b)∧(∀ x c,X.env.cells.lookup x=some c→c≠b)∧∀ p∈X.pn++pins,p.1≠b
theorem Inv.fpOk {X:Cx} {pins:List (Addr×Obj)} {σ:St} {H H':Hp} {s:Shared} {b:Addr} (I:Inv X pins σ H s) (hb:s.heap.objs.size≤b) (hn:H' b=none):FpOk X pins H' b:=by
  refine ⟨hn,Nat.ne_of_gt (Nat.lt_of_lt_of_le I.lt hb),I.nofs hb,.inr (Nat.le_trans I.sz hb),fun x c e z=>?_,fun p hp z=>?_⟩
  · obtain ⟨v,q⟩:=I.cell x c e
    exact absurd (Nat.lt_of_lt_of_le q.lt (by rw [z]; exact hb)) (Nat.lt_irrefl _)
  · exact absurd (Nat.lt_of_lt_of_le (Heap.lt_size (I.pin p hp).1) (by rw [z]; exact hb)) (Nat.lt_irrefl _)
structure Turn (P:Program) (w:World) (K:PySem.W.Frag) (tg:Expr) (J:It) (fp:List Addr) (it:Addr) (tn:Nat→Heap→Prop):Prop where
  mem:it∈fp
  obj:∀ i h,tn i h→∀ b∈fp,∃ o,h.get? b=some o∧∀ v,o.data≠.cell v
  keep:∀ i h h',tn i h→(∀ b∈fp,∀ o,h.get? b=some o→h'.get? b=some o)→tn i h'
  item:∀ (X:Cx),X.prog=P→X.w=w→X.K=K→X.calm=true→∀ (i:Nat) (pins:List (Addr×Obj)) (s:Shared) (σ:St) (H:Hp) (E:Value→Shared→Prop),Inv X pins σ H s→(∀ b∈fp,FpOk X pins H b)→tn i s.heap→J.go i H →
    wpAny (model P w) X.A (pyNext (.ref it)) (fun r s1=>∃ u,r=some u ∧
      wpAny (model P w) X.A (letOwnedTupleGo tg (.ref it) u) (fun _ s2=>∃ x H',Inv X pins σ H' s2∧RelV x u∧J.yld i H x H'∧tn (i + 1) s2.heap∧∀ b∈fp,H' b=none) E s1) E s
  done:∀ (X:Cx),X.prog=P→X.w=w→X.K=K→X.calm=true→∀ (i:Nat) (pins:List (Addr×Obj)) (s:Shared) (σ:St) (H:Hp) (E:Value→Shared→Prop),Inv X pins σ H s→(∀ b∈fp,FpOk X pins H b)→tn i s.heap→J.stop i H →
    wpAny (model P w) X.A (pyNext (.ref it)) (fun r s1=>r=none∧Inv X pins σ H s1) E s
  self:∀ (A:Around) (i:Nat) (s:Shared) (Q:Value→Shared→Prop) (E:Value→Shared→Prop),tn i s.heap→Q (.ref it) s→wpAny (model P w) A (pyIter (.ref it)) Q E s
abbrev TI:=St→Hp→(It→Hp→Prop)→Prop
def PIE (X:Cx) (pins:List (Addr×Obj)) (σ:St) (tg:Expr) (R:It→Hp→Prop) (itv:Value) (s2:Shared):Prop:=
  ∃ (it:Addr) (fp:List Addr) (tn:Nat→Heap→Prop) (J:It) (H':Hp),itv=.ref it∧Inv X pins σ H' s2∧Turn X.prog X.w X.K tg J fp it tn∧tn 0 s2.heap∧(∀ b∈fp,FpOk X pins H' b)∧R J H'
def PI (X:Cx) (tg iter:Expr) (wi:TI):Prop:=
  ∀ (pins:List (Addr×Obj)) (s:Shared) (σ:St) (H:Hp) (R:It→Hp→Prop),Inv X pins σ H s→wi σ H R →
    wpAny (model X.prog X.w) X.A (eval iter X.env) (fun v s1=>wpAny (model X.prog X.w) X.A (pyIter v) (PIE X pins σ tg R) X.xe s1) X.xe s
theorem go_of {M:Model} {A:Around} {E:Value→Shared→Prop} {s:Shared} {tg:Expr} {it:Addr} {u:Value} {o:Obj} {n:String} {vs:Array Value} {Q:Unit→Shared→Prop} (ho:s.heap.get? it=some o) (hc:o.cls=.type n) (hd:o.data=.fields vs)
    (hn:["enumerate","zip","dict_itemiterator","dict_reverseitemiterator","odict_iterator","itertools.zip_longest","itertools.pairwise"].contains n=false) (hQ:Q () s):wpAny M A (letOwnedTupleGo tg (.ref it) u) Q E s:=by
  unfold letOwnedTupleGo
  cases tg <;> first
    | exact wpAny_pure hQ
    | (cases u <;> first
        | exact wpAny_pure hQ
        | (refine wpAny_bind (wpAny_load ho ?_)
           rw [hc,hd]
           show wpAny M A (if (["enumerate","zip","dict_itemiterator","dict_reverseitemiterator","odict_iterator","itertools.zip_longest","itertools.pairwise"].contains n && vs[0]? == some (rawInt _))=true then _ else _) Q E s
           rw [if_neg (by intro h; rw [hn,Bool.false_and] at h; cases h)]
           exact wpAny_pure hQ))
def Itl (K:PySem.W.Frag) (a:Addr):It:=
  ⟨fun i H=>∃ xs x,SqL K H a xs∧xs[i]?=some x,fun i H x H'=>H'=H∧∀ xs,SqL K H a xs→xs[i]?=some x,fun i H=>∃ xs,SqL K H a xs∧xs.length≤i⟩
def Itt (K:PySem.W.Frag) (a:Addr):It:=
  ⟨fun i H=>∃ xs x,SqT K H a xs∧xs[i]?=some x,fun i H x H'=>H'=H∧∀ xs,SqT K H a xs→xs[i]?=some x,fun i H=>∃ xs,SqT K H a xs∧xs.length≤i⟩
def Itr (lo:Int) (n:Nat):It:=⟨fun i _=>i < n,fun i H x H'=>H'=H∧x=.int (lo + i),fun i _=>n≤i⟩
theorem turn_list {P:Program} {w:World} {K:PySem.W.Frag} {tg:Expr} (a it:Addr):Turn P w K tg (Itl K a) [it] it (fun i h=>h.IsListIter it a i) where
  mem:=by simp
  obj:=fun i h st b hb=>by
    have e:b=it:=by simpa using hb
    subst e
    obtain ⟨o,e,c,d⟩:=st
    exact ⟨o,e,fun v z=>by rw [d] at z; cases z⟩
  keep:=fun i h h' st k=>st.at fun o e=>k it (by simp) o e
  item:=by
    intro X hP hw hK hc i pins s σ H E I hf st hg
    subst hP hw hK
    obtain ⟨xs,x,hq,hx⟩:=hg
    obtain ⟨its,rv,p,hz⟩:=I.list hq
    obtain ⟨u,hu,ru⟩:=rv.get hx
    obtain ⟨f0,f1,f2,f3,f4,f5⟩:=hf it (by simp)
    refine wpAny_pyNext_list_item st p.isList (x:=u) (by simpa using hu) fun h' st' sb=>?_
    have I1:Inv X pins σ H {s with heap:=h'}:=I.turned (t':=s.toks) (fun b o hb e=>(sb.2 b hb).trans e) f0 f1 f3 f4 f5
    obtain ⟨o,e,c,d⟩:=id st'
    exact ⟨u,rfl,go_of (s:={s with heap:=h'}) e c d (by decide) ⟨x,H,I1,ru,⟨rfl,fun ys hy=>by rw [I.list_inj hy hq]; exact hx⟩,st',fun b hb=>(hf b hb).1⟩⟩
  done:=by
    intro X hP hw hK hc i pins s σ H E I hf st hg
    subst hP hw hK
    obtain ⟨xs,hq,hx⟩:=hg
    obtain ⟨its,rv,p,hz⟩:=I.list hq
    obtain ⟨f0,f1,f2,f3,f4,f5⟩:=hf it (by simp)
    have hl:=rv.length
    exact wpAny_pyNext_list_end (I.ok.hd hc) st p.isList (by simp; omega) fun h' eb=>⟨rfl,I.turned (t':=s.toks) (fun b o hb e=>eb b o hb e) f0 f1 f3 f4 f5⟩
  self:=fun _ _ _ _ _ st h=>wpAny_pyIter_listiter st h
theorem turn_tuple {P:Program} {w:World} {K:PySem.W.Frag} {tg:Expr} (a it:Addr):Turn P w K tg (Itt K a) [it] it (fun i h=>h.IsTupleIter it a i) where
  mem:=by simp
  obj:=fun i h st b hb=>by
    have e:b=it:=by simpa using hb
    subst e
    obtain ⟨o,e,c,d⟩:=st
    exact ⟨o,e,fun v z=>by rw [d] at z; cases z⟩
  keep:=fun i h h' st k=>st.at fun o e=>k it (by simp) o e
  item:=by
    intro X hP hw hK hc i pins s σ H E I hf st hg
    subst hP hw hK
    obtain ⟨xs,x,hq,hx⟩:=hg
    obtain ⟨its,rv,p,hz⟩:=I.tuple hq
    obtain ⟨u,hu,ru⟩:=rv.get hx
    obtain ⟨f0,f1,f2,f3,f4,f5⟩:=hf it (by simp)
    refine wpAny_pyNext_tuple_item st (show s.heap.IsTuple a its.toArray from p) (x:=u) (by simpa using hu) fun h' st' sb=>?_
    have I1:Inv X pins σ H {s with heap:=h'}:=I.turned (t':=s.toks) (fun b o hb e=>(sb.2 b hb).trans e) f0 f1 f3 f4 f5
    obtain ⟨o,e,c,d⟩:=id st'
    exact ⟨u,rfl,go_of (s:={s with heap:=h'}) e c d (by decide) ⟨x,H,I1,ru,⟨rfl,fun ys hy=>by rw [I.tuple_inj hy hq]; exact hx⟩,st',fun b hb=>(hf b hb).1⟩⟩
  done:=by
    intro X hP hw hK hc i pins s σ H E I hf st hg
    subst hP hw hK
    obtain ⟨xs,hq,hx⟩:=hg
    obtain ⟨its,rv,p,hz⟩:=I.tuple hq
    obtain ⟨f0,f1,f2,f3,f4,f5⟩:=hf it (by simp)
    have hl:=rv.length
    exact wpAny_pyNext_tuple_end (I.ok.hd hc) st (show s.heap.IsTuple a its.toArray from p) (by simp; omega) fun h' eb=>⟨rfl,I.turned (t':=s.toks) (fun b o hb e=>eb b o hb e) f0 f1 f3 f4 f5⟩
  self:=fun _ _ _ _ _ st h=>wpAny_pyIter_tupleiter st h
theorem turn_range {P:Program} {w:World} {K:PySem.W.Frag} {tg:Expr} (it:Addr) (lo:Int) (n:Nat):Turn P w K tg (Itr lo n) [it] it (fun i h=>IsRangeIter h it (lo + (i:Nat) * 1) ((n:Int) - (i:Nat)) 1) where
  mem:=by simp
  obj:=fun i h st b hb=>by
    have e:b=it:=by simpa using hb
    subst e
    exact ⟨_,st,fun v z=>by
      have z':Data.fields _=Data.cell v:=z
      cases z'⟩
  keep:=fun i h h' st k=>k it (by simp) _ st
  item:=by
    intro X hP hw hK hc i pins s σ H E I hf st hg
    subst hP hw hK
    obtain ⟨f0,f1,f2,f3,f4,f5⟩:=hf it (by simp)
    have W:=Walks.range (prog:=X.prog) (w:=X.w) (I.ok.hd hc) it lo 1 n
    refine W.item i s _ _ hg st fun v h' tk hv st' kk=>?_
    obtain ⟨t,rfl⟩:=hv
    have I1:Inv X pins σ H {s with heap:=h',toks:=tk}:=I.turned (fun b o hb e=>kk b o (by simpa using hb) e) f0 f1 f3 f4 f5
    refine ⟨_,rfl,go_of (s:={s with heap:=h',toks:=tk}) (n:="range_iterator") st' rfl rfl (by decide) ⟨.int (lo + i),H,I1,⟨t,?_⟩,⟨rfl,rfl⟩,st',fun b hb=>(hf b hb).1⟩⟩
    rw [Int.mul_one]
  done:=by
    intro X hP hw hK hc i pins s σ H E I hf st hg
    subst hP hw hK
    obtain ⟨f0,f1,f2,f3,f4,f5⟩:=hf it (by simp)
    exact wpAny_pyNext_range_end (I.ok.hd hc) st (by have:n≤i:=hg; omega) fun h' eb=>⟨rfl,I.turned (t':=s.toks) (fun b o hb e=>eb b o hb e) f0 f1 f3 f4 f5⟩
  self:=fun _ _ _ _ _ st h=>wpAny_pyIter_rangeiter st h
end L2
namespace L2
open PySem PySem.Spec PyProof.Rows
section
variable {X:Cx} {tg:Expr}
def iList (K:PySem.W.Frag) (tl:TE):TI:=fun σ H R=>tl σ H fun x H1=>∃ a,x=.ref a∧(∃ xs,SqL K H1 a xs)∧R (Itl K a) H1
def iTup (K:PySem.W.Frag) (tl:TE):TI:=fun σ H R=>tl σ H fun x H1=>∃ a,x=.ref a∧(∃ xs,SqT K H1 a xs)∧R (Itt K a) H1
theorem pi_list {l:Expr} {tl:TE} (hl:PE X l tl):PI X tg l (iList X.K tl):=by
  intro pins s σ H R I h
  refine thn (hl pins s σ H _ I h) fun v s1 ⟨x,H1,I1,r1,q1⟩=>?_
  obtain ⟨a,e,⟨xs,hq⟩,q⟩:=q1
  subst e
  cases r1
  obtain ⟨its,rv,p,hz⟩:=I1.list hq
  refine wpAny_pyIter_list p.isList ?_
  refine ⟨s1.heap.objs.size,[s1.heap.objs.size],_,_,H1,rfl,I1.kept (t':=s1.toks) fun b o e=>Heap.get?_push_of_some _ e,turn_list a _,⟨_,Heap.get?_push_size _ rfl,rfl,rfl⟩,fun b hb=>?_,q⟩
  have e:b=s1.heap.objs.size:=by simpa using hb
  subst e
  exact I1.fpOk (Nat.le_refl _) (I1.hok.fresh (Nat.le_refl _))
theorem pi_tup {l:Expr} {tl:TE} (hl:PE X l tl):PI X tg l (iTup X.K tl):=by
  intro pins s σ H R I h
  refine thn (hl pins s σ H _ I h) fun v s1 ⟨x,H1,I1,r1,q1⟩=>?_
  obtain ⟨a,e,⟨xs,hq⟩,q⟩:=q1
  subst e
  cases r1
  obtain ⟨its,rv,p,hz⟩:=I1.tuple hq
  refine wpAny_pyIter_tuple (show s1.heap.IsTuple a its.toArray from p) ?_
  refine ⟨s1.heap.objs.size,[s1.heap.objs.size],_,_,H1,rfl,I1.kept (t':=s1.toks) fun b o e=>Heap.get?_push_of_some _ e,turn_tuple a _,⟨_,Heap.get?_push_size _ rfl,rfl,rfl⟩,fun b hb=>?_,q⟩
  have e:b=s1.heap.objs.size:=by simpa using hb
  subst e
  exact I1.fpOk (Nat.le_refl _) (I1.hok.fresh (Nat.le_refl _))
theorem range_it {pins:List (Addr×Obj)} {σ:St} {H:Hp} {s:Shared} {R:It→Hp→Prop} {E:Value→Shared→Prop} {lo hi:Int} {t u v:Tok} {tk:Nat} (I:Inv X pins σ H s) (h1:-(2 ^ 62)≤lo) (h2:lo < 2 ^ 62) (h3:-(2 ^ 62)≤hi) (h4:hi < 2 ^ 62)
    (q:R (Itr lo (hi - lo).toNat) H):wpAny (model X.prog X.w) X.A (pyIter (.ref s.heap.objs.size)) (PIE X pins σ tg R) E {s with heap:=s.heap.push {cls:=.type "range",data:=.fields #[.int lo t,.int hi u,.int 1 v]},toks:=tk}:=by
  refine wpAny_pyIter_range (IsRange.new ..) (small_one h1 h2 h3 h4) ?_
  have I1:Inv X pins σ H {s with heap:=s.heap.push {cls:=.type "range",data:=.fields #[.int lo t,.int hi u,.int 1 v]},toks:=tk}:=I.kept fun b o e=>Heap.get?_push_of_some _ e
  refine ⟨(s.heap.push {cls:=.type "range",data:=.fields #[.int lo t,.int hi u,.int 1 v]}).objs.size,[(s.heap.push {cls:=.type "range",data:=.fields #[.int lo t,.int hi u,.int 1 v]}).objs.size],_,_,H,rfl,
    I1.kept (t':=tk) fun b o e=>Heap.get?_push_of_some _ e,turn_range _ lo (hi - lo).toNat,?_,fun b hb=>?_,q⟩
  · have e1:lo + ((0:Nat):Int) * 1=lo:=by simp
    have e2:(((hi - lo).toNat:Nat):Int) - ((0:Nat):Int)=Builtin.Range.rangeSize lo hi 1:=by rw [rangeSize_one]; split <;> omega
    show IsRangeIter _ _ (lo + ((0:Nat):Int) * 1) ((((hi - lo).toNat:Nat):Int) - ((0:Nat):Int)) 1
    rw [e1,e2]
    exact Heap.get?_push_size _ rfl
  · have e:b=(s.heap.push {cls:=.type "range",data:=.fields #[.int lo t,.int hi u,.int 1 v]}).objs.size:=by simpa using hb
    subst e
    exact I1.fpOk (Nat.le_refl _) (I1.hok.fresh (Nat.le_refl _))
def iRng1 (ta:TA):TI:=fun σ H R=>ta σ H fun vs H1=>∃ j:Int,vs=[.int j]∧-(2 ^ 62)≤j∧j < 2 ^ 62∧R (Itr 0 j.toNat) H1
def iRng2 (ta:TA):TI:=fun σ H R=>ta σ H fun vs H1=>∃ i j:Int,vs=[.int i,.int j]∧(-(2 ^ 62)≤i∧i < 2 ^ 62∧-(2 ^ 62)≤j∧j < 2 ^ 62)∧R (Itr i (j - i).toNat) H1
theorem pi_range1 {a:Expr} {ta:TA} {p pos:Pos} (hg:Gl X "range") (hm:X.mg "range"=none) (ha:PA X [a] ta) (hs:starEach [a] X.env=[(false,eval a X.env)]:=by rfl):PI X tg (.Call (.Name "range" p) [a] [] pos) (iRng1 ta):=by
  intro pins s σ H R I h
  refine Call_ (ld_blt I hg hm boot_range (PyProof.Rows.callWith_type1 (thn (ha pos pins s σ H _ I h) fun us s1 ⟨vs,H1,I1,r1,q1⟩=>?_) hs rfl))
  obtain ⟨j,e,q1,q2,q⟩:=q1
  subst e
  cases r1 with
  | cons r rr =>
    cases rr
    obtain ⟨t,rfl⟩:=r
    exact call_range_1 (range_it I1 (by omega) (by omega) q1 q2 (by simpa using q))
def tFor (wi:TI) (g:TG) (tb:TS):TS:=fun D σ H=>wi σ H fun J H1=>∃ W:Nat→Nat→St→Hp→Prop,(∃ m,W 0 m σ H1)∧∀ i m σ H,W i m σ H →
  (J.stop i H∧D.nx σ H)∨(J.go i H∧∃ N:St→Hp→Prop,(∀ σ' H',N σ' H'→∃ m',m' < m∧W (i + 1) m' σ' H')∧∀ x H',J.yld i H x H'→g x σ H' fun σ2 H2=>tb {D with nx:=N,ct:=N,bk:=D.nx} σ2 H2)
def pinsAt (fp:List Addr) (h:Heap):List (Addr×Obj):=fp.filterMap fun b=>(h.get? b).map fun o=>(b,o)
theorem mem_pinsAt {fp:List Addr} {h:Heap} {b:Addr} {o:Obj} (hb:b∈fp) (e:h.get? b=some o):(b,o)∈pinsAt fp h:=List.mem_filterMap.mpr ⟨b,hb,by rw [e]; rfl⟩
theorem of_pinsAt {fp:List Addr} {h:Heap} {p:Addr×Obj} (hp:p∈pinsAt fp h):p.1∈fp∧h.get? p.1=some p.2:=by
  obtain ⟨b,hb,e⟩:=List.mem_filterMap.mp hp
  cases q:h.get? b with
  | none=>rw [q] at e; cases e
  | some o =>
    rw [q] at e
    have e':(b,o)=p:=Option.some.inj e
    subst e'
    exact ⟨hb,q⟩
theorem Inv.pinned {pins:List (Addr×Obj)} {σ:St} {H:Hp} {s:Shared} {fp:List Addr} (I:Inv X pins σ H s) (hf:∀ b∈fp,FpOk X pins H b) (ho:∀ b∈fp,∃ o,s.heap.get? b=some o∧∀ v,o.data≠.cell v):Inv X (pins++pinsAt fp s.heap) σ H s:=
  I.pins_of fun p hp=>(List.mem_append.mp hp).elim (fun z=>I.pin p (List.mem_append_right _ z)) fun z=>by
    obtain ⟨hb,e⟩:=of_pinsAt z
    obtain ⟨f0,f1,f2,_⟩:=hf p.1 hb
    obtain ⟨o,e',d⟩:=ho p.1 hb
    rw [e] at e'; cases e'
    exact ⟨e,f0,f1,f2,d⟩
theorem Inv.unpinned {pins pl:List (Addr×Obj)} {σ:St} {H:Hp} {s:Shared} (I:Inv X (pins++pl) σ H s):Inv X pins σ H s:=I.pins_of fun p hp=>I.pin p (List.mem_append_right _ (List.mem_append_left _ hp))
theorem ps_for {iter:Expr} {body:List Stmt} {wi:TI} {g:TG} {tb:TS} {pos:Pos} (hp:PassesOwn (model X.prog X.w) X.A X.env X.xe) (hc:X.calm=true) (hi:PI X tg iter wi) (hg:PG X tg g) (hb:PSs X body tb)
    (hs:∀ x,foldedSetIterable iter X.env x=pure x:=by intro _; rfl):PS X (.For tg iter body [] pos) (tFor wi g tb):=by
  intro pins s σ H D I h
  refine wpAny_For (thn (hi pins s σ H _ I h) fun v s1 h1=>thn h1 fun itv s2 h2=>?_) hs
  obtain ⟨it,fp,tn,J,H2,e,I2,T,st2,f2,W,⟨m0,w0⟩,turn⟩:=h2
  subst e
  -- what stays true of the iterator's objects through the loop
  have stat:∀ {H':Hp},(∀ b∈fp,H' b=none)→∀ b∈fp,FpOk X pins H' b:=fun hn b hb=>⟨hn b hb,(f2 b hb).2⟩
  refine codeAny_forLoop_any (fun n s'=>∃ i σ' H',Inv X pins σ' H' s'∧tn i s'.heap∧(∀ b∈fp,H' b=none)∧W i n σ' H') ?_ m0 ⟨0,σ,H2,I2,st2,fun b hb=>(f2 b hb).1,w0⟩
  rintro n s3 ⟨i,σ3,H3,I3,st3,fr3,w3⟩
  rcases turn i n σ3 H3 w3 with ⟨stop,qn⟩ | ⟨go,N,hN,step⟩
  · refine wpAny_passesOwn hp (thn (T.done X rfl rfl rfl hc i pins s3 σ3 H3 X.xe I3 (stat fr3) st3 stop) fun r s4 ⟨hr,I4⟩=>?_)
    subst hr
    exact wpAny_execs_nil ⟨σ3,H3,I4,qn⟩
  · refine wpAny_passesOwn hp (thn (T.item X rfl rfl rfl hc i pins s3 σ3 H3 X.xe I3 (stat fr3) st3 go) fun r s4 ⟨u,hr,h4⟩=>?_)
    subst hr
    refine wpAny_passesOwn hp (thn h4 fun _ s5 ⟨x,H5,I5,r5,y5,st5,fr5⟩=>?_)
    have I5':=I5.pinned (stat fr5) (T.obj _ _ st5)
    refine wpAny_passesOwn hp (thn (hg _ s5 σ3 H5 x u _ I5' r5 (step x H5 y5)) fun _ s6 ⟨σ6,H6,I6,q6⟩=>?_)
    refine wpAny_passesOwn hp (thn (hb _ s6 σ6 H6 _ I6 q6) fun f s7 q7=>?_)
    have again:∀ {σ7:St} {H7:Hp},Inv X (pins++pinsAt fp s5.heap) σ7 H7 s7→N σ7 H7→∃ m,m < n∧∃ i σ' H',Inv X pins σ' H' s7∧tn i s7.heap∧(∀ b∈fp,H' b=none)∧W i m σ' H':=fun {σ7 H7} I7 n7=>by
      obtain ⟨m',hm,w7⟩:=hN σ7 H7 n7
      refine ⟨m',hm,i + 1,σ7,H7,I7.unpinned,T.keep _ _ _ st5 fun b hb o e=>(I7.pin (b,o) (List.mem_append_right _ (List.mem_append_right _ (mem_pinsAt hb e)))).1,fun b hb=>?_,w7⟩
      obtain ⟨o,e,d⟩:=T.obj _ _ st5 b hb
      exact (I7.pin (b,o) (List.mem_append_right _ (List.mem_append_right _ (mem_pinsAt hb e)))).2.1
    cases f with
    | next=>obtain ⟨σ7,H7,I7,n7⟩:=q7; exact again I7 n7
    | cont=>obtain ⟨σ7,H7,I7,n7⟩:=q7; exact again I7 n7
    | brk=>obtain ⟨σ7,H7,I7,q7⟩:=q7; exact ⟨σ7,H7,I7.unpinned,q7⟩
    | ret v=>obtain ⟨x7,σ7,H7,I7,r7,q7⟩:=q7; exact ⟨x7,σ7,H7,I7.unpinned,r7,q7⟩
end
theorem for_list {K:PySem.W.Frag} {a:Addr} {xs:List V} {g:TG} {tb:TS} {D:Ends} {σ:St} {H:Hp} (Pv:Nat→St→Hp→Prop) (h0:Pv 0 σ H) (hl:∀ i σ H,i≤xs.length→Pv i σ H→SqL K H a xs)
    (hs:∀ i x σ H,xs[i]?=some x→Pv i σ H→g x σ H fun σ2 H2=>tb {D with nx:=Pv (i + 1),ct:=Pv (i + 1),bk:=D.nx} σ2 H2) (hd:∀ σ H,Pv xs.length σ H→D.nx σ H) :
    ∃ W:Nat→Nat→St→Hp→Prop,(∃ m,W 0 m σ H)∧∀ i m σ H,W i m σ H →
      ((Itl K a).stop i H∧D.nx σ H)∨((Itl K a).go i H∧∃ N:St→Hp→Prop,(∀ σ' H',N σ' H'→∃ m',m' < m∧W (i + 1) m' σ' H')∧∀ x H',(Itl K a).yld i H x H'→g x σ H' fun σ2 H2=>tb {D with nx:=N,ct:=N,bk:=D.nx} σ2 H2):=by
  refine ⟨fun i m σ H=>m=xs.length - i∧i≤xs.length∧Pv i σ H,⟨xs.length,by simp,Nat.zero_le _,h0⟩,?_⟩
  rintro i m σ H ⟨rfl,hi,p⟩
  have q:=hl i σ H hi p
  by_cases hlt:i < xs.length
  · refine .inr ⟨⟨xs,xs[i],q,by simp [hlt]⟩,Pv (i + 1),fun σ' H' p'=>⟨xs.length - (i + 1),by omega,rfl,hlt,p'⟩,fun x H' y=>?_⟩
    obtain ⟨e,y⟩:=y
    subst e
    exact hs i x σ _ (y xs q) p
  · have e:i=xs.length:=by omega
    subst e
    exact .inl ⟨⟨xs,q,Nat.le_refl _⟩,hd σ H p⟩
theorem for_range {lo:Int} {n:Nat} {g:TG} {tb:TS} {D:Ends} {σ:St} {H:Hp} (Pv:Nat→St→Hp→Prop) (h0:Pv 0 σ H)
    (hs:∀ i σ H,i < n→Pv i σ H→g (.int (lo + i)) σ H fun σ2 H2=>tb {D with nx:=Pv (i + 1),ct:=Pv (i + 1),bk:=D.nx} σ2 H2) (hd:∀ σ H,Pv n σ H→D.nx σ H) :
    ∃ W:Nat→Nat→St→Hp→Prop,(∃ m,W 0 m σ H)∧∀ i m σ H,W i m σ H →
      ((Itr lo n).stop i H∧D.nx σ H)∨((Itr lo n).go i H∧∃ N:St→Hp→Prop,(∀ σ' H',N σ' H'→∃ m',m' < m∧W (i + 1) m' σ' H')∧∀ x H',(Itr lo n).yld i H x H'→g x σ H' fun σ2 H2=>tb {D with nx:=N,ct:=N,bk:=D.nx} σ2 H2):=by
  refine ⟨fun i m σ H=>m=n - i∧i≤n∧Pv i σ H,⟨n,by simp,Nat.zero_le _,h0⟩,?_⟩
  rintro i m σ H ⟨rfl,hi,p⟩
  by_cases hlt:i < n
  · refine .inr ⟨hlt,Pv (i + 1),fun σ' H' p'=>⟨n - (i + 1),by omega,rfl,hlt,p'⟩,fun x H' y=>?_⟩
    obtain ⟨e,y⟩:=y
    subst e y
    exact hs i σ _ hlt p
  · have e:i=n:=by omega
    subst e
    exact .inl ⟨Nat.le_refl _,hd σ H p⟩
end L2
namespace L2
open PySem PySem.Spec PyProof.Rows
abbrev R2:=V→V→Hp→VK→Prop
def OpR (X:Cx) (f:Value→Value→Sem Value) (r:R2):Prop:=
  ∀ (pins:List (Addr×Obj)) (s:Shared) (σ:St) (H:Hp) (x y:V) (v u:Value) (Q:VK),Inv X pins σ H s→RelV x v→RelV y u→r x y H Q →
    wpAny (model X.prog X.w) X.A (f v u) (EP X pins σ Q) X.xe s
def UnR (X:Cx) (f:Value→Sem Value) (r:V→Hp→VK→Prop):Prop:=
  ∀ (pins:List (Addr×Obj)) (s:Shared) (σ:St) (H:Hp) (x:V) (v:Value) (Q:VK),Inv X pins σ H s→RelV x v→r x H Q →
    wpAny (model X.prog X.w) X.A (f v) (EP X pins σ Q) X.xe s
def CallR (X:Cx) (f:Value) (r:List V→Hp→VK→Prop):Prop:=
  ∀ (pins:List (Addr×Obj)) (s:Shared) (σ:St) (H:Hp) (xs:List V) (us:List Value) (Q:VK),Inv X pins σ H s→Vals xs us→r xs H Q →
    wpAny (model X.prog X.w) X.A (call f us) (EP X pins σ Q) X.xe s
def TruR (X:Cx) (r:V→Hp→(Bool→Hp→Prop)→Prop):Prop:=
  ∀ (pins:List (Addr×Obj)) (s:Shared) (σ:St) (H:Hp) (x:V) (v:Value) (Q:Bool→Hp→Prop),Inv X pins σ H s→RelV x v→r x H Q →
    wpAny (model X.prog X.w) X.A (truthy v) (TP X pins σ Q) X.xe s
def tOp (r:R2) (ta tb:TE):TE:=fun σ H Q=>ta σ H fun x H1=>tb σ H1 fun y H2=>r x y H2 Q
def tUn (r:V→Hp→VK→Prop) (ta:TE):TE:=fun σ H Q=>ta σ H fun x H1=>r x H1 Q
def rI (C:Int→Int→Prop) (g:Int→Int→V):R2:=fun x y H Q=>∃ i j,x=.int i∧y=.int j∧C i j∧Q (g i j) H
def rI0 (g:Int→Int→V):R2:=fun x y H Q=>∃ i j,x=.int i∧y=.int j∧Q (g i j) H
def rU (g:Int→V):V→Hp→VK→Prop:=fun x H Q=>∃ i,x=.int i∧Q (g i) H
section
variable {X:Cx} {a b c:Expr} {ta tb tc:TE} {pos:Pos}
theorem binT (ha:PE X a ta) (hb:PE X b tb) {pins:List (Addr×Obj)} {s:Shared} {σ:St} {H:Hp} {R:V→V→Hp→Prop} (I:Inv X pins σ H s)
    (h:ta σ H fun x H1=>tb σ H1 fun y H2=>R x y H2) {Q:Value→Shared→Prop} {f:Value→Value→Sem Value}
    (hf:∀ v u s2 x y H2,Inv X pins σ H2 s2→RelV x v→RelV y u→R x y H2→wpAny (model X.prog X.w) X.A (f v u) Q X.xe s2) :
    wpAny (model X.prog X.w) X.A (eval a X.env) (fun v s₁=>wpAny (model X.prog X.w) X.A (eval b X.env) (fun u s₂=>wpAny (model X.prog X.w) X.A (f v u) Q X.xe s₂) X.xe s₁) X.xe s:=by
  refine thn (ha pins s σ H _ I h) fun v s1 ⟨x,H1,I1,r1,q1⟩=>?_
  refine thn (hb pins s1 σ H1 _ I1 q1) fun u s2 ⟨y,H2,I2,r2,q2⟩=>?_
  exact hf v u s2 x y H2 I2 r1 r2 q2
theorem pe_op {op:Operator} {r:R2} (ho:OpR X (binaryOp op) r) (ha:PE X a ta) (hb:PE X b tb):PE X (.BinOp a op b pos) (tOp r ta tb):=by
  intro pins s σ H Q I h
  exact wpAny_BinOp (binT ha hb I h fun v u s2 x y H2 I2 rx ry q=>ho pins s2 σ H2 x y v u Q I2 rx ry q)
theorem pe_un {op:UnaryOp} {r:V→Hp→VK→Prop} (ho:UnR X (unaryOp op) r) (ha:PE X a ta):PE X (.UnaryOp op a pos) (tUn r ta):=by
  intro pins s σ H Q I h
  exact UnaryOp_ (thn (ha pins s σ H _ I h) fun v s1 ⟨x,H1,I1,r1,q1⟩=>ho pins s1 σ H1 x v Q I1 r1 q1)
theorem opI {f:Value→Value→Sem Value} {C:Int→Int→Prop} {g:Int→Int→Int}
    (rule:∀ (i j:Int) (t u:Tok) (s:Shared) (Q:Value→Shared→Prop) (E:Value→Shared→Prop),C i j→Q (.int (g i j) s.toks) {s with toks:=s.toks + 1}→wpAny (model X.prog X.w) X.A (f (.int i t) (.int j u)) Q E s) :
    OpR X f (rI C fun i j=>.int (g i j)):=by
  intro pins s σ H x y v u Q I rx ry h
  obtain ⟨i,j,rfl,rfl,hc,q⟩:=h
  obtain ⟨t,rfl⟩:=rx
  obtain ⟨t',rfl⟩:=ry
  exact rule i j t t' s _ _ hc ⟨.int (g i j),H,I.tok _,⟨_,rfl⟩,q⟩
theorem opI0 {f:Value→Value→Sem Value} {g:Int→Int→Int}
    (rule:∀ (i j:Int) (t u:Tok) (s:Shared) (Q:Value→Shared→Prop) (E:Value→Shared→Prop),Q (.int (g i j) s.toks) {s with toks:=s.toks + 1}→wpAny (model X.prog X.w) X.A (f (.int i t) (.int j u)) Q E s) :
    OpR X f (rI0 fun i j=>.int (g i j)):=by
  intro pins s σ H x y v u Q I rx ry h
  obtain ⟨i,j,rfl,rfl,q⟩:=h
  obtain ⟨t,rfl⟩:=rx
  obtain ⟨t',rfl⟩:=ry
  exact rule i j t t' s _ _ ⟨.int (g i j),H,I.tok _,⟨_,rfl⟩,q⟩
theorem opB0 {f:Value→Value→Sem Value} {g:Int→Int→Bool}
    (rule:∀ (i j:Int) (t u:Tok) (s:Shared) (Q:Value→Shared→Prop) (E:Value→Shared→Prop),Q (.bool (g i j)) s→wpAny (model X.prog X.w) X.A (f (.int i t) (.int j u)) Q E s) :
    OpR X f (rI0 fun i j=>.bl (g i j)):=by
  intro pins s σ H x y v u Q I rx ry h
  obtain ⟨i,j,rfl,rfl,q⟩:=h
  obtain ⟨t,rfl⟩:=rx
  obtain ⟨t',rfl⟩:=ry
  exact rule i j t t' s _ _ ⟨.bl (g i j),H,I,rfl,q⟩
def CDiv (i j:Int):Prop:=0 < j∧j < 1073741824
def CDivN (i j:Int):Prop:=j≠0∧j.natAbs < 1073741824
def CPow (i j:Int):Prop:=0≤j∧j≤1000000∧i.natAbs < 2 ^ 64
def CMul (i j:Int):Prop:=(-(2 ^ 64) < i∧i < 2 ^ 64)∨(-(2 ^ 64) < j∧j < 2 ^ 64)
theorem CMul.ok {i j:Int} (h:CMul i j):IntMulOk i j:=by
  rcases h with ⟨h1,h2⟩ | ⟨h1,h2⟩
  · exact .of_left (intBits_le_64 h1 h2)
  · exact .of_right (intBits_le_64 h1 h2)
theorem op_add:OpR X (binaryOp .Add) (rI0 fun i j=>.int (i + j)):=opI0 fun _ _ _ _ _ _ _ q=>add_int q
theorem op_sub:OpR X (binaryOp .Sub) (rI0 fun i j=>.int (i - j)):=opI0 fun _ _ _ _ _ _ _ q=>sub_int q
theorem op_mul:OpR X (binaryOp .Mult) (rI CMul fun i j=>.int (i * j)):=opI fun _ _ _ _ _ _ _ hc q=>mul_int q hc.ok
theorem op_mod:OpR X (binaryOp .Mod) (rI (fun _ j=>0 < j) fun i j=>.int (i % j)):=opI fun i j _ _ _ _ _ hc q=>by
  have h1:(0:Int) < j:=hc
  exact mod_int' (by omega) (by rw [Int.fmod_eq_emod_of_nonneg i (by omega)]; exact q)
theorem op_pow:OpR X (binaryOp .Pow) (rI CPow fun i j=>.int (i ^ j.toNat)):=opI fun _ _ _ _ _ _ _ hc q=>pow_int_small hc.1 hc.2.1 hc.2.2 q
theorem unI {f:Value→Sem Value} {g:Int→Int}
    (rule:∀ (i:Int) (t:Tok) (s:Shared) (Q:Value→Shared→Prop) (E:Value→Shared→Prop),Q (.int (g i) s.toks) {s with toks:=s.toks + 1}→wpAny (model X.prog X.w) X.A (f (.int i t)) Q E s) :
    UnR X f (rU fun i=>.int (g i)):=by
  intro pins s σ H x v Q I rx h
  obtain ⟨i,rfl,q⟩:=h
  obtain ⟨t,rfl⟩:=rx
  exact rule i t s _ _ ⟨.int (g i),H,I.tok _,⟨_,rfl⟩,q⟩
theorem un_neg:UnR X (unaryOp .USub) (rU fun i=>.int (-i)):=unI fun _ _ _ _ _ q=>neg_int q
end
def scal:V→V→Bool
  | .non,.non=>true | .non,.int _=>true | .int _,.non=>true | .non,.bl _=>true | .bl _,.non=>true | .non,.str _=>true | .str _,.non=>true
  | .int _,.int _=>true | .bl _,.bl _=>true | .str _,.str _=>true | .byt _,.byt _=>true
  | .int _,.str _=>true | .str _,.int _=>true | .bl _,.str _=>true | .str _,.bl _=>true
  | _,_=>false
def rEq:R2:=fun x y H Q=>scal x y=true∧Q (.bl (decide (x=y))) H
def rNe:R2:=fun x y H Q=>scal x y=true∧Q (.bl (!decide (x=y))) H
theorem dec_int {i j:Int}:decide (V.int i=V.int j)=(i == j):=by
  rw [Bool.eq_iff_iff]
  simp
theorem dec_bl {i j:Bool}:decide (V.bl i=V.bl j)=(i == j):=by
  rw [Bool.eq_iff_iff]
  simp
theorem dec_str {i j:Str}:decide (V.str i=V.str j)=(i == j):=by
  rw [Bool.eq_iff_iff]
  simp
theorem dec_byt {i j:Array UInt8}:decide (V.byt i=V.byt j)=(i.toList == j.toList):=by
  rw [Bool.eq_iff_iff]
  cases i
  cases j
  simp
section
variable {X:Cx} {a b c:Expr} {ta tb tc:TE} {pos:Pos}
theorem fin_bl {pins:List (Addr×Obj)} {σ:St} {H:Hp} {s:Shared} {Q:VK} {k k':Bool} (I:Inv X pins σ H s) (q:Q (.bl k) H) (e:k=k'):EP X pins σ Q (.bool k') s:=by
  subst e
  exact ⟨.bl k,H,I,rfl,q⟩
theorem op_eq:OpR X (compareOp .Eq) rEq:=by
  intro pins s σ H x y v u Q I rx ry h
  obtain ⟨hs,q⟩:=h
  cases x with
  | non =>
    cases rx
    cases y with
    | non=>cases ry; exact PySem.EqNone.eq_none_none (fin_bl I q (by simp))
    | bl j=>cases ry; exact PySem.EqNone.eq_none_bool (fin_bl I q (by simp))
    | int j=>obtain ⟨t',rfl⟩:=ry; exact PySem.EqNone.eq_none_int (fin_bl I q (by simp))
    | str j=>obtain ⟨t',rfl⟩:=ry; exact PySem.EqNone.eq_none_str (fin_bl I q (by simp))
    | _=>exact absurd (show false=true from hs) Bool.false_ne_true
  | bl i =>
    cases rx
    cases y with
    | non=>cases ry; exact PySem.EqNone.eq_bool_none (fin_bl I q (by simp))
    | bl j=>cases ry; exact eq_bool (fin_bl I q dec_bl)
    | str j=>obtain ⟨t',rfl⟩:=ry; exact PySem.EqMixed.eq_bool_str (fin_bl I q (by simp))
    | _=>exact absurd (show false=true from hs) Bool.false_ne_true
  | int i =>
    obtain ⟨t,rfl⟩:=rx
    cases y with
    | non=>cases ry; exact PySem.EqNone.eq_int_none (fin_bl I q (by simp))
    | int j=>obtain ⟨t',rfl⟩:=ry; exact eq_int (fin_bl I q dec_int)
    | str j=>obtain ⟨t',rfl⟩:=ry; exact PySem.EqMixed.eq_int_str (fin_bl I q (by simp))
    | _=>exact absurd (show false=true from hs) Bool.false_ne_true
  | str i =>
    obtain ⟨t,rfl⟩:=rx
    cases y with
    | non=>cases ry; exact PySem.EqNone.eq_str_none (fin_bl I q (by simp))
    | bl j=>cases ry; exact PySem.EqMixed.eq_str_bool (fin_bl I q (by simp))
    | int j=>obtain ⟨t',rfl⟩:=ry; exact PySem.EqMixed.eq_str_int (fin_bl I q (by simp))
    | str j=>obtain ⟨t',rfl⟩:=ry; exact eq_str (fin_bl I q dec_str)
    | _=>exact absurd (show false=true from hs) Bool.false_ne_true
  | byt i =>
    obtain ⟨t,rfl⟩:=rx
    cases y with
    | byt j=>obtain ⟨t',rfl⟩:=ry; exact PySem.W.eq_bytes (fin_bl I q dec_byt)
    | _=>exact absurd (show false=true from hs) Bool.false_ne_true
  | _=>cases y <;> exact absurd (show false=true from hs) Bool.false_ne_true
theorem op_ne:OpR X (compareOp .NotEq) rNe:=by
  intro pins s σ H x y v u Q I rx ry h
  obtain ⟨hs,q⟩:=h
  cases x with
  | non =>
    cases rx
    cases y with
    | non=>cases ry; exact PySem.EqNone.ne_none_none (fin_bl I q (by simp))
    | bl j=>cases ry; exact PySem.EqNone.ne_none_bool (fin_bl I q (by simp))
    | int j=>obtain ⟨t',rfl⟩:=ry; exact PySem.EqNone.ne_none_int (fin_bl I q (by simp))
    | str j=>obtain ⟨t',rfl⟩:=ry; exact PySem.EqNone.ne_none_str (fin_bl I q (by simp))
    | _=>exact absurd (show false=true from hs) Bool.false_ne_true
  | bl i =>
    cases rx
    cases y with
    | non=>cases ry; exact PySem.EqNone.ne_bool_none (fin_bl I q (by simp))
    | bl j=>cases ry; exact ne_bool (fin_bl I q (congrArg not dec_bl))
    | str j=>obtain ⟨t',rfl⟩:=ry; exact PySem.EqMixed.ne_bool_str (fin_bl I q (by simp))
    | _=>exact absurd (show false=true from hs) Bool.false_ne_true
  | int i =>
    obtain ⟨t,rfl⟩:=rx
    cases y with
    | non=>cases ry; exact PySem.EqNone.ne_int_none (fin_bl I q (by simp))
    | int j=>obtain ⟨t',rfl⟩:=ry; exact ne_int (fin_bl I q (congrArg not dec_int))
    | str j=>obtain ⟨t',rfl⟩:=ry; exact PySem.EqMixed.ne_int_str (fin_bl I q (by simp))
    | _=>exact absurd (show false=true from hs) Bool.false_ne_true
  | str i =>
    obtain ⟨t,rfl⟩:=rx
    cases y with
    | non=>cases ry; exact PySem.EqNone.ne_str_none (fin_bl I q (by simp))
    | bl j=>cases ry; exact PySem.EqMixed.ne_str_bool (fin_bl I q (by simp))
    | int j=>obtain ⟨t',rfl⟩:=ry; exact PySem.EqMixed.ne_str_int (fin_bl I q (by simp))
    | str j=>obtain ⟨t',rfl⟩:=ry; exact ne_str (fin_bl I q (congrArg not dec_str))
    | _=>exact absurd (show false=true from hs) Bool.false_ne_true
  | byt i =>
    obtain ⟨t,rfl⟩:=rx
    cases y with
    | byt j=>obtain ⟨t',rfl⟩:=ry; exact PySem.W.ne_bytes (fin_bl I q (congrArg not dec_byt))
    | _=>exact absurd (show false=true from hs) Bool.false_ne_true
  | _=>cases y <;> exact absurd (show false=true from hs) Bool.false_ne_true
theorem op_lt:OpR X (compareOp .Lt) (rI0 fun i j=>.bl (decide (i < j))):=opB0 fun _ _ _ _ _ _ _ q=>lt_int q
theorem op_gt:OpR X (compareOp .Gt) (rI0 fun i j=>.bl (decide (j < i))):=opB0 fun _ _ _ _ _ _ _ q=>gt_int q
def isObj:HO→Bool
  | .lst _=>true
  | .ins _ _ _=>true
  | _=>false
theorem nomark (b:Expr) {op:CmpOp} (h:op≠.In:=by decide) (h2:op≠.NotIn:=by decide):behindInMarks op b=false:=by
  have e1:(op == CmpOp.In)=false:=by cases op <;> first | rfl | exact absurd rfl h
  have e2:(op == CmpOp.NotIn)=false:=by cases op <;> first | rfl | exact absurd rfl h2
  cases b <;> simp [behindInMarks,e1,e2]
theorem pe_cmpR {op:CmpOp} {r:R2} (ho:OpR X (compareOp op) r) (ha:PE X a ta) (hb:PE X b tb) (hm:behindInMarks op b=false):PE X (.Compare a [op] [b] pos) (tOp r ta tb):=by
  intro pins s σ H Q I h
  exact wpAny_Compare1 (binT ha hb I h fun v u s2 x y H2 I2 rx ry q=>ho pins s2 σ H2 x y v u Q I2 rx ry q) hm
def tTest (t:TE):TT:=fun σ H Q=>t σ H fun x H'=>∃ k,x=.bl k∧Q k H'
theorem pt_cmpR {op:CmpOp} {r:R2} (ho:OpR X (compareOp op) r) (ha:PE X a ta) (hb:PE X b tb) (hm:behindInMarks op b=false):PT X (.Compare a [op] [b] pos) (tTest (tOp r ta tb)):=by
  intro pins s σ H Q I h
  refine wpAny_isTrue_Compare1 (thn (ha pins s σ H _ I h) fun v s1 ⟨x,H1,I1,r1,q1⟩=>thn (hb pins s1 σ H1 _ I1 q1) fun u s2 ⟨y,H2,I2,r2,q2⟩ =>
    thn (ho pins s2 σ H2 x y v u _ I2 r1 r2 q2) fun c s3 ⟨z,H3,I3,r3,k,e,q3⟩=>?_) hm
  subst e
  cases r3
  exact wpAny_truthy_bool ⟨H3,I3,q3⟩
def tChain (r r':R2) (ta tb tc:TE):TE:=fun σ H Q=>ta σ H fun x H1=>tb σ H1 fun y H2=>r x y H2 fun z H3=>∃ k,z=.bl k ∧
  (if k=true then tc σ H3 fun w' H4=>r' y w' H4 Q else Q (.bl false) H3)
def TruV (K:PySem.W.Frag) (x:V) (H:Hp) (k:Bool):Prop:=
  match x with
  | .non=>k=false
  | .bl b=>k=b
  | .int i=>k=(i != 0)
  | .str y=>y.length≤sizeLine∧k=((y.length:Int) != 0)
  | .byt y=>y.size≤sizeLine∧k=((y.size:Int) != 0)
  | .ref p=>(∃ xs,SqL K H p xs∧k=!xs.isEmpty)∨(∃ xs,SqT K H p xs∧k=!xs.isEmpty)∨∃ kvs,H p=some (.dK kvs)∧k=!kvs.isEmpty
  | _=>False
theorem isEmpty_kv {κ:Type} {kvs:List (κ×V)} {vs:List (κ×Value)} (r:KV kvs vs):(!vs.isEmpty)=!kvs.isEmpty:=by
  cases r <;> rfl
theorem isEmpty_of {xs:List V} {its:List Value} (r:Vals xs its):(!its.toArray.isEmpty)=!xs.isEmpty:=by
  cases r <;> simp
theorem line63:(sizeLine:Nat) < 2 ^ 63:=by rw [sizeLine_eq]; decide
theorem tru_ok:TruR X (fun x H Q=>∃ k,TruV X.K x H k∧Q k H):=by
  intro pins s σ H x v Q I rx h
  obtain ⟨k,e,q⟩:=h
  have hl:=line63
  have hs:sizeLine=16777216:=sizeLine_eq
  cases x with
  | non =>
    cases rx
    have e':k=false:=e
    subst e'
    exact truthy_none ⟨H,I,q⟩
  | bl b =>
    cases rx
    have e':k=b:=e
    subst e'
    exact wpAny_truthy_bool ⟨H,I,q⟩
  | int i =>
    obtain ⟨t,rfl⟩:=rx
    have e':k=(i != 0):=e
    subst e'
    exact PySem.P.truthy_int ⟨H,I,q⟩
  | str y =>
    obtain ⟨t,rfl⟩:=rx
    obtain ⟨hy,e'⟩:y.length≤sizeLine∧k=((y.length:Int) != 0):=e
    subst e'
    exact PySem.P.truthy_str (by omega) ⟨H,I.tok _,q⟩
  | byt y =>
    obtain ⟨t,rfl⟩:=rx
    obtain ⟨hy,e'⟩:y.size≤sizeLine∧k=((y.size:Int) != 0):=e
    subst e'
    exact PySem.W.truthy_bytes (by omega) ⟨H,I.tok _,q⟩
  | ref p =>
    cases rx
    have e':(∃ xs,SqL X.K H p xs∧k=!xs.isEmpty)∨(∃ xs,SqT X.K H p xs∧k=!xs.isEmpty)∨∃ kvs,H p=some (.dK kvs)∧k=!kvs.isEmpty:=e
    rcases e' with ⟨xs,hx,e'⟩ | ⟨xs,hx,e'⟩ | ⟨kvs,hx,e'⟩
    · subst e'
      obtain ⟨its,r,pl,hz⟩:=I.list hx
      have hlen:=r.length
      exact wpAny_truthy_list pl.isList (by simp only [List.size_toArray]; omega) ⟨H,I.tok _,by rw [isEmpty_of r]; exact q⟩
    · subst e'
      obtain ⟨its,r,pl,hz⟩:=I.tuple hx
      have hlen:=r.length
      exact truthy_tuple pl (by simp only [List.size_toArray]; omega) ⟨H,I.tok _,by rw [isEmpty_of r]; exact q⟩
    · subst e'
      obtain ⟨hz,hS,vs,r,m⟩:kvs.length≤sizeLine∧(p == sysModules)=false∧∃ vs,KV kvs vs∧s.heap.DictOf (mixKind X.prog X.w) p vs:=I.hok p _ hx
      have hlen:kvs.length=vs.length:=Paired.length r
      exact wpAny_truthy_dict hS m (by omega) ⟨H,I.tok _,by rw [isEmpty_kv r]; exact q⟩
  | _=>exact (show False from e).elim
theorem pt_truth (ha:PE X a ta) (he:∀ whole,isTrue a X.env whole=(do let v ← whole; standAt a.pos; holding [v] (truthy v))) :
    PT X a (fun σ H Q=>ta σ H fun x H'=>∃ k,TruV X.K x H' k∧Q k H'):=by
  intro pins s σ H Q I h
  exact isTrue_plain (thn (ha pins s σ H _ I h) fun v s1 ⟨x,H1,I1,r1,q1⟩=>tru_ok pins s1 σ H1 x v Q I1 r1 q1) (he _)
theorem op_add_str:OpR X (binaryOp .Add) (fun x y H Q=>∃ i j,x=.str i∧y=.str j∧i.length + j.length≤sizeLine∧Q (.str (i++j)) H):=by
  intro pins s σ H x y v u Q I rx ry h
  obtain ⟨i,j,rfl,rfl,hz,q⟩:=h
  obtain ⟨t,rfl⟩:=rx
  obtain ⟨t',rfl⟩:=ry
  exact add_str (fun t' tk=>⟨.str (i++j),H,I.tok _,⟨_,rfl⟩,q⟩) hz
def PlainIxT (b:Expr):Prop:=∀ o i,subscripted b false o i=operate [o,i] (getItem o i)
theorem vals1 {x:V} {us:List Value} (r:Vals [x] us):∃ u,us=[u]∧RelV x u:=by
  cases r with
  | cons r1 r2=>cases r2; exact ⟨_,rfl,r1⟩
theorem vals2 {x y:V} {us:List Value} (r:Vals [x,y] us):∃ u w',us=[u,w']∧RelV x u∧RelV y w':=by
  cases r with
  | cons r1 r2 =>
    cases r2 with
    | cons r3 r4=>cases r4; exact ⟨_,_,rfl,r1,r3⟩
theorem call_abs:CallR X (.builtin "abs") (fun xs H Q=>∃ i,xs=[.int i]∧Q (.int (if i < 0 then -i else i)) H):=by
  intro pins s σ H xs us Q I r h
  obtain ⟨i,rfl,q⟩:=h
  obtain ⟨u,rfl,t,rfl⟩:=vals1 r
  exact call_abs_int fun u tk=>⟨.int (if i < 0 then -i else i),H,I.tok _,⟨_,rfl⟩,q⟩
theorem call_int1:CallR X (.type "int") (fun xs H Q=>(∃ i,xs=[.int i]∧Q (.int i) H)∨∃ k,xs=[.bl k]∧Q (.int (if k then 1 else 0)) H):=by
  intro pins s σ H xs us Q I r h
  rcases h with ⟨i,rfl,q⟩ | ⟨k,rfl,q⟩
  · obtain ⟨u,rfl,t,rfl⟩:=vals1 r
    exact call_int_int ⟨.int i,H,I,⟨_,rfl⟩,q⟩
  · obtain ⟨u,rfl,r1⟩:=vals1 r
    cases r1
    exact call_int_bool ⟨.int (if k then 1 else 0),H,I.tok _,⟨_,rfl⟩,q⟩
theorem call_str_int:CallR X (.type "str") (fun xs H Q=>∃ i,xs=[.int i]∧i.natAbs.log2 < 1920∧Q (.str (toString i)) H):=by
  intro pins s σ H xs us Q I r h
  obtain ⟨i,rfl,hz,q⟩:=h
  obtain ⟨u,rfl,t,rfl⟩:=vals1 r
  exact PySem.P.str_of_int hz ⟨.str _,H,I.tok _,⟨_,rfl⟩,q⟩
def LenV (K:PySem.W.Frag) (x:V) (H:Hp) (n:Nat):Prop:=
  match x with
  | .str y=>y.length≤sizeLine∧n=y.length
  | .byt y=>y.size≤sizeLine∧n=y.size
  | .ref p=>(∃ xs,SqL K H p xs∧n=xs.length)∨∃ xs,SqT K H p xs∧n=xs.length
  | _=>False
end
end L2
namespace L2
open PySem PySem.Spec PyProof.Rows
structure ObjM (h:Heap) (x dx C:Addr) (mA:Str→Option Value):Prop where
  obj:h.get? x=some (PySem.W.instObj C dx)
  ns:h.Ns1 dx mA
  ne:dx≠x
theorem lookIn_ns {h:Heap} {dx:Addr} {mA:Str→Option Value} (n:h.Ns1 dx mA):∃ od,h.get? dx=some od∧∀ name,PySem.W.lookIn name od=some (mA name):=by
  obtain ⟨o,es,ep,ho,hd,hk,_,hm⟩:=n
  refine ⟨o,ho,fun name=>?_⟩
  have e:=hm name
  unfold nsFind findBy at e
  rw [← Array.find?_toList] at e
  unfold PySem.W.lookIn
  rw [hd]
  dsimp only
  split
  · rename_i y q
    rw [q] at e
    exact congrArg some e
  · rename_i q
    rw [q] at e
    have a:es.toList.any (·.refKey)=false:=by
      rw [List.any_eq_false]
      intro y hy
      obtain ⟨z,t,hkey⟩:=hk y (Array.mem_toList_iff.mp hy)
      simp [DictEntry.refKey,hkey]
    have a':¬ es.toList.any (·.refKey)=true:=by rw [a]; exact Bool.false_ne_true
    rw [if_neg a']
    exact congrArg some e
theorem ObjM.look {h:Heap} {x dx C:Addr} {mA:Str→Option Value} (I:ObjM h x dx C mA):∃ od,PySem.W.InstAt h x (PySem.W.instObj C dx) C (some od)∧∀ name,PySem.W.lookIn name od=some (mA name):=
  let ⟨od,ho,hl⟩:=lookIn_ns I.ns
  ⟨od,⟨I.obj,rfl,rfl,ho⟩,hl⟩
section
variable {prog:Program} {w:World} {A:Around} {E:Value→Shared→Prop} {s:Shared} {K:PySem.W.Frag} {x dx C f:Addr} {mA:Str→Option Value} {name:Str} {v:Value}
end
def putF (f:Str) (v:V):List (Str×V)→List (Str×V)
  | []=>[(f,v)]
  | (g,x) :: r=>if g=f then (g,v) :: r else (g,x) :: putF f v r
theorem RelO.some_of {v:V} {o:Option Value} (r:RelO (some v) o):∃ u,o=some u∧RelV v u:=by
  cases o with
  | none=>exact (show False from r).elim
  | some u=>exact ⟨u,rfl,r⟩
section
variable {P:Program} {w:World} {H H':Hp} {h h':Heap} {a C dx:Addr} {fs fs':List (Str×V)}
theorem ins_get (hok:HOk P w H h) (e:H a=some (.ins C dx fs)):∃ mA,ObjM h a dx C mA∧(∀ f,RelO (fs.lookup f) (mA f))∧PySem.Within mA (fs.map (·.1))∧fs.length≤1000∧H dx=some (.own a):=by
  obtain ⟨d,z,ne,ob,mA,n,r,q⟩:=(show ObjOk P w H h a (.ins C dx fs) from hok a _ e)
  exact ⟨mA,⟨ob,n,ne⟩,r,q,z,d⟩
end
structure Cls (K:PySem.W.Frag) (C:Addr):Prop where
  pg:PySem.W.plainGet K C Str.empty=true
  hd:PySem.W.hasDictIn K C=true
  po:PySem.W.plainOver K C=true
  sa:PySem.W.findIn K (.ref C) "__setattr__"=some (some (.builtin "object.__setattr__"))
theorem Cls.get {K:PySem.W.Frag} {C:Addr} (c:Cls K C) (f:Str):PySem.W.plainGet K C f=true:=c.pg
def NoAttr (K:PySem.W.Frag) (C:Addr) (f:Str):Prop:=PySem.W.findIn K (.ref C) f=some none
structure Con (K:PySem.W.Frag) (C:Addr) (f:Str) (v:V) (u:Value):Prop where
  at_:PySem.W.findIn K (.ref C) f=some (some u)
  rel:RelV v u
  get:PySem.W.specialIn K u "__get__"=some none
  cp:PySem.W.copiedNames.contains f=false
structure Meth (K:PySem.W.Frag) (C:Addr) (m:Str) (f:Addr):Prop where
  at_:PySem.W.findIn K (.ref C) m=some (some (.ref f))
  fn:PySem.W.isFn K (.ref f)=true
  kp:PySem.W.keepIn K (.ref f)=true
section
variable {X:Cx} {pins:List (Addr×Obj)} {σ:St} {H:Hp} {s:Shared} {a C dx:Addr} {fs:List (Str×V)} {f:Str} {v:V} {A:Around} {E:Value→Shared→Prop}
end
def tFld (K:PySem.W.Frag) (ta:TE) (f:Str):TE:=fun σ H Q=>ta σ H fun x H1=>∃ a C dx fs v,x=.ref a∧H1 a=some (.ins C dx fs)∧Cls K C∧NoAttr K C f∧fs.lookup f=some v∧Q v H1
def tCon (K:PySem.W.Frag) (ta:TE) (f:Str):TE:=fun σ H Q=>ta σ H fun x H1=>∃ a C dx fs v u,x=.ref a∧H1 a=some (.ins C dx fs)∧Cls K C∧Con K C f v u∧fs.lookup f=none∧Q v H1
def sFld (K:PySem.W.Frag) (ta tv:TE) (f:Str):TS:=fun D σ H=>tv σ H fun y H1=>ta σ H1 fun x H2=>∃ a C dx fs,x=.ref a∧H2 a=some (.ins C dx fs)∧Cls K C∧NoAttr K C f∧fs.length < 1000 ∧
  D.nx σ (upd H2 a (.ins C dx (putF f y fs)))
def InOp (X:Cx) (op:Operator) (rd:V→V→Hp→VK→Prop):Prop:=
  ∀ (pins:List (Addr×Obj)) (s:Shared) (σ:St) (H:Hp) (x y:V) (u v:Value) (Q:VK),Inv X pins σ H s→RelV x u→RelV y v→rd x y H Q→wpAny (model X.prog X.w) X.A (inplaceOp op u v) (EP X pins σ Q) X.xe s
def sFldAug (K:PySem.W.Frag) (ta tv:TE) (rd:V→V→Hp→VK→Prop) (f:Str):TS:=fun D σ H=>ta σ H fun x H1=>∃ a C dx fs v,x=.ref a∧H1 a=some (.ins C dx fs)∧Cls K C∧NoAttr K C f∧fs.lookup f=some v ∧
  tv σ H1 fun y H2=>rd v y H2 fun z H3=>∃ dx' fs',H3 a=some (.ins C dx' fs')∧fs'.length < 1000∧D.nx σ (upd H3 a (.ins C dx' (putF f z fs')))
section
variable {X:Cx} {o e value:Expr} {f:Str} {pos pos' tpos:Pos} {ta tv:TE}
def rAdd:V→V→Hp→VK→Prop:=fun x y H Q=>∃ i j,x=.int i∧y=.int j∧Q (.int (i + j)) H
def rSub:V→V→Hp→VK→Prop:=fun x y H Q=>∃ i j,x=.int i∧y=.int j∧Q (.int (i - j)) H
end
section
variable {X:Cx} {pins:List (Addr×Obj)} {σ:St} {H:Hp} {s:Shared} {A:Around} {E:Value→Shared→Prop} {Q:Value→Shared→Prop} {c:Value} {b:Bool}
inductive TyOf (K:PySem.W.Frag) (H:Hp):V→Value→Prop where
  | non:TyOf K H .non (.type "NoneType")
  | bl (x:Bool):TyOf K H (.bl x) (.type "bool")
  | int (i:Int):TyOf K H (.int i) (.type "int")
  | str (x:Str):TyOf K H (.str x) (.type "str")
  | flt (x:UInt64):TyOf K H (.flt x) (.type "float")
  | lst {a:Addr} {xs:List V} (e:H a=some (.lst xs)):TyOf K H (.ref a) (.type "list")
  | frz {a:Addr} {o:Obj} {xs:List V} (e:H a=some (.frz o (.lst xs))):TyOf K H (.ref a) (.type "list")
  | tup {a:Addr} {xs:List V} (e:H a=some (.tup xs)):TyOf K H (.ref a) (.type "tuple")
  | dK {a:Addr} {kvs:List (Key×V)} (e:H a=some (.dK kvs)):TyOf K H (.ref a) (.type "dict")
  | dT {a:Addr} {kvs:List (List Key×V)} (e:H a=some (.dT kvs)):TyOf K H (.ref a) (.type "dict")
  | ins {a C dx:Addr} {fs:List (Str×V)} (e:H a=some (.ins C dx fs)) (cl:Cls K C) (ha:PySem.W.findIn K (.ref C) "__class__"=some (some (.builtin "object.__class__")))
      (hn:PySem.W.specialIn K (.builtin "object.__class__") "__get__"=some (some (.builtin "getset_descriptor.__get__"))) (htk:PySem.W.takesIn K (.builtin "object.__class__")=some true)
      (hm:PySem.W.mroIn K C (.type "object")=some true):TyOf K H (.ref a) (.ref C)
theorem isinst_ok {x:V} {u t:Value} (I:Inv X pins σ H s) (rx:RelV x u) (ty:TyOf X.K H x t) (e:PySem.W.kitOne X.K t c=some b) (h:∀ tk,Q (.bool b) {s with toks:=tk}) :
    wpAny (model X.prog X.w) A (call (.builtin "isinstance") [u,c]) Q E s:=by
  cases ty with
  | non=>cases (show u=Value.none from rx); exact PySem.W.kia_one PySem.W.kitx_none I.kIn True.intro e (fun z=>nomatch z) h
  | bl y=>cases (show u=Value.bool y from rx); exact PySem.W.kia_one PySem.W.kitx_bool I.kIn True.intro e (fun z=>nomatch z) h
  | int i=>obtain ⟨t,q⟩:=(show ∃ t,u=Value.int i t from rx); cases q; exact PySem.W.kia_one PySem.W.kitx_int I.kIn True.intro e (fun z=>nomatch z) h
  | str y=>obtain ⟨t,q⟩:=(show ∃ t,u=Value.str y t from rx); cases q; exact PySem.W.kia_one PySem.W.kitx_str I.kIn True.intro e (fun z=>nomatch z) h
  | flt y=>obtain ⟨t,q⟩:=(show ∃ t,u=Value.float y t from rx); cases q; exact PySem.W.kia_one PySem.W.kitx_float I.kIn True.intro e (fun z=>nomatch z) h
  | @lst a xs ea =>
    cases (show u=Value.ref a from rx)
    obtain ⟨_,_,n,_,h1⟩:=(show ObjOk X.prog X.w H s.heap a (.lst xs) from I.hok a _ ea)
    exact PySem.W.kia_one PySem.W.kitx_list I.kIn ⟨_,h1,rfl⟩ e (fun z=>nomatch z) h
  | @frz a ob xs ea =>
    cases (show u=Value.ref a from rx)
    obtain ⟨_,_,_,n,_,h1⟩:=(show ObjOk X.prog X.w H s.heap a (.frz ob (.lst xs)) from I.hok a _ ea)
    exact PySem.W.kia_one PySem.W.kitx_list I.kIn ⟨_,h1,rfl⟩ e (fun z=>nomatch z) h
  | @tup a xs ea =>
    cases (show u=Value.ref a from rx)
    obtain ⟨_,_,_,p⟩:=(show ObjOk X.prog X.w H s.heap a (.tup xs) from I.hok a _ ea)
    obtain ⟨o,h1,h2,_⟩:=p
    exact PySem.W.kia_one PySem.W.kitx_tuple I.kIn ⟨o,h1,h2⟩ e (fun z=>nomatch z) h
  | @dK a kvs ea =>
    cases (show u=Value.ref a from rx)
    obtain ⟨_,_,vs,_,p⟩:=(show ObjOk X.prog X.w H s.heap a (.dK kvs) from I.hok a _ ea)
    obtain ⟨o,es,ep,h1,h2,_⟩:=p
    exact PySem.W.kia_one PySem.W.kitx_dict I.kIn ⟨o,h1,h2.1⟩ e (fun z=>nomatch z) h
  | @dT a kvs ea =>
    cases (show u=Value.ref a from rx)
    obtain ⟨_,_,xs,_,o,es,ep,h1,h2,_⟩:=(show ObjOk X.prog X.w H s.heap a (.dT kvs) from I.hok a _ ea)
    exact PySem.W.kia_one PySem.W.kitx_dict I.kIn ⟨o,h1,h2.1⟩ e (fun z=>nomatch z) h
  | @ins a C dx fs ea cl ha hn htk hm =>
    cases (show u=Value.ref a from rx)
    obtain ⟨mA,O,_⟩:=ins_get I.hok ea
    obtain ⟨od,J,_⟩:=O.look
    exact PySem.W.kia_one (PySem.W.kitx_own (cl.get _) cl.hd ha hn htk hm) I.kIn J e (fun z=>nomatch z) h
end
end L2
namespace L2
open PySem PySem.Spec PyProof.Rows
structure Room (k:Nat) (A:Around):Prop where
  hd:A.handled=none
  dp:A.depth + 3 * k + 5 < recursionLimit
  un:A.units + 16 * k + 200 < cLine
theorem Room.mono {j k:Nat} {A:Around} (r:Room k A) (h:j≤k):Room j A:=⟨r.hd,by have:=r.dp; omega,by have:=r.un; omega⟩
theorem Room.deeper {k:Nat} {A:Around} (r:Room (k + 1) A) (env:Env):Room k (A.deeper env):=
  ⟨r.hd,by have:=r.dp; show A.depth + 1 + 3 * k + 5 < _; omega,by have:=r.un; show A.units + 3 + 16 * k + 200 < _; omega⟩
theorem Room.depth {k:Nat} {A:Around} (r:Room k A):A.depth < recursionLimit:=by have:=r.dp; omega
theorem Room.units {k:Nat} {A:Around} (r:Room k A):A.units + 64 < cLine:=by have:=r.un; omega
def tNil:TA:=fun _ H Q=>Q [] H
def tCons (ta:TE) (tr:TA):TA:=fun σ H Q=>ta σ H fun x H1=>tr σ H1 fun xs H2=>Q (x :: xs) H2
section
variable {X:Cx} {e:Expr} {es:List Expr} {te:TE} {t:TA} {pos:Pos}
theorem pa_nil:PA X [] tNil:=fun _ _ _ _ H Q I h=>Calls.spliced_nil ⟨[],H,I,.nil,h⟩
theorem pa_cons (ha:PE X e te) (hr:PA X es t) (hs:starEach (e :: es) X.env=(false,eval e X.env) :: starEach es X.env:=by rfl):PA X (e :: es) (tCons te t):=by
  intro pos pins s σ H Q I h
  rw [hs]
  show wpAny _ _ (spliced ((false,eval e X.env) :: backTo pos (starEach es X.env))) _ _ s
  refine Calls.spliced_cons (thn (ha pins s σ H _ I h) fun u s1 ⟨x,H1,I1,r1,q1⟩=>?_)
  exact thn (hr pos pins s1 σ H1 _ I1 q1) fun us s2 ⟨xs,H2,I2,r2,q2⟩=>⟨x :: xs,H2,I2,.cons r1 r2,q2⟩
def tTup (t:TA):TE:=fun σ H Q=>t σ H fun xs H1=>xs.length≤sizeLine∧∀ p,H1 p=none→Q (.ref p) (upd H1 p (.tup xs))
def tLst (t:TA):TE:=fun σ H Q=>t σ H fun xs H1=>xs.length≤sizeLine∧∀ p,H1 p=none→Q (.ref p) (upd H1 p (.lst xs))
theorem pe_tup {x1} (h:PA X es t):PE X (.Tuple es x1 pos) (tTup t):=by
  intro pins s σ H Q I hq
  refine wpAny_Tuple_spliced (thn (h pos pins s σ H _ I hq) fun us s1 ⟨xs,H1,I1,r,z,q⟩=>⟨by rw [← r.length]; exact z,?_⟩)
  have hf:H1 s1.heap.objs.size=none:=I1.hok.fresh (Nat.le_refl _)
  refine ⟨.ref s1.heap.objs.size,upd H1 s1.heap.objs.size (.tup xs),I1.laid (t':=s1.toks) (fun b u e=>Heap.get?_push_of_some _ e) (Nat.le_refl _) ?_,rfl,q _ hf⟩
  exact ⟨z,us,r,⟨_,Heap.get?_push_size _ rfl,rfl,_,rfl⟩⟩
theorem pe_lst (h:PA X es t):PE X (.List es pos) (tLst t):=by
  intro pins s σ H Q I hq
  refine wpAny_List_spliced (thn (h pos pins s σ H _ I hq) fun us s1 ⟨xs,H1,I1,r,z,q⟩=>⟨by rw [← r.length]; exact z,?_⟩)
  have hf:H1 s1.heap.objs.size=none:=I1.hok.fresh (Nat.le_refl _)
  refine ⟨.ref s1.heap.objs.size,upd H1 s1.heap.objs.size (.lst xs),I1.laid (t':=s1.toks) (fun b u e=>Heap.get?_push_of_some _ e) (Nat.le_refl _) ?_,rfl,q _ hf⟩
  exact ⟨z,us,0,r,Heap.get?_push_size _ rfl⟩
end
abbrev Sp:=List V→Hp→VK→XK→Prop
abbrev CXT:=List Env→Hp→Shared→XK→Value→Shared→Prop
structure Env0 (P:Program) (w:World) (K:PySem.W.Frag) (mg:Str→Option Value) (base:Heap) (A:Around) (outer:List Env) (s:Shared) (H:Hp):Prop where
  frames:A.frames=some outer
  mod:Mod K mg base
  bs:∀ b o,base.get? b=some o→s.heap.get? b=some o∧H b=none
  bsz:base.objs.size≤s.heap.objs.size
  funs:s.heap.FunFrames base outer
  frf:∀ b∈frs outer,H b=none
  hok:HOk P w H s.heap
  bare:AllBare s.gens
def CE (outer:List Env) (P:Program) (w:World) (H:Hp) (s:Shared) (Q:VK) (u:Value) (s':Shared):Prop:=
  ∃ v H',s'.os=s.os∧AllBare s'.gens∧Un (frs outer) [] H H' s.heap s'.heap∧HOk P w H' s'.heap∧RelV v u∧Q v H'
def CR (CX:CXT) (outer:List Env) (P:Program) (w:World) (H:Hp) (s:Shared) (Q:VK) (E:XK) (r:Result) (s':Shared):Prop:=
  match r with
  | .ok (.ret u)=>CE outer P w H s Q u s'
  | .ok _=>False
  | .error e=>CX outer H s E e s'
structure FnOk (P:Program) (w:World) (K:PySem.W.Frag) (mg:Str→Option Value) (base:Heap) (CX:CXT) (k:Nat) (f:Addr) (fd:FuncData) (ps:List Str) (sp:Sp):Prop where
  len:∀ vs H Q E,sp vs H Q E→vs.length=ps.length
  run:∀ (A:Around) (outer:List Env) (s:Shared) (H:Hp) (args:Args) (us:List Value) (vs:List V) (Q:VK) (E:XK),Room k A→Env0 P w K mg base A outer s H→BindsTo s fd args (ps.zip us)→Vals vs us→sp vs H Q E →
    codeAny (model P w) A (.call (.ref f) args) (CR CX outer P w H s Q E) s
section
variable {X:Cx} {pins:List (Addr×Obj)} {σ:St} {H:Hp} {s s':Shared}
theorem Inv.env0 (I:Inv X pins σ H s):Env0 X.prog X.w X.K X.mg X.base X.A X.stack s H:=
  ⟨I.ok.frames,I.ok.mod,I.bs,Nat.le_trans I.ok.bsz I.sz,I.stack,I.stkFree,I.hok,I.bare⟩
theorem Inv.after {Q:VK} {u:Value} (I:Inv X pins σ H s) (h:CE X.stack X.prog X.w H s Q u s'):EP X pins σ Q u s':=by
  obtain ⟨v,H',os,bare,un,hok,r,q⟩:=h
  obtain ⟨hh,g,d,t,os'⟩:=s'
  obtain rfl:os'=s.os:=os
  exact ⟨v,H',I.call (h':=hh) (g':=g) (d':=d) (t':=t) (ch:=[]) un hok bare (fun b z=>absurd z (by simp)),r,q⟩
end
def tCall (sp:Sp) (dvs:List V) (E:XK) (t:TA):TE:=fun σ H Q=>t σ H fun vs H1=>sp (vs++dvs) H1 Q E
def tMeth (C:Addr) (m:Str) (sp:Sp) (dvs:List V) (E:XK) (ta:TE) (t:TA):TE:=fun σ H Q=>ta σ H fun x H1=>∃ a dx fs,x=.ref a∧H1 a=some (.ins C dx fs)∧fs.lookup m=none ∧
  t σ H1 fun vs H2=>sp (x :: (vs++dvs)) H2 Q E
def tMake (C:Addr) (sp:Sp) (dvs:List V) (E:XK) (t:TA):TE:=fun σ H Q=>t σ H fun vs H1=>∀ x dx,H1 x=none→H1 dx=none→dx≠x →
  sp (.ref x :: (vs++dvs)) (upd (upd H1 dx (.own x)) x (.ins C dx [])) (fun v H2=>v=.non∧Q (.ref x) H2) E
def Binds (K:PySem.W.Frag) (fd:FuncData) (ps:List Str) (ds:List Value):Prop:=
  ∀ (s:Shared) (us:List Value),K.In s.heap→(us++ds).length=ps.length→BindsTo s fd ⟨us,[]⟩ (ps.zip (us++ds))
theorem Binds.all {K:PySem.W.Frag} {fd:FuncData} {ps:List Str} (h:∀ us:List Value,us.length=ps.length→bindArgs fd ⟨us,[]⟩=pure (ps.zip us)):Binds K fd ps []:=fun s us _ hl=>by
  rw [List.append_nil] at hl ⊢
  exact .of_eq (h us hl)
def Passes (CX:CXT) (X:Cx) (E:XK):Prop:=∀ (pins:List (Addr×Obj)) (σ:St) (H:Hp) (s:Shared) (e:Value) (s':Shared),Inv X pins σ H s→CX X.stack H s E e s'→X.xe e s'
section
variable {X:Cx} {CX:CXT} {k:Nat} {f C:Addr} {fd:FuncData} {ps:List Str} {sp:Sp} {dvs:List V} {ds:List Value} {E:XK} {x m:Str} {p pos apos:Pos} {e o:Expr} {es:List Expr} {ta:TE} {t:TA}
theorem run_fn {pins:List (Addr×Obj)} {σ:St} {H:Hp} {s:Shared} {Q:VK} {us:List Value} {vs:List V} (F:FnOk X.prog X.w X.K X.mg X.base CX k f fd ps sp) (hr:Room k X.A) (hb:Binds X.K fd ps ds) (hd:Vals dvs ds) (hx:Passes CX X E)
    (I:Inv X pins σ H s) (r:Vals vs us) (h:sp (vs++dvs) H Q E):wpAny (model X.prog X.w) X.A (call (.ref f) us) (EP X pins σ Q) X.xe s:=by
  have r2:Vals (vs++dvs) (us++ds):=r.append hd
  have hl:(us++ds).length=ps.length:=by rw [← r2.length]; exact F.len _ _ _ _ h
  refine wpAny_call (codeAny_mono (F.run X.A X.stack s H ⟨us,[]⟩ (us++ds) (vs++dvs) Q E hr I.env0 (hb s us I.kIn hl) r2 h) fun r s' hq=>?_)
  cases r with
  | error e=>exact hx pins σ H s e s' I hq
  | ok fl =>
    cases fl with
    | ret u=>exact I.after hq
    | next=>exact False.elim hq
    | brk=>exact False.elim hq
    | cont=>exact False.elim hq
theorem pe_call (F:FnOk X.prog X.w X.K X.mg X.base CX k f fd ps sp) (hr:Room k X.A) (hg:Gl X x) (hm:X.mg x=some (.ref f)) (hk:PySem.W.keepIn X.K (.ref f)=true) (hb:Binds X.K fd ps ds) (hd:Vals dvs ds) (hx:Passes CX X E)
    (ha:PA X (e :: es) t) (hdb:(x == ("__debug__":Str))=false:=by decide) (he:starEach (e :: es) X.env=(false,eval e X.env) :: starEach es X.env:=by rfl) (hpl:(backTo pos (starEach es X.env)).any (·.1)=false:=by rfl) :
    PE X (.Call (.Name x p) (e :: es) [] pos) (tCall sp dvs E t):=by
  intro pins s σ H Q I h
  refine wpAny_Call_Name_kw (ld_glob I hg hm ?_ hdb)
  refine PySem.W.callWith_K (h₀:=X.base) I.ok.mod.kin hk (thn (ha pos pins s σ H _ I h) fun us s1 ⟨vs,H1,I1,r,q⟩=>⟨I1.kIn,?_⟩) he hpl
  exact run_fn F hr hb hd hx I1 r q
structure Mk (K:PySem.W.Frag) (C f:Addr):Prop where
  makes:PySem.W.makesIn K C=true
  init:PySem.W.findIn K (.ref C) "__init__"=some (some (.ref f))
  fn:PySem.W.isFn K (.ref f)=true
  kp:PySem.W.keepIn K (.ref C)=true
end
def PK (X:Cx) (kws:List Keyword) (t:TA):Prop:=
  ∀ (pos:Pos) (pins:List (Addr×Obj)) (s:Shared) (σ:St) (H:Hp) (Q:List V→Hp→Prop),Inv X pins σ H s→t σ H Q→wpAny (model X.prog X.w) X.A (evalAll ((backToKw pos (keywordEach kws X.env)).map (·.2))) (AP X pins σ Q) X.xe s
section
variable {X:Cx} {CX:CXT} {k:Nat} {f C:Addr} {fd:FuncData} {ps ks:List Str} {sp:Sp} {E:XK} {x m:Str} {p pos apos kpos:Pos} {e o:Expr} {es:List Expr} {kws:List Keyword} {te ta:TE} {t tk:TA} {nm:Option Str}
structure KBinds (K:PySem.W.Frag) (fd:FuncData) (ps ks:List Str) (g:List Value→List Value→List Value) (gV:List V→List V→List V):Prop where
  to:∀ (s:Shared) (us ws:List Value),K.In s.heap→(g us ws).length=ps.length→BindsTo s fd ⟨us,ks.zip ws⟩ (ps.zip (g us ws))
  rel:∀ {vs:List V} {us:List Value} {zs:List V} {ws:List Value},Vals vs us→Vals zs ws→Vals (gV vs zs) (g us ws)
def tCallK (sp:Sp) (gV:List V→List V→List V) (E:XK) (t tk:TA):TE:=fun σ H Q=>t σ H fun vs H1=>tk σ H1 fun zs H2=>sp (gV vs zs) H2 Q E
variable {g:List Value→List Value→List Value} {gV:List V→List V→List V}
end
structure FnScope (N P:List Str) (sc:Scope):Prop where
  kind:sc.kind=.function
  co:sc.isCoroutine=false
  gen:sc.isGenerator=false
  nd:N.Nodup
  pre:N.take P.length=P
  par:∀ x∈P,sc.names.lookup x=some .local∨sc.names.lookup x=some .cell
  nofree:∀ y∈sc.names,y.2≠.free
theorem bindL_out {kindOf:Str→Option NameKind} {x:Str}:∀ {binds:List (Str×Value)} {m:Str→Option Value},(∀ v,(x,v)∉binds)→bindL kindOf binds m x=m x
  | [],_,_=>rfl
  | (n,v) :: r,m,h=>by
    unfold bindL
    rw [bindL_out fun w hw=>h w (List.mem_cons_of_mem _ hw)]
    split
    · have:x≠n:=by rintro rfl; exact h v List.mem_cons_self
      simp [this]
    · rfl
theorem bindC_out {kindOf:Str→Option NameKind} {x:Str}:∀ {binds:List (Str×Value)} {m:Str→Option Value},(∀ v,(x,v)∉binds)→bindC kindOf binds m x=m x
  | [],_,_=>rfl
  | (n,v) :: r,m,h=>by
    unfold bindC
    rw [bindC_out fun w hw=>h w (List.mem_cons_of_mem _ hw)]
    split
    · rfl
    · have:x≠n:=by rintro rfl; exact h v List.mem_cons_self
      simp [this]
theorem bindL_get {kindOf:Str→Option NameKind} {x:Str} {v:Value}:∀ {P:List Str} {vs:List Value} {i:Nat} {m:Str→Option Value},P.Nodup→P[i]?=some x→vs[i]?=some v→kindOf x=some .local →
    bindL kindOf (P.zip vs) m x=some v
  | [],_,_,_,_,h,_,_=>by simp at h
  | _ :: _,[],_,_,_,_,h,_=>by simp at h
  | p :: P,w :: vs,0,m,nd,h1,h2,hk=>by
    simp at h1 h2; subst h1; subst h2
    show bindL kindOf ((p,w) :: P.zip vs) m p=_
    unfold bindL
    rw [bindL_out fun v hv=>(List.nodup_cons.mp nd).1 (List.of_mem_zip hv).1,if_pos hk]
    simp
  | p :: P,w :: vs,i + 1,m,nd,h1,h2,hk=>by
    show bindL kindOf ((p,w) :: P.zip vs) m x=_
    unfold bindL
    exact bindL_get (i:=i) (List.nodup_cons.mp nd).2 (by simpa using h1) (by simpa using h2) hk
theorem bindC_get {kindOf:Str→Option NameKind} {x:Str} {v:Value}:∀ {P:List Str} {vs:List Value} {i:Nat} {m:Str→Option Value},P.Nodup→P[i]?=some x→vs[i]?=some v→kindOf x≠some .local →
    bindC kindOf (P.zip vs) m x=some v
  | [],_,_,_,_,h,_,_=>by simp at h
  | _ :: _,[],_,_,_,_,h,_=>by simp at h
  | p :: P,w :: vs,0,m,nd,h1,h2,hk=>by
    simp at h1 h2; subst h1; subst h2
    show bindC kindOf ((p,w) :: P.zip vs) m p=_
    unfold bindC
    rw [bindC_out fun v hv=>(List.nodup_cons.mp nd).1 (List.of_mem_zip hv).1,if_neg hk]
    simp
  | p :: P,w :: vs,i + 1,m,nd,h1,h2,hk=>by
    show bindC kindOf ((p,w) :: P.zip vs) m x=_
    unfold bindC
    exact bindC_get (i:=i) (List.nodup_cons.mp nd).2 (by simpa using h1) (by simpa using h2) hk
def start (N:List Str) (vs:List V):St:=vs.map some++List.replicate (N.length - vs.length) none
def cxOf (CX:CXT) (P:Program) (w:World) (K:PySem.W.Frag) (mg:Str→Option Value) (base:Heap) (N:List Str) (qual:Str) (scope:Scope) (f:Addr) (cd:Value) (A:Around) (outer:List Env) (s:Shared) (H:Hp) (E:XK):Cx where
  prog:=P
  w:=w
  K:=K
  mg:=mg
  base:=base
  A:=A.deeper (envOfC qual scope s.heap.objs.size f cd)
  N:=N
  s₀:=s
  H₀:=H
  env:=envOfC qual scope s.heap.objs.size f cd
  outer:=outer
  stack:=envOfC qual scope s.heap.objs.size f cd :: outer
  ex:=[]
  calm:=true
  fn:=fun _=>true
  pn:=[]
  xe:=fun e s'=>wpAny (model P w) (A.deeper (envOfC qual scope s.heap.objs.size f cd)) (leaving (envOfC qual scope s.heap.objs.size f cd) e) (fun _ s''=>CX outer H s E e s'') (fun e' s''=>CX outer H s E e' s'') s'
theorem cell_has {sc:Scope} {n:Nat} {x:Str} (h:sc.names.lookup x=some .cell):∃ c,(cellsFrom n sc.names []).lookup x=some c:=by
  have q:=PySem.W.cellsFrom_some sc.names n [] (.inl h)
  exact Option.isSome_iff_exists.mp q
theorem inv_start {CX:CXT} {P:Program} {w:World} {K:PySem.W.Frag} {mg:Str→Option Value} {base:Heap} {N ps:List Str} {qual:Str} {scope:Scope} {f:Addr} {cd:Value} {A:Around} {outer:List Env} {s s1:Shared} {H:Hp} {E:XK} {us:List Value} {vs:List V}
    (S:FnScope N ps scope) (hd:A.handled=none) (e0:Env0 P w K mg base A outer s H) (hl:vs.length=ps.length) (r:Vals vs us)
    (x:InCallC s s.heap.objs.size (bindL (envOfC qual scope s.heap.objs.size f cd).kindOf (ps.zip us) fun _=>none) (cellsFrom (s.heap.objs.size + 1) scope.names []) (bindC (envOfC qual scope s.heap.objs.size f cd).kindOf (ps.zip us) fun _=>none) s1) :
    Inv (cxOf CX P w K mg base N qual scope f cd A outer s H E) [] (start N vs) H s1:=by
  have hpl:ps.length≤N.length:=by have:=congrArg List.length S.pre; rw [List.length_take] at this; omega
  obtain ⟨h1,tk,rfl,hk⟩:=x.done
  have noA:∀ b:Addr,b∉(cxOf CX P w K mg base N qual scope f cd A outer s H E).ex:=fun b z=>absurd (show b∈([]:List Addr) from z) (by simp)
  refine ⟨⟨e0.mod,S.kind,rfl,rfl,Nat.le_refl _,fun y z c h1 h2=>?_,fun y hy=>?_,fun y c _ h=>?_,fun _=>hd,Around.frames_deeper e0.frames,.inr ⟨rfl,rfl⟩,fun b z=>absurd z (noA b),e0.bs,e0.bsz,fun b _ _=>noA b,fun b z=>absurd z (noA b),e0.funs,e0.frf⟩,
    rfl,e0.bare,Un.kept hk,⟨_,x.toInCall.ns,fun i y v h1 h2 h3=>?_⟩,fun y c h=>⟨_,x.cell y c h⟩,e0.hok.fresh (Nat.le_refl _),fun y c h=>?_,fun p hp=>absurd (show p∈([]:List (Addr×Obj)) from hp) (by simp),e0.hok.kept hk,?_⟩
  · exact name_of_addr x.apart (PySem.mem_of_lookup h1) (PySem.mem_of_lookup h2)
  · have hy:scope.names.lookup y=some .cell∨scope.names.lookup y=some .free:=hy
    rcases hy with hy | hy
    · exact cell_has hy
    · exact absurd rfl (S.nofree _ (PySem.mem_of_lookup hy))
  · exact Nat.le_of_lt (x.above y c (PySem.mem_of_lookup h))
  · have hi:i < vs.length:=by
      unfold start at h2
      by_cases hi:i < vs.length
      · exact hi
      · rw [List.getElem?_append_right (by simpa using hi)] at h2
        rw [List.getElem?_replicate] at h2
        split at h2 <;> cases h2
    have ha:vs[i]?=some v:=by
      unfold start at h2
      rw [List.getElem?_append_left (by simpa using hi),List.getElem?_map] at h2
      cases e:vs[i]? with
      | none=>rw [e] at h2; cases h2
      | some a=>rw [e] at h2; cases h2; rfl
    obtain ⟨u,hu,rv⟩:=r.get ha
    have hp:ps[i]?=some y:=by
      rw [← S.pre,List.getElem?_take_of_lt (by omega)]; exact h1
    have ndP:ps.Nodup:=by rw [← S.pre]; exact S.nd.sublist (List.take_sublist _ _)
    refine ⟨u,rv,?_⟩
    rcases S.par y (List.mem_of_getElem? hp) with k | k
    · exact .inl ⟨k,bindL_get ndP hp hu k⟩
    · obtain ⟨c,e⟩:=cell_has (n:=s.heap.objs.size + 1) k
      refine .inr ⟨.inl k,c,e,?_⟩
      have q:=x.cell y c e
      rw [bindC_get ndP hp hu (by show scope.names.lookup y≠_; rw [k]; decide)] at q
      exact q
  · exact e0.hok.fresh (Nat.le_of_lt (x.above y c (PySem.mem_of_lookup h)))
  · unfold start
    show _=N.length
    rw [List.length_append,List.length_map,List.length_replicate]
    omega
theorem fn_of {CX:CXT} {P:Program} {w:World} {K:PySem.W.Frag} {mg:Str→Option Value} {base:Heap} {k:Nat} {f:Addr} {name qual:Str} {params:Arguments} {body:List Stmt} {scope:Scope} {dV kV doc pm cdv ct oc:Value} {an od:Option Addr}
    {osl:Array (Option Value)} {N ps:List Str} {sp:Sp} (lk:K.lookup f=some ⟨oc,od,.func (PySem.W.fnOf name qual params body scope dV kV doc pm an cdv ct),osl⟩) (hcd:PySem.W.codeIn K cdv qual=true) (S:FnScope N ps scope)
    (len:∀ vs H Q E,sp vs H Q E→vs.length=ps.length)
    (hbody:∀ (A:Around) (outer:List Env) (s:Shared) (H:Hp) (vs:List V) (Q:VK) (E:XK),Room k (A.deeper (envOfC qual scope s.heap.objs.size f cdv))→sp vs H Q E →
      ∃ t,PSs (cxOf CX P w K mg base N qual scope f cdv A outer s H E) body t∧t {nx:=fun _ H'=>Q .non H',rt:=Q} (start N vs) H) :
    FnOk P w K mg base CX (k + 1) f (PySem.W.fnOf name qual params body scope dV kV doc pm an cdv ct) ps sp:=by
  refine ⟨len,fun A outer s H args us vs Q E hr e0 hb r hsp=>?_⟩
  have hl:=len _ _ _ _ hsp
  have KX:K.In s.heap:=e0.mod.kin.keeps fun b o e=>(e0.bs b o e).1
  have lim:s.heap.NoLimit:=e0.mod.nolimit.keeps fun b o e=>(e0.bs b o e).1
  have hkind:∀ y∈ps.zip us,scope.names.lookup y.1=some .local∨(scope.names.lookup y.1=some .cell∧((cellsFrom (s.heap.objs.size + 1) scope.names []).lookup y.1).isSome=true):=fun ⟨n,v⟩ hy=>by
    rcases S.par n (List.of_mem_zip hy).1 with q | q
    · exact .inl q
    · exact .inr ⟨q,PySem.W.cellsFrom_some _ _ _ (.inl q)⟩
  refine codeAny_call_function hr.depth (KX _ _ lk) rfl S.co S.gen rfl (PySem.W.codeRec_of KX hcd) (hb _ _ _ _ ?_)
  refine wpAny_newFunctionEnv_cells S.kind hkind fun env he s1 x=>?_
  subst he
  refine ⟨lim.keeps x.toInCall.keep,codeAny_func ?_⟩
  obtain ⟨t,ht,hq⟩:=hbody A outer s H vs Q E (hr.deeper _) hsp
  have I:Inv (cxOf CX P w K mg base N qual scope f cdv A outer s H E) [] (start N vs) H s1:=inv_start S hr.hd e0 hl r x
  refine wpAny_mono (ht [] s1 (start N vs) H _ I hq) (fun fl s' hs=>?_) fun e s' hs=>hs
  have fin:∀ {σ':St} {H':Hp} {v:V} {u:Value},Inv (cxOf CX P w K mg base N qual scope f cdv A outer s H E) [] σ' H' s'→RelV v u→Q v H'→CE outer P w H s Q u s':=
    fun {σ' H' v u} J rv q=>⟨v,H',J.os,J.bare,J.base,J.hok,rv,q⟩
  cases fl with
  | ret u =>
    obtain ⟨v,σ',H',J,rv,q⟩:=hs
    exact fin J rv q
  | next =>
    obtain ⟨σ',H',J,q⟩:=hs
    exact fin (v:=V.non) (u:=Value.none) J rfl q
  | brk =>
    obtain ⟨_,_,_,q⟩:=hs
    exact False.elim q
  | cont =>
    obtain ⟨_,_,_,q⟩:=hs
    exact False.elim q
end L2
namespace L2
open PySem PySem.Spec PyProof.Rows
section
variable {X:Cx} {x:Str} {p pos:Pos} {e:Expr} {es:List Expr} {t:TA} {id T:String} {r:List V→Hp→VK→Prop}
def tCB (r:List V→Hp→VK→Prop) (t:TA):TE:=fun σ H Q=>t σ H fun vs H1=>r vs H1 Q
theorem pe_callB (hc:CallR X (.builtin id) r) (hg:Gl X x) (hm:X.mg x=none) (hv:bootBuiltins x=some (.builtin id)) (ha:PA X (e :: es) t) (hn:x≠"__name__":=by decide) (hdb:(x == ("__debug__":Str))=false:=by decide)
    (he:starEach (e :: es) X.env=(false,eval e X.env) :: starEach es X.env:=by rfl) (hpl:(backTo pos (starEach es X.env)).any (·.1)=false:=by rfl):PE X (.Call (.Name x p) (e :: es) [] pos) (tCB r t):=by
  intro pins s σ H Q I h
  refine wpAny_Call_Name_kw (ld_blt I hg hm hv ?_ hn hdb)
  exact PyProof.Rows.callWith_builtin1 (thn (ha pos pins s σ H _ I h) fun us s1 ⟨vs,H1,I1,r1,q1⟩=>hc pins s1 σ H1 vs us Q I1 r1 q1) he hpl
theorem pe_callTy (hc:CallR X (.type T) r) (hg:Gl X x) (hm:X.mg x=none) (hv:bootBuiltins x=some (.type T)) (ha:PA X (e :: es) t) (hn:x≠"__name__":=by decide) (hdb:(x == ("__debug__":Str))=false:=by decide)
    (he:starEach (e :: es) X.env=(false,eval e X.env) :: starEach es X.env:=by rfl) (hpl:(backTo pos (starEach es X.env)).any (·.1)=false:=by rfl):PE X (.Call (.Name x p) (e :: es) [] pos) (tCB r t):=by
  intro pins s σ H Q I h
  refine wpAny_Call_Name_kw (ld_blt I hg hm hv ?_ hn hdb)
  exact PyProof.Rows.callWith_type1 (thn (ha pos pins s σ H _ I h) fun us s1 ⟨vs,H1,I1,r1,q1⟩=>hc pins s1 σ H1 vs us Q I1 r1 q1) he hpl
end
end L2
namespace HT
open PySem PyProof.Rows
def lexLt:List Int→List Int→Bool
  | [],[]=>false
  | [],_ :: _=>true
  | _ :: _,[]=>false
  | x :: xs,y :: ys=>if x=y then lexLt xs ys else decide (x < y)
section
open PySem.SeqAt
open PySem.AutoSeq1 (wpAny_loadPart')
open PySem.MeetsSeq PySem.MeetsSeq2 PySem.MeetsSeq3
end
section
variable {prog:Program} {w:World} {A:Around} {E:Value→Shared→Prop} {s:Shared}
def sIx (n d:Nat):Option Int→Nat
  | none=>d
  | some v=>if v < 0 then (v + (n:Int)).toNat else min v.toNat n
theorem sIx_le (n d:Nat) (hd:d≤n) (o:Option Int):sIx n d o≤n:=by
  cases o with
  | none=>exact hd
  | some v =>
    show (if v < 0 then (v + (n:Int)).toNat else min v.toNat n)≤n
    by_cases hv:v < 0
    · rw [if_pos hv]; omega
    · rw [if_neg hv]; exact Nat.min_le_right _ _
theorem clip_eq (v:Int) (n d:Nat):(if v < 0 then max (v + (n:Int)) 0 else min v (n:Int))=((sIx n d (some v):Nat):Int):=by
  show (if v < 0 then max (v + (n:Int)) 0 else min v (n:Int))=(((if v < 0 then (v + (n:Int)).toNat else min v.toNat n):Nat):Int)
  by_cases hv:v < 0
  · simp only [if_pos hv]; omega
  · simp only [if_neg hv]; omega
theorem adjust_gen (lo hi:Option Int) (n:Nat):Builtin.Slice.sliceAdjust lo hi 1 (n:Int)=(((sIx n 0 lo:Nat):Int),((sIx n n hi:Nat):Int)):=by
  have h1:¬ ((1:Int) < 0):=by omega
  unfold Builtin.Slice.sliceAdjust
  simp only [h1,if_false]
  refine Prod.ext ?_ ?_
  · cases lo with
    | none=>rfl
    | some v=>exact clip_eq v n 0
  · cases hi with
    | none=>rfl
    | some v=>exact clip_eq v n n
theorem places_gen (i j:Nat):Builtin.Slice.slicePlaces (i:Int) (j:Int) 1=j - i:=by
  unfold Builtin.Slice.slicePlaces
  have h1:(1:Int) > 0:=by omega
  simp only [h1,if_true,Int.ediv_one]
  split <;> omega
theorem slicePart_ {v:Value} {o:Option Int} {Q:Option Int→Shared→Prop} (p:IsPart v o) (h:Q o s):wpAny (model prog w) A (Builtin.Slice.slicePartIndex v) Q E s:=by
  cases p with
  | none=>exact slicePart_none h
  | int i t=>exact slicePart_int h
theorem sliceApplied_gen {sl:Addr} {vl vu:Value} {lo hi:Option Int} {n:Nat} {Q:Int×Int×Nat→Shared→Prop} (hs:s.heap.IsSliceOf sl vl vu .none) (pl:IsPart vl lo) (pu:IsPart vu hi)
    (h:Q (((sIx n 0 lo:Nat):Int),1,sIx n n hi - sIx n 0 lo) s):wpAny (model prog w) A (Builtin.Slice.sliceApplied (.ref sl) (pure (n:Int))) Q E s:=by
  obtain ⟨os,hos,hcs,hds⟩:=id hs
  unfold Builtin.Slice.sliceApplied Builtin.Slice.sliceFields
  refine wpAny_bind (wpAny_bind (wpAny_field hos hds (x:=vl) rfl (wpAny_bind (wpAny_field hos hds (x:=vu) rfl (wpAny_bind (wpAny_field hos hds (x:=.none) rfl (wpAny_pure ?_)))))))
  refine wpAny_bind (slicePart_none ?_)
  show wpAny _ _ (if ((1:Int) == 0)=true then _ else _) _ _ s
  rw [if_neg (by decide)]
  refine wpAny_bind (slicePart_ pl (wpAny_bind (slicePart_ pu (wpAny_bind (wpAny_pure ?_)))))
  show wpAny _ _ (match Builtin.Slice.sliceAdjust lo hi 1 (n:Int) with | (lo,hi)=>pure (lo,(1:Int),Builtin.Slice.slicePlaces lo hi 1)) _ _ s
  rw [adjust_gen lo hi n]
  show wpAny _ _ (pure (((sIx n 0 lo:Nat):Int),(1:Int),Builtin.Slice.slicePlaces ((sIx n 0 lo:Nat):Int) ((sIx n n hi:Nat):Int) 1)) _ _ s
  rw [places_gen]
  exact wpAny_pure h
theorem pick_gen (xs:Array Value) (i k:Nat):((List.range k).filterMap fun (m:Nat)=>xs[((i:Int) + (m:Int) * 1).toNat]?).toArray=((xs.toList.drop i).take k).toArray:=by
  have e:(fun (m:Nat)=>xs[((i:Int) + (m:Int) * 1).toNat]?)=fun m=>xs[i + m]?:=by
    funext m
    have:((i:Int) + (m:Int) * 1).toNat=i + m:=by omega
    rw [this]
  rw [e]
  have:=pick_run xs i k
  rw [List.filterMap_map] at this
  have e2:((fun x=>xs[x]?) ∘ fun x=>i + x)=fun m=>xs[i + m]?:=rfl
  rw [e2] at this
  rw [this]
theorem getItem_tuple_cut {t sl:Addr} {items:Array Value} {vl vu:Value} {lo hi:Option Int} {Q:Value→Shared→Prop} (ht:IsTup s.heap t items) (hs:s.heap.IsSliceOf sl vl vu .none) (pl:IsPart vl lo) (pu:IsPart vu hi)
    (hw:¬ (sIx items.size 0 lo=0∧sIx items.size items.size hi=items.size))
    (h:Q (.ref s.heap.objs.size) {s with heap:=s.heap.push {cls:=.type "tuple",data:=.seq ((items.toList.drop (sIx items.size 0 lo)).take (sIx items.size items.size hi - sIx items.size 0 lo)).toArray}})
    (hsz:items.size≤sizeLine):wpAny (model prog w) A (getItem (.ref t) (.ref sl)) Q E s:=by
  have htake:sizeOk (.seq ((items.toList.drop (sIx items.size 0 lo)).take (sIx items.size items.size hi - sIx items.size 0 lo)).toArray):=by
    show ((items.toList.drop (sIx items.size 0 lo)).take (sIx items.size items.size hi - sIx items.size 0 lo)).toArray.size≤sizeLine
    rw [List.size_toArray,List.length_take,List.length_drop,Array.length_toList]
    omega
  have hj:sIx items.size items.size hi≤items.size:=sIx_le _ _ (Nat.le_refl _) hi
  obtain ⟨os,hos,hcs,hds⟩:=id hs
  have hTs:s.TypeIs (.ref sl) "slice":=⟨os,hos,hcs⟩
  unfold getItem
  try with_reducible refine wpAny_holding ?_
  first | refine wpAny_bind (wpAny_pure ?_) | skip
  refine wpAny_bind (wpAny_sequenceKey ht.typeIs (by decide) ?_)
  refine wpAny_bind (wpAny_callSpecial?_slot (name:=Str.ofString "__getitem__") ht.typeIs PyProof.Rows.slot_tuple_getitem
    (wpAny_call_entry PyProof.Rows.slot_tuple_getitem ht.typeIs entry_tuple_getitem ?_ (args_tuple_getitem _ _)))
  show wpAny _ _ (Builtin.Tuple.tupleItemsOf (.ref t) >>= _) _ _ s
  refine wpAny_bind (tupleItemsOf_ ht ?_)
  refine wpAny_bind (wpAny_typeOf hTs ?_)
  rw [if_pos (by decide)]
  refine wpAny_bind (sliceApplied_gen hs pl pu ?_)
  have hno:¬ ((((sIx items.size 0 lo:Nat):Int) == 0 && (1:Int) == 1 && (sIx items.size items.size hi - sIx items.size 0 lo) == items.size)=true):=by
    intro q
    rw [Bool.and_eq_true,Bool.and_eq_true] at q
    have q1:((sIx items.size 0 lo:Nat):Int)=0:=eq_of_beq q.1.1
    have q2:sIx items.size items.size hi - sIx items.size 0 lo=items.size:=eq_of_beq q.2
    exact hw ⟨by omega,by omega⟩
  show wpAny _ _ (if (((sIx items.size 0 lo:Nat):Int) == 0 && (1:Int) == 1 && (sIx items.size items.size hi - sIx items.size 0 lo) == items.size)=true then _ else _) _ _ s
  rw [if_neg hno,pick_gen]
  first
    | exact wpAny_bind (m:=Builtin.Tuple.tupleExact _) (wpAny_newObj_type (wpAny_pure ⟨_,rfl,wpAny_pure h⟩) htake)
    | exact wpAny_bind (m:=Builtin.Tuple.tupleExact _) (wpAny_newObj_type (wpAny_bind (wpAny_pure (wpAny_pure ⟨_,rfl,wpAny_pure h⟩))) htake)
    | exact wpAny_bind (wpAny_bind (m:=Builtin.Tuple.tupleExact _) (wpAny_newObj_type (wpAny_pure (wpAny_pure ⟨_,rfl,wpAny_pure h⟩)) htake))
    | exact wpAny_bind (wpAny_bind (m:=Builtin.Tuple.tupleExact _) (wpAny_newObj_type (wpAny_pure ⟨_,rfl,wpAny_pure h⟩) htake))
end
end HT
namespace L2
open PySem PySem.Spec PyProof.Rows
abbrev TO:=St→Hp→(Option Int→Hp→Prop)→Prop
def PO (X:Cx) (e:Option Expr) (t:TO):Prop:=
  ∀ (pins:List (Addr×Obj)) (s:Shared) (σ:St) (H:Hp) (Q:Option Int→Hp→Prop),Inv X pins σ H s→t σ H Q →
    wpAny (model X.prog X.w) X.A (evalPart e X.env) (fun u s'=>∃ o H',Inv X pins σ H' s'∧IsPart u o∧Q o H') X.xe s
def tNoPart:TO:=fun _ H Q=>Q none H
def tPart (t:TE):TO:=fun σ H Q=>t σ H fun x H1=>∃ i,x=.int i∧Q (some i) H1
section
variable {X:Cx} {e:Expr} {te:TE} {lo hi:Option Expr} {tl th:TO} {pos p2:Pos}
theorem po_none:PO X none tNoPart:=by
  intro pins s σ H Q I h
  rw [evalPart_none]
  exact wpAny_pure ⟨none,H,I,.none,h⟩
theorem po_some (h:PE X e te):PO X (some e) (tPart te):=by
  intro pins s σ H Q I hw
  rw [evalPart_some]
  refine thn (h pins s σ H _ I hw) fun u s1 ⟨x,H1,I1,r1,q1⟩=>?_
  obtain ⟨i,rfl,q⟩:=q1
  obtain ⟨t,rfl⟩:=r1
  exact ⟨some i,H1,I1,.int i t,q⟩
def SlR (X:Cx) (r:V→Option Int→Option Int→Hp→VK→Prop):Prop:=
  ∀ (pins:List (Addr×Obj)) (s:Shared) (σ:St) (H:Hp) (x:V) (v vl vu:Value) (lo hi:Option Int) (sl:Addr) (Q:VK),Inv X pins σ H s→RelV x v→s.heap.IsSliceOf sl vl vu .none→IsPart vl lo→IsPart vu hi→r x lo hi H Q →
    ∃ T id,typeLookup (.type T) "__getitem__"=pure (some (.builtin id))∧s.TypeIs v T∧wpAny (model X.prog X.w) X.A (getItem v (.ref sl)) (EP X pins σ Q) X.xe s
def tSl (r:V→Option Int→Option Int→Hp→VK→Prop) (te:TE) (tl th:TO):TE:=fun σ H Q=>te σ H fun x H1=>tl σ H1 fun l H2=>th σ H2 fun u H3=>r x l u H3 Q
theorem pe_slice {r:V→Option Int→Option Int→Hp→VK→Prop} (hr:SlR X r) (he:PE X e te) (hl:PO X lo tl) (hu:PO X hi th):PE X (.Subscript e (.Slice lo hi none p2) pos) (tSl r te tl th):=by
  intro pins s σ H Q I h
  refine Subscript_ (thn (he pins s σ H _ I h) fun v s1 ⟨x,H1,I1,r1,q1⟩=>?_)
  refine wpAny_Slice (thn (hl pins s1 σ H1 _ I1 q1) fun vl s2 ⟨l,H2,I2,pl,q2⟩=>thn (hu pins s2 σ H2 _ I2 q2) fun vu s3 ⟨u,H3,I3,pu,q3⟩=>?_)
  rw [evalPart_none]
  refine wpAny_pure ?_
  have I4:Inv X pins σ H3 {s3 with heap:=s3.heap.push {cls:=.type "slice",data:=.fields #[vl,vu,.none]}}:=I3.kept (t':=s3.toks) fun b ob q=>Heap.get?_push_of_some _ q
  obtain ⟨T,id,hT,ht,hg⟩:=hr pins {s3 with heap:=s3.heap.push {cls:=.type "slice",data:=.fields #[vl,vu,.none]}} σ H3 x v vl vu l u s3.heap.objs.size Q I4 r1 (Heap.IsSliceOf.new ..) pl pu q3
  show wpAny (model X.prog X.w) X.A (subscriptTail e (.Slice lo hi none p2) v (.ref s3.heap.objs.size)) (EP X pins σ Q) X.xe {s3 with heap:=s3.heap.push {cls:=.type "slice",data:=.fields #[vl,vu,.none]}}
  exact tail_any (ops:=[.ref s3.heap.objs.size,v]) ht hT hg (by with_unfolding_all rfl)
def cutV (xs:List V) (lo hi:Option Int):List V:=(xs.drop (HT.sIx xs.length 0 lo)).take (HT.sIx xs.length xs.length hi - HT.sIx xs.length 0 lo)
theorem cutV_length (xs:List V) (lo hi:Option Int):(cutV xs lo hi).length≤xs.length:=by
  unfold cutV
  rw [List.length_take,List.length_drop]
  omega
def rSlT (K:PySem.W.Frag):V→Option Int→Option Int→Hp→VK→Prop:=fun x lo hi H Q=>∃ a xs,x=.ref a∧SqT K H a xs ∧
  ¬ (HT.sIx xs.length 0 lo=0∧HT.sIx xs.length xs.length hi=xs.length)∧∀ p,H p=none→Q (.ref p) (upd H p (.tup (cutV xs lo hi)))
theorem sl_tup:SlR X (rSlT X.K):=by
  intro pins s σ H x v vl vu lo hi sl Q I rx hs pl pu h
  obtain ⟨a,xs,rfl,hx,hw,q⟩:=h
  cases rx
  obtain ⟨its,r,ht,hz⟩:=I.tuple hx
  have hlen:its.toArray.size=xs.length:=by rw [List.size_toArray]; exact r.length.symm
  refine ⟨"tuple",_,PyProof.Rows.slot_tuple_getitem.lookup,ht.typeIs,?_⟩
  refine HT.getItem_tuple_cut ht hs pl pu (by rw [hlen]; exact hw) ?_ (by rw [hlen]; exact hz)
  rw [hlen]
  refine ⟨.ref s.heap.objs.size,_,I.laid (t':=s.toks) (o:=.tup (cutV xs lo hi)) (fun b ob q=>Heap.get?_push_of_some _ q) (Nat.le_refl _) ?_,rfl,q _ (I.hok.fresh (Nat.le_refl _))⟩
  exact ⟨Nat.le_trans (cutV_length xs lo hi) hz,_,(r.drop (HT.sIx xs.length 0 lo)).take (HT.sIx xs.length xs.length hi - HT.sIx xs.length 0 lo),IsTup.new _ _⟩
def rLtT (K:PySem.W.Frag):R2:=fun x y H Q=>∃ a b ns ms,x=.ref a∧y=.ref b∧SqT K H a (ns.map V.int)∧SqT K H b (ms.map V.int)∧Q (.bl (HT.lexLt ns ms)) H
def rCatT (K:PySem.W.Frag):R2:=fun x y H Q=>∃ a b xs ys,x=.ref a∧y=.ref b∧SqT K H a xs∧SqT K H b ys∧xs≠[]∧xs.length + ys.length≤sizeLine ∧
  (ys=[]→Q (.ref a) H)∧(ys≠[]→∀ p,H p=none→Q (.ref p) (upd H p (.tup (xs++ys))))
end
end L2
namespace L2
open PySem PySem.Spec PyProof.Rows
def ixN (n:Nat) (i:Int):Option Nat:=if 0≤i then (if i < n then some i.toNat else none) else if -(n:Int)≤i then some (i + n).toNat else none
def atI {α:Type} (xs:List α) (i:Int):Option α:=(ixN xs.length i).bind fun j=>xs[j]?
theorem ixN_seq {n:Nat} {i:Int} {j:Nat} (h:ixN n i=some j):seqIndex? i n=some j∧j < n∧-(n:Int)≤i∧i < n:=by
  unfold ixN at h
  by_cases h0:0≤i
  · rw [if_pos h0] at h
    by_cases h1:i < n
    · rw [if_pos h1] at h
      have e:i.toNat=j:=Option.some.inj h
      exact ⟨by rw [seqIndex_of h0 h1,e],by omega,by omega,h1⟩
    · rw [if_neg h1] at h; cases h
  · rw [if_neg h0] at h
    by_cases h1:-(n:Int)≤i
    · rw [if_pos h1] at h
      have e:(i + n).toNat=j:=Option.some.inj h
      exact ⟨by rw [seqIndex_neg (by omega) h1,e],by omega,h1,by omega⟩
    · rw [if_neg h1] at h; cases h
theorem atI_get {α:Type} {xs:List α} {i:Int} {v:α} (h:atI xs i=some v):∃ j,seqIndex? i xs.length=some j∧xs[j]?=some v∧j < xs.length∧-(xs.length:Int)≤i∧i < xs.length:=by
  unfold atI at h
  cases e:ixN xs.length i with
  | none=>rw [e] at h; cases h
  | some j =>
    rw [e] at h
    obtain ⟨h1,h2,h3,h4⟩:=ixN_seq e
    exact ⟨j,h1,h,h2,h3,h4⟩
theorem atI_nat {α:Type} {xs:List α} {j:Nat} {v:α} (h:xs[j]?=some v):atI xs (j:Int)=some v:=by
  have hj:j < xs.length:=(List.getElem?_eq_some_iff.mp h).1
  have e:ixN xs.length (j:Int)=some j:=by
    unfold ixN
    rw [if_pos (by omega),if_pos (by omega)]; simp
  unfold atI; rw [e]; exact h
def PlainIx (b:Expr):Prop:=∀ o i,subscripted b false o i=operate [o,i] (getItem o i)
def IxR (X:Cx) (r:R2):Prop:=
  ∀ (value slice:Expr) (pins:List (Addr×Obj)) (s:Shared) (σ:St) (H:Hp) (x y:V) (v u:Value) (Q:VK),Inv X pins σ H s→RelV x v→RelV y u→r x y H Q →
    subscripted slice false v u=operate [v,u] (getItem v u)→wpAny (model X.prog X.w) X.A (subscriptTail value slice v u) (EP X pins σ Q) X.xe s
def MtR (X:Cx) (id:String) (r:V→List V→Hp→VK→Prop):Prop:=
  ∀ (pins:List (Addr×Obj)) (s:Shared) (σ:St) (H:Hp) (x:V) (xs:List V) (v:Value) (us:List Value) (Q:VK),Inv X pins σ H s→RelV x v→Vals xs us→r x xs H Q →
    wpAny (model X.prog X.w) X.A (call (.builtin id) (v :: us)) (EP X pins σ Q) X.xe s
section
variable {X:Cx} {a b:Expr} {ta tb:TE} {pos:Pos}
theorem pe_ix {r:R2} (hr:IxR X r) (ha:PE X a ta) (hb:PE X b tb) (hs:PlainIx b):PE X (.Subscript a b pos) (tOp r ta tb):=by
  intro pins s σ H Q I h
  exact Subscript_ (binT ha hb I h fun v u s2 x y H2 I2 rx ry q=>hr a b pins s2 σ H2 x y v u Q I2 rx ry q (hs _ _))
def rIxL (K:PySem.W.Frag):R2:=fun x y H Q=>∃ p xs i v,x=.ref p∧y=.int i∧SqL K H p xs∧atI xs i=some v∧Q v H
def rIxT (K:PySem.W.Frag):R2:=fun x y H Q=>∃ p xs i v,x=.ref p∧y=.int i∧SqT K H p xs∧atI xs i=some v∧Q v H
def rIxS:R2:=fun x y H Q=>∃ z i c,x=.str z∧y=.int i∧z.length≤sizeLine∧atI z.cps.toList i=some c∧Q (.str ⟨#[c]⟩) H
theorem ix_list:IxR X (rIxL X.K):=by
  intro value slice pins s σ H x y v u Q I rx ry h hs
  obtain ⟨p,xs,i,z,rfl,rfl,hq,he,q⟩:=h
  cases rx
  obtain ⟨t,rfl⟩:=ry
  obtain ⟨its,r,pl,hz⟩:=I.list hq
  obtain ⟨j,h1,h2,h3,h4,h5⟩:=atI_get he
  obtain ⟨w,ew,rw'⟩:=r.get h2
  have hl:=r.length
  have hn:=line63
  have fin:EP X pins σ Q w s:=⟨z,H,I,rw',q⟩
  by_cases h0:0≤i
  · have hj:i.toNat=j:=by
      rw [seqIndex_of h0 h5] at h1
      exact Option.some.inj h1
    exact item_listR pl.isList h0 (by omega) (by rw [hj]; simpa using ew) fin hs
  · have hj:(i + (its.toArray.size:Int)).toNat=j:=by
      rw [seqIndex_neg (by omega) h4] at h1
      rw [List.size_toArray,← hl]
      exact Option.some.inj h1
    exact subscriptTail_builtinR (x:=w) pl.isList.typeIs slot_list_getitem.lookup
      (wpAny_getItem_list_neg (Q:=fun r s'=>r=w∧EP X pins σ Q r s') pl.isList (by omega) (by rw [List.size_toArray] <;> omega) (by omega) (by rw [hj]; simpa using ew) ⟨rfl,fin⟩) hs
theorem ix_tup:IxR X (rIxT X.K):=by
  intro value slice pins s σ H x y v u Q I rx ry h hs
  obtain ⟨p,xs,i,z,rfl,rfl,hq,he,q⟩:=h
  cases rx
  obtain ⟨t,rfl⟩:=ry
  obtain ⟨its,r,pl,hz⟩:=I.tuple hq
  obtain ⟨j,h1,h2,h3,h4,h5⟩:=atI_get he
  obtain ⟨w,ew,rw'⟩:=r.get h2
  have hl:=r.length
  have hn:=line63
  have fin:EP X pins σ Q w s:=⟨z,H,I,rw',q⟩
  exact subscriptTail_builtinR (x:=w) pl.typeIs slot_tuple_getitem.lookup
    (getItem_tuple (j:=j) (Q:=fun r s'=>r=w∧EP X pins σ Q r s') pl (by omega) (by omega) (by rw [List.size_toArray,← hl]; exact h1) (by simpa using ew) ⟨rfl,fin⟩) hs
theorem ix_str:IxR X rIxS:=by
  intro value slice pins s σ H x y v u Q I rx ry h hs
  obtain ⟨z,i,c,rfl,rfl,hz,he,q⟩:=h
  obtain ⟨t,rfl⟩:=rx
  obtain ⟨t',rfl⟩:=ry
  obtain ⟨j,h1,h2,h3,h4,h5⟩:=atI_get he
  have hl:z.cps.toList.length=z.length:=by simp [Str.length]
  rw [hl] at h1 h4 h5
  have hn:=line63
  exact tail_any (typeIs_str s z t) slot_str_getitem.lookup (getItem_str (c:=c) (by
    have e1:decide (i < -(2 ^ 63:Int))=false:=decide_eq_false (by omega)
    have e2:decide (i ≥ 2 ^ 63)=false:=decide_eq_false (by omega)
    rw [e1,e2,Bool.or_false]) (by rw [h1]; simpa using h2) ⟨.str ⟨#[c]⟩,H,I.tok _,⟨_,rfl⟩,q⟩) hs
def rIx (K:PySem.W.Frag):R2:=fun x y H Q=>rIxL K x y H Q∨rIxT K x y H Q∨rIxS x y H Q
theorem mapSeq_set (its:List Value) (n j:Nat) (u:Value):Obj.mapSeq (·.setIfInBounds j u) {cls:=.type "list",data:=.seq its.toArray n}={cls:=.type "list",data:=.seq (its.set j u).toArray n}:=by
  simp [Obj.mapSeq]
theorem Inv.lst {pins:List (Addr×Obj)} {σ:St} {H:Hp} {s:Shared} {p:Addr} {xs:List V} (I:Inv X pins σ H s) (h:H p=some (.lst xs)) :
    ∃ (its:List Value) (n:Nat),Vals xs its∧s.heap.get? p=some {cls:=.type "list",data:=.seq its.toArray n}∧xs.length≤sizeLine:=by
  obtain ⟨z,its,n,r,e⟩:=I.hok p _ h
  exact ⟨its,n,r,e,z⟩
theorem Inv.lstUpd {pins:List (Addr×Obj)} {σ:St} {H:Hp} {s:Shared} {p:Addr} {xs ys:List V} {its its':List Value} {n n':Nat} {f:Obj→Obj} (I:Inv X pins σ H s) (h:H p=some (.lst xs))
    (ho:s.heap.get? p=some {cls:=.type "list",data:=.seq its.toArray n}) (hf:f {cls:=.type "list",data:=.seq its.toArray n}={cls:=.type "list",data:=.seq its'.toArray n'}) (r:Vals ys its') (hz:ys.length≤sizeLine) (t:Nat) :
    Inv X pins σ (upd H p (.lst ys)) {s with heap:=s.heap.update p f,toks:=t}:=by
  have e:(s.heap.update p f).get? p=some {cls:=.type "list",data:=.seq its'.toArray n'}:=by
    rw [Heap.get?_update_self f ho (by rw [hf] <;> rfl),hf]
  refine I.write (x:=p) (e:=p) (by rw [h]; trivial) (.inl rfl) (fun b u hb q=>(Heap.get?_update_other _ _ (Ne.symm hb)).trans q) ⟨_,e⟩ ?_
  exact ⟨hz,its',n',r,e⟩
def rSetL:V→V→V→Hp→(Hp→Prop)→Prop:=fun o i v H Q=>∃ p xs k j,o=.ref p∧i=.int k∧H p=some (.lst xs)∧ixN xs.length k=some j∧Q (upd H p (.lst (xs.set j v)))
theorem set_list:PSet X rSetL:=by
  intro pins s σ H o i v ov iv u Q I ro ri rv h
  obtain ⟨p,xs,k,j,rfl,rfl,hp,hj,q⟩:=h
  cases ro
  obtain ⟨t,rfl⟩:=ri
  obtain ⟨its,n,r,ho,hz⟩:=I.lst hp
  obtain ⟨h1,h2,h3,h4⟩:=ixN_seq hj
  have hl:=r.length
  have hn:=line63
  have I':Inv X pins σ (upd H p (.lst (xs.set j v))) {s with heap:=s.heap.update p (Obj.mapSeq (·.setIfInBounds j u))}:=
    I.lstUpd hp ho (mapSeq_set its n j u) (r.set rv j) (by rw [List.length_set]; exact hz) s.toks
  by_cases h0:0≤k
  · have hk:k.toNat=j:=by
      rw [seqIndex_of h0 h4] at h1
      exact Option.some.inj h1
    exact PySem.W.ki_setAt ho h0 (by omega) (by rw [List.size_toArray,← hl]; exact h4) (by rw [hk]; exact ⟨_,I',q⟩)
  · have hk:(k + (its.toArray.size:Int)).toNat=j:=by
      rw [seqIndex_neg (by omega) h3] at h1
      rw [List.size_toArray,← hl]
      exact Option.some.inj h1
    exact PySem.W.ki_setBack ho (by omega) (by rw [List.size_toArray,← hl]; exact h3) (by omega) (by rw [hk]; exact ⟨_,I',q⟩)
theorem slice_bounds (lo hi:Option Int) (n:Nat):(sliceBounds lo hi none n).1=((HT.sIx n 0 lo:Nat):Int)∧(sliceBounds lo hi none n).2.1=((HT.sIx n n hi:Nat):Int)∧(sliceBounds lo hi none n).2.2=1:=by
  refine ⟨?_,?_,rfl⟩
  · cases lo with
    | none=>simp [sliceBounds,HT.sIx]
    | some i =>
      simp only [sliceBounds,HT.sIx,Option.getD_none,show (1:Int) > 0 by decide,if_true]
      by_cases h:i < 0
      · simp only [h,if_true] <;> omega
      · simp only [h,if_false] <;> omega
  · cases hi with
    | none=>simp [sliceBounds,HT.sIx]
    | some i =>
      simp only [sliceBounds,HT.sIx,Option.getD_none,show (1:Int) > 0 by decide,if_true]
      by_cases h:i < 0
      · simp only [h,if_true] <;> omega
      · simp only [h,if_false] <;> omega
theorem slicePick_cut (its:List Value) (lo hi:Option Int):slicePick its.toArray lo hi none=((its.drop (HT.sIx its.length 0 lo)).take (HT.sIx its.length its.length hi - HT.sIx its.length 0 lo)).toArray:=by
  obtain ⟨h1,h2,h3⟩:=slice_bounds lo hi its.toArray.size
  unfold slicePick
  rw [h1,h2,h3]
  simp only [sliceRange_one,pick_run,List.size_toArray] <;> rfl
def rSlL (K:PySem.W.Frag):V→Option Int→Option Int→Hp→VK→Prop:=fun x lo hi H Q=>∃ a xs,x=.ref a∧SqL K H a xs∧∀ p,H p=none→Q (.ref p) (upd H p (.lst (cutV xs lo hi)))
theorem sl_list:SlR X (rSlL X.K):=by
  intro pins s σ H x v vl vu lo hi sl Q I rx hs pl pu h
  obtain ⟨a,xs,rfl,hx,q⟩:=h
  cases rx
  obtain ⟨its,r,ht,hz⟩:=I.list hx
  have hlen:=r.length
  refine ⟨"list",_,slot_list_getitem.lookup,ht.isList.typeIs,?_⟩
  refine wpAny_getItem_list_slice ht.isList hs pl pu .none (by simp) ?_ (by rw [List.size_toArray] <;> omega)
  rw [slicePick_cut,← hlen]
  refine ⟨.ref s.heap.objs.size,_,I.laid (t':=s.toks) (o:=.lst (cutV xs lo hi)) (fun b ob q=>Heap.get?_push_of_some _ q) (Nat.le_refl _) ?_,rfl,q _ (I.hok.fresh (Nat.le_refl _))⟩
  exact ⟨Nat.le_trans (cutV_length xs lo hi) hz,_,0,(r.drop (HT.sIx xs.length 0 lo)).take (HT.sIx xs.length xs.length hi - HT.sIx xs.length 0 lo),Heap.get?_push_size _ rfl⟩
def flatV:V→Bool
  | .non=>true
  | .bl _=>true
  | .int _=>true
  | .str _=>true
  | _=>false
def eqV:V→V→Bool
  | .non,.non=>true
  | .bl a,.bl b=>a == b
  | .bl a,.int b=>(if a then 1 else 0) == b
  | .int a,.bl b=>a == (if b then 1 else 0)
  | .int a,.int b=>a == b
  | .str a,.str b=>a == b
  | _,_=>false
def eqU (x:V) (u:Value):Bool:=match u with
  | .none=>eqV .non x
  | .bool b=>eqV (.bl b) x
  | .int i _=>eqV (.int i) x
  | .str z _=>eqV (.str z) x
  | _=>false
def inV (x:V) (xs:List V):Bool:=xs.any fun y=>eqV y x
def rIn (K:PySem.W.Frag) (neg:Bool):R2:=fun x y H Q=>∃ p xs,y=.ref p∧(SqL K H p xs∨SqT K H p xs)∧flatV x=true∧xs.all flatV=true∧Q (.bl (if neg then !inV x xs else inV x xs)) H
theorem call_len_seq:CallR X (.builtin "len") (fun xs H Q=>∃ p ys,xs=[.ref p]∧(SqL X.K H p ys∨SqT X.K H p ys)∧Q (.int ys.length) H):=by
  intro pins s σ H xs us Q I r h
  obtain ⟨p,ys,rfl,hq,q⟩:=h
  obtain ⟨u,rfl,rx⟩:=vals1 r
  cases rx
  have hn:=line63
  rcases hq with hq | hq
  · obtain ⟨its,r',pl,hz⟩:=I.list hq
    have hlen:=r'.length
    exact Calls.call_len_list pl.isList (by simp only [List.size_toArray] <;> omega) ⟨.int ys.length,H,I.tok _,⟨s.toks + 1,by rw [List.size_toArray,hlen]⟩,q⟩
  · obtain ⟨its,r',pl,hz⟩:=I.tuple hq
    have hlen:=r'.length
    exact len_tuple pl (by simp only [List.size_toArray] <;> omega) ⟨.int ys.length,H,I.tok _,⟨s.toks + 1,by rw [List.size_toArray,hlen]⟩,q⟩
def tyV (K:PySem.W.Frag) (T:String) (x:V) (H:Hp):Prop:=match x with
  | .str _=>T="str"
  | .int _=>T="int"
  | .ref p=>(T="list"∧∃ xs,SqL K H p xs)∨(T="tuple"∧∃ o,K.lookup p=some o∧o.cls=.type "tuple"∧o.dict=none) ∨
      (T="dict"∧((∃ kvs,H p=some (.dK kvs))∨∃ kvs,H p=some (.dT kvs)))∨(T="set"∧∃ S n,H p=some (.set S n))
  | _=>False
theorem tyV_is {pins:List (Addr×Obj)} {σ:St} {H:Hp} {s:Shared} {T:String} {x:V} {v:Value} (I:Inv X pins σ H s) (r:RelV x v) (ty:tyV X.K T x H) :
    s.TypeIs v T∧∀ a,v=.ref a→∃ ob,s.heap.get? a=some ob∧ob.dict=none:=by
  cases x with
  | str z =>
    obtain ⟨t,rfl⟩:=r
    cases (show T="str" from ty)
    exact ⟨typeIs_str s z t,fun _ e=>nomatch e⟩
  | int i =>
    obtain ⟨t,rfl⟩:=r
    cases (show T="int" from ty)
    exact ⟨typeIs_int s i t,fun _ e=>nomatch e⟩
  | ref p =>
    cases r
    rcases ty with ⟨rfl,xs,hq⟩ | ⟨rfl,o,hk,hc,hd⟩ | ⟨rfl,hk⟩ | ⟨rfl,S,n,hk⟩
    · obtain ⟨its,_,pl,_⟩:=I.list hq
      refine ⟨pl.isList.typeIs,fun a e=>?_⟩
      cases e
      obtain ⟨o,n,e,c,hd,_⟩:=pl
      exact ⟨o,e,hd⟩
    · refine ⟨⟨o,I.kIn p o hk,hc⟩,fun a e=>?_⟩
      cases e
      exact ⟨o,I.kIn _ o hk,hd⟩
    · have z:∃ o,s.heap.get? p=some o∧o.ExactDict:=by
        rcases hk with ⟨kvs,hk⟩ | ⟨kvs,hk⟩
        · obtain ⟨_,_,_,_,o,_,_,e,ex,_⟩:=I.hok p _ hk
          exact ⟨o,e,ex⟩
        · obtain ⟨_,_,_,_,o,_,_,e,ex,_⟩:=I.hok p _ hk
          exact ⟨o,e,ex⟩
      obtain ⟨o,e,ex⟩:=z
      refine ⟨⟨o,e,ex.1⟩,fun a e2=>?_⟩
      cases e2
      exact ⟨o,e,ex.2.1⟩
    · obtain ⟨o,_,_,_,e,ex,_⟩:=I.hok p _ hk
      refine ⟨⟨o,e,ex.1⟩,fun a e2=>?_⟩
      cases e2
      exact ⟨o,e,ex.2.1⟩
  | _=>exact False.elim ty
def tBM0 (K:PySem.W.Frag) (T:String) (r:V→List V→Hp→VK→Prop) (to:TE):TE:=fun σ H Q=>to σ H fun x H1=>tyV K T x H1∧r x [] H1 Q
def tBM (K:PySem.W.Frag) (T:String) (r:V→List V→Hp→VK→Prop) (to:TE) (t:TA):TE:=fun σ H Q=>to σ H fun x H1=>tyV K T x H1∧t σ H1 fun xs H2=>r x xs H2 Q
variable {o e:Expr} {es:List Expr} {to:TE} {t:TA} {name:Str} {apos cpos:Pos} {T id:String} {r:V→List V→Hp→VK→Prop}
theorem pe_bm (pa:PlainAttrs T) (slot:Slot T name id) (hty:typeOf (.builtin id)=pure (.type "method_descriptor")) (hm:MtR X id r) (ho:PE X o to) (ha:PA X (e :: es) t)
    (hbase:attributeBase o name X.env (eval o X.env)=eval o X.env:=by rfl)
    (hfew:((backTo cpos (starEach (e :: es) X.env)).all (fun x=>!x.1) && (backToKw cpos (keywordEach [] X.env)).all (fun x=>x.1.isSome)
      && decide ((e :: es).length + ([]:List Keyword).length + (if ([]:List Keyword).isEmpty then 0 else 1) < 30))=true:=by rfl)
    (hline:(apos.endLine == cpos.line)=true:=by rfl) (hs:starEach (e :: es) X.env=(false,eval e X.env) :: starEach es X.env:=by rfl) (hplain:(backTo cpos (starEach es X.env)).any (·.1)=false:=by rfl) :
    PE X (.Call (.Attribute o name apos) (e :: es) [] cpos) (tBM X.K T r to t):=by
  intro pins s σ H Q I h
  refine wpAny_Call_method_late hbase hfew hline rfl (thn (ho pins s σ H _ I h) fun v s1 ⟨x,H1,I1,r1,ty,q1⟩=>?_)
  obtain ⟨h1,h2⟩:=tyV_is I1 r1 ty
  refine ⟨T,id,pa,slot,hty,h1,h2,?_⟩
  have hA:=ha cpos pins s1 σ H1 _ I1 q1
  rw [hs] at hA ⊢
  refine Calls.callWith_builtin (by show (false || (backTo cpos (starEach es X.env)).any (·.1))=false; rw [hplain] <;> rfl) (Calls.evalArgs_plain ?_)
  exact thn hA fun us s2 ⟨vs,H2,I2,r2,q2⟩=>hm pins s2 σ H2 x vs v us Q I2 r1 r2 q2
end
end L2
namespace L2
open PySem PySem.Spec PyProof.Rows
def MtM (X:Cx) (id:String) (r:V→List V→Hp→VK→Prop):Prop:=
  ∀ (pins:List (Addr×Obj)) (s:Shared) (σ:St) (H:Hp) (x:V) (xs:List V) (v:Value) (us:List Value) (Q:VK),Inv X pins σ H s→RelV x v→Vals xs us→r x xs H Q →
    wpAny (model X.prog X.w) X.A (call (.builtin id) (v :: us)) (EP X pins σ Q) X.xe s
theorem Vals.one:∀ {x:V} {us:List Value},Vals [x] us→∃ u,us=[u]∧RelV x u
  | _,_,.cons r .nil=>⟨_,rfl,r⟩
section
variable {X:Cx} {pins:List (Addr×Obj)} {σ:St} {H:Hp} {s:Shared} {l b:Addr} {xs ys zs:List V}
theorem Inv.lset {its its':List Value} {n:Nat} {f:Array Value→Array Value} {t':Nat} (I:Inv X pins σ H s) (hH:H l=some (.lst xs))
    (e:s.heap.get? l=some {cls:=.type "list",data:=.seq its.toArray n}) (hf:f its.toArray=its'.toArray) (hv:Vals ys its') (hz:ys.length≤sizeLine) :
    Inv X pins σ (upd H l (.lst ys)) {s with heap:=s.heap.update l (Obj.mapSeq f),toks:=t'}:=by
  have q:=PySem.IsL.update e f
  rw [hf] at q
  refine I.write (x:=l) (e:=l) (by rw [hH]; exact trivial) (.inl rfl) (fun b' u hb hu=>(Heap.get?_update_other s.heap (Obj.mapSeq f) (Ne.symm hb)).trans hu) ⟨_,q⟩ ?_
  exact ⟨hz,its',_,hv,q⟩
theorem Inv.lnew {its:List Value} {t':Nat} (I:Inv X pins σ H s) (hv:Vals ys its) (hz:ys.length≤sizeLine) :
    Inv X pins σ (upd H s.heap.objs.size (.lst ys)) {s with heap:=s.heap.push {cls:=.type "list",data:=.seq its.toArray},toks:=t'}:=
  I.laid (fun _ _ q=>Heap.get?_push_of_some _ q) (Nat.le_refl _) ⟨hz,its,0,hv,Heap.get?_push_size _ rfl⟩
theorem Inv.fresh (I:Inv X pins σ H s):H s.heap.objs.size=none:=I.hok.fresh (Nat.le_refl _)
theorem Inv.lstM (I:Inv X pins σ H s) (hH:H l=some (.lst xs)):xs.length≤sizeLine∧∃ (its:List Value) (n:Nat),Vals xs its∧xs.length=its.length∧s.heap.get? l=some {cls:=.type "list",data:=.seq its.toArray n}:=by
  obtain ⟨z,its,n,r,e⟩:=I.hok l _ hH
  exact ⟨z,its,n,r,r.length,e⟩
theorem notLongL {n:Nat} (h:n≤sizeLine):Builtin.List.listTooLong n=false:=by
  unfold Builtin.List.listTooLong
  exact decide_eq_false (by omega)
end
section
variable {X:Cx}
def rAppend:V→List V→Hp→VK→Prop:=fun x vs H Q=>∃ l xs y,x=.ref l∧vs=[y]∧H l=some (.lst xs)∧xs.length < sizeLine∧Q .non (upd H l (.lst (xs++[y])))
theorem mt_append:MtM X "list.append" rAppend:=by
  intro pins s σ H x vs v us Q I rx rv h
  obtain ⟨l,xs,y,rfl,rfl,hH,hz,q⟩:=h
  cases rx
  obtain ⟨u,rfl,ru⟩:=rv.one
  obtain ⟨z,its,n,r,hl,e⟩:=I.lstM hH
  refine call_meets F.slot_list_append ⟨_,e,rfl⟩ F.entry_list_append (F.args_list_append_2 _ _) (PySem.list_append l its.toArray n u (by rw [List.size_toArray]; omega)) ⟨e,?_⟩
  refine ⟨.non,_,I.lset (its':=its++[u]) hH e (by simp) (r.append (.cons ru .nil)) ?_,rfl,q⟩
  rw [List.length_append,List.length_singleton]
  omega
def rExtend:V→List V→Hp→VK→Prop:=fun x vs H Q=>∃ l b xs zs,x=.ref l∧vs=[.ref b]∧H l=some (.lst xs)∧H b=some (.lst zs)∧xs.length + zs.length≤sizeLine∧Q .non (upd H l (.lst (xs++zs)))
theorem mt_extend:MtM X "list.extend" rExtend:=by
  intro pins s σ H x vs v us Q I rx rv h
  obtain ⟨l,b,xs,zs,rfl,rfl,hH,hB,hz,q⟩:=h
  cases rx
  obtain ⟨u,rfl,ru⟩:=rv.one
  cases ru
  obtain ⟨z,its,n,r,hl,e⟩:=I.lstM hH
  obtain ⟨z2,its2,n2,r2,hl2,e2⟩:=I.lstM hB
  have hsz:its.toArray.size + its2.toArray.size≤sizeLine:=by rw [List.size_toArray,List.size_toArray]; omega
  have hlong:¬ (!its.toArray.isEmpty && Builtin.List.listTooLong (its.toArray.size + its2.toArray.size))=true:=by
    rw [notLongL hsz,Bool.and_false]
    exact Bool.false_ne_true
  refine call_meets F.slot_list_extend ⟨_,e,rfl⟩ F.entry_list_extend (F.args_list_extend_2 _ _)
    (AutoSeq1.list_extend_list_list_0 l its.toArray n b its2.toArray n2 hlong (by rw [List.size_toArray]; omega) (by omega)) ⟨e,e2,?_⟩
  refine ⟨.non,_,I.lset (its':=its++its2) hH e (by simp) (r.append r2) ?_,rfl,q⟩
  rw [List.length_append]
  omega
def rPop:V→List V→Hp→VK→Prop:=fun x vs H Q=>∃ l xs y,x=.ref l∧vs=[]∧H l=some (.lst xs)∧xs[xs.length - 1]?=some y∧Q y (upd H l (.lst xs.dropLast))
def rPopAt:V→List V→Hp→VK→Prop:=fun x vs H Q=>∃ l xs i k y,x=.ref l∧vs=[.int i]∧H l=some (.lst xs)∧-(2 ^ 63)≤i∧i < 2 ^ 63∧seqIndex? i xs.length=some k∧xs[k]?=some y∧Q y (upd H l (.lst (xs.eraseIdx k)))
def rReverse:V→List V→Hp→VK→Prop:=fun x vs H Q=>∃ l xs,x=.ref l∧vs=[]∧H l=some (.lst xs)∧Q .non (upd H l (.lst xs.reverse))
def rClear:V→List V→Hp→VK→Prop:=fun x vs H Q=>∃ l xs,x=.ref l∧vs=[]∧H l=some (.lst xs)∧Q .non (upd H l (.lst []))
def rCat:R2:=fun x y H Q=>∃ l b xs zs,x=.ref l∧y=.ref b∧H l=some (.lst xs)∧H b=some (.lst zs)∧xs.length + zs.length≤sizeLine∧∀ p,H p=none→Q (.ref p) (upd H p (.lst (xs++zs)))
theorem op_cat:OpR X (binaryOp .Add) rCat:=by
  intro pins s σ H x y v u Q I rx ry h
  obtain ⟨l,b,xs,zs,rfl,rfl,hH,hB,hz,q⟩:=h
  cases rx
  cases ry
  obtain ⟨z,its,n,r,hl,e⟩:=I.lstM hH
  obtain ⟨z2,its2,n2,r2,hl2,e2⟩:=I.lstM hB
  refine PySem.P.add_list e e2 ?_ (by rw [List.size_toArray,List.size_toArray]; omega)
  have ea:its.toArray++its2.toArray=(its++its2).toArray:=by simp
  rw [ea]
  exact ⟨.ref _,_,I.lnew (t':=s.toks) (r.append r2) (by rw [List.length_append]; omega),rfl,q _ I.fresh⟩
def rRep:R2:=fun x y H Q=>∃ l k xs,x=.ref l∧y=.int k∧H l=some (.lst xs)∧-(2 ^ 63)≤k∧k < 2 ^ 63∧xs.length * k.toNat≤sizeLine ∧
  ∀ p,H p=none→Q (.ref p) (upd H p (.lst (List.replicate k.toNat xs).flatten))
end
section
variable {prog:Program} {w:World} {A:Around} {E:Value→Shared→Prop} {s:Shared}
end
section
variable {X:Cx}
end
end L2
namespace Att
open PySem PySem.W PySem.Calls PyProof.Rows
theorem ints_of_wellAll {P:Params} {h:Heap}:∀ (ns:List Int) (vs:List Value),WellAll P h vs (ns.map WData.int)→IntsAre vs ns:=by
  intro ns
  induction ns with
  | nil =>
    intro vs w
    rw [List.map_nil] at w
    cases w
    exact .nil
  | cons n ns ih =>
    intro vs w
    rw [List.map_cons] at w
    cases w with
    | cons a b =>
      cases a
      exact .cons _ _ (ih _ b)
theorem script_of {l:OpenLaw} {n:Nat} (hn:l.most=some n) {P:Params} {h:Heap} {args:List WData} {vals:List Value}
    (hpre:l.row.toRowW.claim.pre args=true) (hwl:WellAll P h vals args) :
    ∃ a vs ns,vals=[Value.ref a]∧args=[WData.list (ns.map WData.int)]∧h.get? a=some {cls:=.type "list",data:=.seq vs.toArray}∧IntsAre vs ns∧ns.length≤n:=by
  have hsh:WShape.hasAll [] args [.list .int]=true:=(pre_splitW hpre).1
  have hc:l.pre.holds [] {args:=args}=true:=(pre_splitW hpre).2
  obtain ⟨d,r,rfl,h1,h2⟩:=hasAllW_cons hsh
  obtain rfl:=hasAllW_nil h2
  obtain ⟨xs,rfl,h3⟩:=hasW_list h1
  obtain ⟨ns,rfl⟩:=items_int h3
  have hlen:ns.length≤n:=by
    unfold OpenLaw.pre at hc
    have h4:(WTm.not (.lt (.lit (.int (n:Int))) (.len (.arg 0)))).holds [] {args:=[.list (ns.map .int)]}=true:=by
      have h4:=(holds_andW hc).1
      rw [hn] at h4
      exact h4
    have h5:=condW_of h4 (w_not (w_lt w_lit (w_len_list (w_arg rfl))))
    rw [List.length_map] at h5
    refine Nat.le_of_not_lt fun q=>?_
    have q':(n:Int) < ((ns.length:Nat):Int):=by omega
    first
      | (rw [decide_eq_true q'] at h5; exact absurd h5 (by decide))
      | (simp at h5; omega)
  cases hwl with
  | cons w1 w2 =>
    cases w2
    cases w1 with
    | list ho hall=>exact ⟨_,_,ns,rfl,rfl,ho,ints_of_wellAll ns _ hall,hlen⟩
theorem post_true (l:OpenLaw) (args:List WData):l.row.toRowW.claim.post args (.bool true) args=true:=
  postW_of (r:=l.row.toRowW) (X:=(true == true))
    (show WShape.has [] (.bool true) .bool=true by first | rfl | decide | simp [WShape.has,WShape.arms,WShape.armsAll])
    (show (WTm.eq .res (.lit (.bool true))).value [] {args:=args,res:=some (.bool true),after:=args}=some (.bool (true == true)) from w_eq_bool (w_res rfl) w_lit) rfl
section
variable {prog:Program} {w:World} {A:Around} {E:Value→Shared→Prop} {s:Shared} {K:Frag}
def noObjs (h:Heap):Heap:={h with objs:=#[]}
def ledger (h:Heap) (L d:Addr):List (Addr×Obj):=(List.range h.objs.size).filterMap fun a=>if a=L∨a=d then none else (h.get? a).map fun o=>(a,o)
end
end Att
namespace L2
open PySem PySem.Spec PyProof.Rows
theorem vals_ints:∀ {vs:List Value} {ns:List Int},IntsAre vs ns→Vals (ns.map V.int) vs
  | _,_,.nil=>.nil
  | _,_,.cons n t h=>.cons ⟨t,rfl⟩ (vals_ints h)
def Only (H:Hp):Prop:=∀ b,H b=none∨∃ o xs,H b=some (.frz o (.lst xs))
theorem law_call {P:Program} {w:World} {K:PySem.W.Frag} {mg mb:Str→Option Value} {CX:CXT} {k:Nat} {fa a:Addr} {fd:FuncData} {x:Str} {sp:Sp} {s₁:Shared} {vs:List Value} {ns:List Int}
    (KX:K.In s₁.heap) (hns:s₁.heap.Ns mainGlobals mg) (hb:s₁.heap.Ns builtinsNs mb) (hbb:∀ x:Str,x≠"__name__"→mb x=bootBuiltins x) (hlim:s₁.heap.NoLimit) (hg:s₁.gens=#[])
    (ha:s₁.heap.get? a=some {cls:=.type "list",data:=.seq vs.toArray}) (hi:IntsAre vs ns) (hl:ns.length≤sizeLine) (hr:Room k callerA)
    (F:∀ base:Heap,K.In base→base.Ns mainGlobals mg→FnOk P w K mg base CX k fa fd [x] sp) (hbind:∀ (s:Shared) (u:Value),BindsTo s fd ⟨[u],[]⟩ [(x,u)])
    (hsp:∀ H:Hp,Only H→SqL K H a (ns.map V.int)→sp [.ref a] H (fun v _=>v=.bl true) fun _ _ _=>False)
    (hCX:∀ H e s',CX [] H s₁ (fun _ _ _=>False) e s'→False) :
    codeAny (model P w) callerA (.call (.ref fa) ⟨[.ref a],[]⟩) (fun r s'=>r=.ok (.ret (.bool true))∧OldK s₁.heap s'.heap∧s'.os=s₁.os∧AllBare s'.gens) s₁:=by
  have rv:=vals_ints hi
  have lenV:=hi.length
  -- from an abstract heap in which nothing but the script may be tracked
  have core:∀ H:Hp,Only H→SqL K H a (ns.map V.int)→HOk P w H s₁.heap→(∀ b,H b≠none→b=a)→(H a≠none→K.lookup a=none) →
      codeAny (model P w) callerA (.call (.ref fa) ⟨[.ref a],[]⟩) (fun r s'=>r=.ok (.ret (.bool true))∧OldK s₁.heap s'.heap∧s'.os=s₁.os∧AllBare s'.gens) s₁:=by
    intro H hO hS hok hA hK
    have base_of:∀ {b:Addr} {o:Obj},s₁.heap.get? b=some o→H b=none→(hidT s₁.heap H).get? b=some o:=fun e n=>hidT_get e n
    have noA:∀ {b:Addr} {o:Obj} {es:Array DictEntry} {ep:Nat},s₁.heap.get? b=some o→o.data=.dict es ep→H b=none:=fun {b o es ep} e d=>by
      cases q:H b with
      | none=>rfl
      | some u =>
        have e':b=a:=hA b (by rw [q]; simp)
        subst e'
        rw [ha] at e; cases e
        have d':Data.seq vs.toArray _=Data.dict es ep:=d
        cases d'
    have nsK:∀ {b:Addr} {m:Str→Option Value},s₁.heap.Ns b m→(hidT s₁.heap H).Ns b m:=fun {b m} ⟨o,es,ep,e,d,r⟩=>⟨o,es,ep,base_of e (noA e d),d,r⟩
    have hKb:K.In (hidT s₁.heap H):=fun b o e=>base_of (KX b o e) (by
      cases q:H b with
      | none=>rfl
      | some u =>
        have e':b=a:=hA b (by rw [q]; simp)
        subst e'
        rw [hK (by rw [q]; simp)] at e; cases e)
    have hM:Mod K mg (hidT s₁.heap H):=⟨hKb,nsK hns,⟨mb,nsK hb,hbb⟩,let ⟨mc,h1,h2⟩:=hlim; ⟨mc,nsK h1,h2⟩⟩
    have e0:Env0 P w K mg (hidT s₁.heap H) callerA [] s₁ H:=⟨rfl,hM,fun b o e=>of_hidT e,Nat.le_of_eq (hidT_size _ _),trivial,fun b hb=>absurd (show b∈([]:List Addr) from hb) (by simp),hok,.of_eq hg⟩
    refine codeAny_mono ((F _ hKb (nsK hns)).run callerA [] s₁ H ⟨[.ref a],[]⟩ [.ref a] [.ref a] _ _ hr e0 (hbind s₁ (.ref a)) (.cons rfl .nil) (hsp H hO hS)) fun r s' h=>?_
    cases r with
    | error e=>exact (hCX H e s' h).elim
    | ok fl =>
      cases fl with
      | next=>exact False.elim h
      | brk=>exact False.elim h
      | cont=>exact False.elim h
      | ret u =>
        obtain ⟨v,H',os,bare,un,hok',r',q⟩:=h
        have q':v=.bl true:=q
        subst q'
        obtain rfl:u=Value.bool true:=r'
        refine ⟨rfl,OldK.of_keep fun b o e=>?_,os,bare⟩
        cases q:H b with
        | none=>exact un.keep b o e q (by intro z; exact absurd (show b∈([]:List Addr) from z) (by simp)) (by simp)
        | some u =>
          rcases hO b with z | ⟨ob,xs,z⟩
          · rw [q] at z; cases z
          · have z2:=un.frzs b ob _ z
            obtain ⟨e1,_⟩:=hok b _ z
            obtain ⟨e2,_⟩:=hok' b _ z2
            rw [e] at e1; cases e1
            exact e2
  cases hk:K.lookup a with
  | some o =>
    -- the script is one of the module's own objects
    have e:=KX a o hk
    rw [ha] at e
    cases e
    refine core (fun _=>none) (fun _=>.inl rfl) (.inr ⟨_,vs.toArray,_,hk,rfl,rfl,rfl,by rw [List.size_toArray,lenV]; exact hl,by simpa using rv⟩) (fun b u z=>by have z':(none:Option HO)=some u:=z; cases z') (fun b z=>absurd rfl z) fun z=>absurd rfl z
  | none =>
    refine core (fun b=>if b=a then some (.frz {cls:=.type "list",data:=.seq vs.toArray} (.lst (ns.map V.int))) else none) (fun b=>?_) (.inl (.inr ⟨{cls:=.type "list",data:=.seq vs.toArray},if_pos rfl⟩)) (fun b u z=>?_) (fun b z=>?_) fun _=>hk
    · by_cases hb:b=a
      · exact .inr ⟨_,_,if_pos hb⟩
      · exact .inl (if_neg hb)
    · by_cases hb:b=a
      · have z':=(if_pos hb).symm.trans z
        cases z'
        subst hb
        exact ⟨ha,by rw [List.length_map]; exact hl,vs,_,rv,ha⟩
      · have z':=(if_neg hb).symm.trans z
        cases z'
    · by_cases hb:b=a
      · exact hb
      · exact absurd (if_neg hb) z
end L2
namespace L2
open PySem PySem.Spec PyProof.Rows
abbrev KOf {K:PySem.W.Frag} {h:Heap} (_:K.In h):PySem.W.Frag:=K
end L2
namespace L2
open PySem PySem.Spec PyProof.Rows
def inClass (s:Stmt) (j:Nat):Stmt:=match s with
  | .ClassDef _ _ _ body _ _ _ _ _ _ _=>body.getD j (.Pass ⟨0,0,0,0⟩)
  | _=>.Pass ⟨0,0,0,0⟩
def defArgs (s:Stmt):Arguments:=match s with
  | .FunctionDef _ a _ _ _ _ _ _ _ _=>a
  | _=>{posonlyargs:=[],args:=[],vararg:=none,kwonlyargs:=[],kw_defaults:=[],kwarg:=none,defaults:=[]}
def defBody (s:Stmt):List Stmt:=match s with
  | .FunctionDef _ _ b _ _ _ _ _ _ _=>b
  | _=>[]
def defScope (s:Stmt):Scope:=match s with
  | .FunctionDef _ _ _ _ _ _ sc _ _ _=>sc
  | _=>{kind:=.function,names:=[],isGenerator:=false,isCoroutine:=false}
abbrev CX0:CXT:=fun _ _ _ _ _ _=>False
abbrev E0:XK:=fun _ _ _=>False
theorem pass0 {X:Cx}:Passes CX0 X E0:=fun _ _ _ _ _ _ _ h=>h.elim
structure Fun (K:PySem.W.Frag) (x qual:Str) (st:Stmt) (f:Addr) (fd:FuncData):Prop where
  ex:∃ (oc:Value) (od:Option Addr) (kV doc pm:Value) (an:Option Addr) (cdv ct:Value) (osl:Array (Option Value)),
    fd=PySem.W.fnOf x qual (defArgs st) (defBody st) (defScope st) .none kV doc pm an cdv ct∧K.lookup f=some ⟨oc,od,.func fd,osl⟩∧PySem.W.codeIn K cdv qual=true
  kp:PySem.W.keepIn K (.ref f)=true
section
variable {P:Program} {w:World} {K:PySem.W.Frag} {mg:Str→Option Value} {base:Heap}
theorem Fun.ok {x qual:Str} {st:Stmt} {f:Addr} {fd:FuncData} {N ps:List Str} {k:Nat} {sp:Sp} (F:Fun K x qual st f fd) (S:FnScope N ps (defScope st)) (len:∀ vs H Q E,sp vs H Q E→vs.length=ps.length)
    (hbody:∀ (cdv:Value) (A:Around) (outer:List Env) (s:Shared) (H:Hp) (vs:List V) (Q:VK) (E:XK),Room k (A.deeper (envOfC qual (defScope st) s.heap.objs.size f cdv))→sp vs H Q E →
      ∃ t,PSs (cxOf CX0 P w K mg base N qual (defScope st) f cdv A outer s H E).nox (defBody st) t∧t {nx:=fun _ H'=>Q .non H',rt:=Q} (start N vs) H):FnOk P w K mg base CX0 (k + 1) f fd ps sp:=by
  obtain ⟨oc,od,kV,doc,pm,an,cdv,ct,osl,rfl,lk,hcd⟩:=F.ex
  refine fn_of lk hcd S len fun A outer s H vs Q E hr hsp=>?_
  obtain ⟨t,h,q⟩:=hbody cdv A outer s H vs Q E hr hsp
  exact ⟨t,h.nox,q⟩
theorem Fun.binds {x qual:Str} {st:Stmt} {f:Addr} {fd:FuncData} {ps:List Str} (F:Fun K x qual st f fd)
    (h:∀ (kV doc pm:Value) (an:Option Addr) (cdv ct:Value) (us:List Value),us.length=ps.length→bindArgs (PySem.W.fnOf x qual (defArgs st) (defBody st) (defScope st) .none kV doc pm an cdv ct) ⟨us,[]⟩=pure (ps.zip us)):Binds K fd ps []:=by
  obtain ⟨oc,od,kV,doc,pm,an,cdv,ct,osl,rfl,lk,hcd⟩:=F.ex
  exact .all (h kV doc pm an cdv ct)
theorem fun_mk {x qual:Str} {st:Stmt} {f:Addr} {oc:Value} {od an:Option Addr} {osl:Array (Option Value)} {kV doc pm cdv ct:Value} (l:K.lookup f=some ⟨oc,od,.func (PySem.W.fnOf x qual (defArgs st) (defBody st) (defScope st) .none kV doc pm an cdv ct),osl⟩)
    (c:PySem.W.codeIn K cdv qual=true) (k:PySem.W.keepIn K (.ref f)=true):Fun K x qual st f (PySem.W.fnOf x qual (defArgs st) (defBody st) (defScope st) .none kV doc pm an cdv ct):=⟨⟨oc,od,kV,doc,pm,an,cdv,ct,osl,rfl,l,c⟩,k⟩
end
theorem hu_of {A:Around} {k:Nat} (hr:Room k A):A.units + 1 < cLine:=Nat.lt_of_le_of_lt (Nat.add_le_add_left (by decide:1≤64) _) hr.units
section
variable {X:Cx}
theorem pv (i:Nat) {x:Str} {pos:Pos} (hN:X.N[i]?=some x:=by rfl) (hv:Vis X.env.scope x:=by first | exact Or.inl rfl | exact Or.inr (Or.inl rfl) | exact Or.inr (Or.inr rfl)) (hd:(x == ("__debug__":Str))=false:=by decide)
    (hcd:(x == ("__classdict__":Str))=false:=by decide):PE X (.Name x pos) (tVar i):=pe_var hN hv hd hcd
end
theorem iteF {A B:Prop} (h:B):if false=true then A else B:=by
  rw [if_neg Bool.false_ne_true]
  exact h
theorem iteT {A B:Prop} (h:A):if true=true then A else B:=by
  rw [if_pos rfl]
  exact h
theorem ite2 {c A B:Prop} [Decidable c] (h1:c→A) (h2:¬ c→B):if c then A else B:=by
  by_cases h:c
  · rw [if_pos h]
    exact h1 h
  · rw [if_neg h]
    exact h2 h
def Same (H H':Hp):Prop:=∀ b o,H b=some o→H' b=some o
theorem Same.refl (H:Hp):Same H H:=fun _ _ h=>h
theorem Same.trans {H H1 H2:Hp} (a:Same H H1) (b:Same H1 H2):Same H H2:=fun c o h=>b c o (a c o h)
theorem Same.free {H H':Hp} (e:Same H H') {l:Addr} (h:H' l=Option.none):H l=Option.none:=by
  cases q:H l with
  | none=>rfl
  | some o =>
    rw [e l o q] at h
    cases h
end L2
namespace L2
open PySem PySem.Spec PyProof.Rows
section
variable {κ:Type} [DecidableEq κ]
def valV (kvs:List (κ×V)) (k:κ):Option V:=(kvs.find? fun kv=>decide (kv.1=k)).map (·.2)
def putK (kvs:List (κ×V)) (k:κ) (v:V):List (κ×V):=
  if (kvs.any fun kv=>decide (kv.1=k))=true then kvs.map (fun kv=>if kv.1=k then (kv.1,v) else kv) else kvs++[(k,v)]
def dropK (kvs:List (κ×V)) (k:κ):List (κ×V):=kvs.filter fun kv=>decide (kv.1≠k)
theorem valV_pos {p:κ×V} {r:List (κ×V)} {k:κ} (e:p.1=k):valV (p :: r) k=some p.2:=by simp [valV,List.find?_cons,e]
theorem valV_neg {p:κ×V} {r:List (κ×V)} {k:κ} (e:¬ p.1=k):valV (p :: r) k=valV r k:=by simp [valV,List.find?_cons,e]
theorem length_putK (kvs:List (κ×V)) (k:κ) (v:V):(putK kvs k v).length≤kvs.length + 1:=by
  unfold putK
  split
  · rw [List.length_map]; omega
  · rw [List.length_append,List.length_cons,List.length_nil]; omega
theorem KV.val {kvs:List (κ×V)} {vs:List (κ×Value)} (r:KV kvs vs) (k:κ):RelO (valV kvs k) (valueAt vs k):=by
  unfold KV at r
  induction r with
  | nil=>exact True.intro
  | @cons p q ps qs h t ih =>
    obtain ⟨h1,h2⟩:=h
    by_cases e:p.1=k
    · have e':q.1=k:=h1.symm.trans e
      have b:valueAt (q :: qs) k=some q.2:=by simp [valueAt,List.find?_cons,e']
      rw [valV_pos e,b]; exact h2
    · have e':¬ q.1=k:=fun z=>e (h1.trans z)
      have b:valueAt (q :: qs) k=valueAt qs k:=by simp [valueAt,List.find?_cons,e']
      rw [valV_neg e,b]; exact ih
theorem KV.any {kvs:List (κ×V)} {vs:List (κ×Value)} (r:KV kvs vs) (k:κ):(kvs.any fun kv=>decide (kv.1=k))=vs.any fun kv=>decide (kv.1=k):=by
  unfold KV at r
  induction r with
  | nil=>rfl
  | cons h t ih=>rw [List.any_cons,List.any_cons,ih,h.1]
theorem KV.repl {kvs:List (κ×V)} {vs:List (κ×Value)} (r:KV kvs vs) (k:κ) {y:V} {u:Value} (ry:RelV y u) :
    KV (kvs.map fun kv=>if kv.1=k then (kv.1,y) else kv) (vs.map fun kv=>if kv.1=k then (kv.1,u) else kv):=by
  unfold KV at r ⊢
  induction r with
  | nil=>exact .nil
  | @cons p q ps qs h t ih =>
    rw [List.map_cons,List.map_cons]
    refine .cons ?_ ih
    obtain ⟨h1,h2⟩:=h
    by_cases e:p.1=k
    · rw [if_pos e,if_pos (h1.symm.trans e)]; exact ⟨h1,ry⟩
    · rw [if_neg e,if_neg (fun z=>e (h1.trans z))]; exact ⟨h1,h2⟩
theorem KV.put {kvs:List (κ×V)} {vs:List (κ×Value)} (r:KV kvs vs) (k:κ) {y:V} {u:Value} (ry:RelV y u):KV (putK kvs k y) (stored vs k u):=by
  unfold putK stored
  rw [r.any k]
  by_cases e:(vs.any fun kv=>decide (kv.1=k))=true
  · rw [if_pos e,if_pos e]; exact r.repl k ry
  · rw [if_neg e,if_neg e]; exact Paired.snoc r ⟨rfl,ry⟩
end
theorem kV_is {P:Program} {w:World} {k:Key} {u:Value} (r:RelV (kV k) u):(mixKind P w).is k u=true:=by
  cases k with
  | inl i=>obtain ⟨t,e⟩:=(show ∃ t,u=Value.int i t from r); subst e; exact mixKind_int P w i t
  | inr x=>obtain ⟨t,e⟩:=(show ∃ t,u=Value.str x t from r); subst e; exact mixKind_str P w x t
theorem items_are {P:Program} {w:World}:∀ {ks:List Key} {us:List Value},Vals (ks.map kV) us→ItemsAre (mixKind P w) ks us
  | [],_,r=>by rw [List.map_nil] at r; cases r; exact .nil
  | k :: ks,_,r=>by
    rw [List.map_cons] at r
    cases r with
    | cons h t=>exact .cons (kV_is h) (items_are t)
abbrev KT (H:Hp):List (List Key×V)→List (List Key×Addr×Value)→Prop:=Paired fun p q=>p.1=q.1∧H q.2.1=some (.tup (p.1.map kV))∧RelV p.2 q.2.2
theorem KT.val {H:Hp} {kvs:List (List Key×V)} {xs:List (List Key×Addr×Value)} (r:KT H kvs xs) (k:List Key):RelO (valV kvs k) ((atKey xs k).map (·.2)):=by
  induction r with
  | nil=>exact True.intro
  | @cons p q ps qs h t ih =>
    obtain ⟨h1,_,h2⟩:=h
    by_cases e:p.1=k
    · have e':q.1=k:=h1.symm.trans e
      have b:atKey (q :: qs) k=some q.2:=by simp [atKey,List.find?_cons,e']
      rw [valV_pos e,b]; exact h2
    · have e':¬ q.1=k:=fun z=>e (h1.trans z)
      have b:atKey (q :: qs) k=atKey qs k:=by simp [atKey,List.find?_cons,e']
      rw [valV_neg e,b]; exact ih
section
variable {P:Program} {w:World} {H:Hp} {h:Heap} {a:Addr}
theorem rd_of {u:HO} (ok:HOk P w H h) (e:Rd H a u):ObjOk P w H h a u:=e.ok ok
theorem dk_rd {kvs:List (Key×V)} (ok:HOk P w H h) (e:Rd H a (.dK kvs)):kvs.length≤sizeLine∧(a == sysModules)=false∧∃ vs,KV kvs vs∧h.DictOf (mixKind P w) a vs:=
  show ObjOk P w H h a (.dK kvs) from rd_of ok e
theorem dk_of {kvs:List (Key×V)} (ok:HOk P w H h) (e:H a=some (.dK kvs)):kvs.length≤sizeLine∧(a == sysModules)=false∧∃ vs,KV kvs vs∧h.DictOf (mixKind P w) a vs:=dk_rd ok (.inl e)
theorem key_of {ks:List Key} (ok:HOk P w H h) (e:H a=some (.tup (ks.map kV))):(tupleKind (mixKind P w)).is h ks a:=by
  obtain ⟨_,its,r,o,h1,h2,n,h3⟩:=(show ObjOk P w H h a (.tup (ks.map kV)) from ok a _ e)
  exact ⟨o,its.toArray,n,h1,h2,h3,by simpa using items_are r⟩
theorem dt_rd {kvs:List (List Key×V)} (ok:HOk P w H h) (e:Rd H a (.dT kvs)):kvs.length≤sizeLine∧(a == sysModules)=false ∧
    ∃ xs,KT H kvs xs∧h.DictOfH (tupleKind (mixKind P w)) a xs:=by
  obtain ⟨z,y,xs,r,o,es,ep,h1,h2,h3,h4,h5⟩:=(show ObjOk P w H h a (.dT kvs) from rd_of ok e)
  refine ⟨z,y,xs,r,o,es,ep,h1,h2,h3,h4,fun x hx=>?_,h5⟩
  have all:∀ {l:List (List Key×V)} {m:List (List Key×Addr×Value)},KT H l m→∀ x∈m,(tupleKind (mixKind P w)).is h x.1 x.2.1:=by
    intro l m q
    induction q with
    | nil=>intro x hx; exact nomatch hx
    | @cons p q ps qs hq t ih =>
      intro x hx
      rcases List.mem_cons.mp hx with e | hx
      · subst e
        exact key_of ok (by rw [← hq.1]; exact hq.2.1)
      · exact ih x hx
  exact all r x hx
end
def DGet (H:Hp) (a:Addr) (y:V) (r:Option V):Prop:=
  (∃ kvs k,Rd H a (.dK kvs)∧y=kV k∧r=valV kvs k)∨∃ kvs k b,Rd H a (.dT kvs)∧y=.ref b∧H b=some (.tup (k.map kV))∧r=valV kvs k
def DPut (H:Hp) (a:Addr) (y v:V) (H':Hp):Prop:=
  (∃ kvs k,H a=some (.dK kvs)∧y=kV k∧kvs.length < sizeLine∧H'=upd H a (.dK (putK kvs k v))) ∨
  ∃ kvs k b,H a=some (.dT kvs)∧y=.ref b∧H b=some (.tup (k.map kV))∧kvs.length < sizeLine∧H'=upd H a (.dT (putK kvs k v))
section
variable {X:Cx} {pins:List (Addr×Obj)} {σ:St} {H:Hp} {s:Shared} {a:Addr} {y v:V} {u r:Value} {o:Option V} {A:Around} {E:Value→Shared→Prop}
theorem Inv.big (I:Inv X pins σ H s):sysModules < s.heap.objs.size:=by
  have h:mainGlobals < s.heap.objs.size:=(I.mod.glob.keeps I.bk).lt
  exact Nat.lt_trans (by decide) h
theorem d_getItem {Q:Value→Shared→Prop} (hu:A.units + 1 < cLine) (I:Inv X pins σ H s) (g:DGet H a y (some v)) (ry:RelV y u) (h:∀ w' s',Inv X pins σ H s'→RelV v w'→Q w' s') :
    wpAny (model X.prog X.w) A (getItem (.ref a) u) Q E s:=by
  rcases g with ⟨kvs,k,e,ey,l⟩ | ⟨kvs,k,b,e,ey,eb,l⟩
  · subst ey
    obtain ⟨z,hd,vs,rel,dd⟩:=dk_rd I.hok e
    obtain ⟨w',hw,rw'⟩:=RelO.some_of (v:=v) (o:=valueAt vs k) (by rw [l]; exact rel.val k)
    exact wpAny_getItem_of (kV_is ry) dd.mapOf hw (h w' _ (I.tok _) rw')
  · subst ey
    cases (show u=Value.ref b from ry)
    obtain ⟨z,hd,xs,rel,dd⟩:=dt_rd I.hok e
    obtain ⟨w',hw,rw'⟩:=RelO.some_of (v:=v) (o:=(atKey xs k).map (·.2)) (by rw [l]; exact rel.val k)
    obtain ⟨p,hp,hp2⟩:=Option.map_eq_some_iff.mp hw
    refine wpAny_getItem_heap (tupleKind_room_in1 hu) (key_of I.hok eb) dd hp ?_
    rw [hp2]
    exact h w' _ (I.tok _) rw'
theorem d_write {h':Heap} {t':Nat} {ob:HO} (I:Inv X pins σ H s) (mu:Mut (H a)) (hs:Heap.SameBut a s.heap h') (he:∃ q,h'.get? a=some q) (new:ObjOk X.prog X.w (upd H a ob) h' a ob) :
    Inv X pins σ (upd H a ob) {s with heap:=h',toks:=t'}:=
  I.write (x:=a) (e:=a) mu (.inl rfl) (fun b q hb z=>(hs.2 b hb).trans z) he new
theorem dk_new {P:Program} {w:World} {H':Hp} {h':Heap} {kvs:List (Key×V)} {vs:List (Key×Value)} (z:kvs.length≤sizeLine) (hd:(a == sysModules)=false) (rel:KV kvs vs) (dd:h'.DictOf (mixKind P w) a vs) :
    ObjOk P w H' h' a (.dK kvs):=⟨z,hd,vs,rel,dd⟩
end
section
variable {X:Cx} {pins:List (Addr×Obj)} {σ:St} {H:Hp} {s:Shared} {a:Addr} {kvs:List (Key×V)} {k:Key} {u:Value} {A:Around} {E:Value→Shared→Prop}
end
def NoSl (i:Expr):Prop:=∀ ov iv,subscripted i false ov iv=operate [ov,iv] (getItem ov iv)
theorem subD_of {prog:Program} {w:World} {A:Around} {E:Value→Shared→Prop} {s:Shared} {env:Env} {value slice:Expr} {pos:Pos} {T id:String} {Q:Value→Shared→Prop}
    (hl:typeLookup (.type T) "__getitem__"=pure (some (.builtin id))) (hs:NoSl slice)
    (h:wpAny (model prog w) A (eval value env) (fun o s₁=>wpAny (model prog w) A (eval slice env) (fun i s₂=>s₂.TypeIs o T∧wpAny (model prog w) A (getItem o i) Q E s₂) E s₁) E s) :
    wpAny (model prog w) A (eval (.Subscript value slice pos) env) Q E s:=by
  refine Subscript_ (wpAny_mono h (fun o s₁ h₁=>wpAny_mono h₁ (fun i s₂ h₂=>?_) fun _ _ x=>x) fun _ _ x=>x)
  obtain ⟨hT,h₂⟩:=h₂
  unfold subscriptTail
  refine wpAny_bind ?_
  rw [getitemInPython_of_ne hT.not_modules]
  refine wpAny_bind (wpAny_specialOf hT hl ?_)
  have fin:wpAny (model prog w) A (subscripted slice false o i) (fun r s₃=>wpAny (model prog w) A (letTemporaryGo value o r >>= fun _=>pure r) Q E s₃) E s₂:=by
    rw [hs o i]
    exact wpAny_operating (wpAny_mono h₂ (fun r s₃ h₃=>wpAny_bind (wpAny_letTemporaryGo (wpAny_pure h₃))) fun _ _ x=>x)
  first
    | exact wpAny_pure (wpAny_bind fin)
    | exact wpAny_bind (wpAny_pure (wpAny_bind fin))
    | exact wpAny_bind fin
theorem dict_typeIs {X:Cx} {pins:List (Addr×Obj)} {σ:St} {H:Hp} {s:Shared} {a:Addr} {y:V} {o:Option V} (I:Inv X pins σ H s) (g:DGet H a y o):s.TypeIs (.ref a) "dict":=by
  rcases g with ⟨kvs,k,e,_,_⟩ | ⟨kvs,k,b,e,_,_,_⟩
  · obtain ⟨_,_,vs,_,dd⟩:=dk_rd I.hok e
    exact dd.typeIs
  · obtain ⟨_,_,xs,_,dd⟩:=dt_rd I.hok e
    exact dd.typeIs
def tDGet (td ty:TE):TE:=fun σ H Q=>td σ H fun x H1=>ty σ H1 fun y H2=>∃ a v,x=.ref a∧DGet H2 a y (some v)∧Q v H2
def tDIn (ty td:TE):TE:=fun σ H Q=>ty σ H fun y H1=>td σ H1 fun x H2=>∃ a o,x=.ref a∧DGet H2 a y o∧Q (.bl o.isSome) H2
def tDNotIn (ty td:TE):TE:=fun σ H Q=>ty σ H fun y H1=>td σ H1 fun x H2=>∃ a o,x=.ref a∧DGet H2 a y o∧Q (.bl (!o.isSome)) H2
def sDPut (td ty tv:TE):TS:=fun D σ H=>tv σ H fun v H1=>td σ H1 fun x H2=>ty σ H2 fun y H3=>∃ a H4,x=.ref a∧DPut H3 a y v H4∧D.nx σ H4
def sDAug (td ty tv:TE) (rd:V→V→Hp→VK→Prop):TS:=fun D σ H=>td σ H fun x H1=>ty σ H1 fun y H2=>∃ a v,x=.ref a∧DGet H2 a y (some v) ∧
  tv σ H2 fun y2 H3=>rd v y2 H3 fun z H4=>∃ H5,DPut H4 a y z H5∧D.nx σ H5
def sDDel (td ty:TE):TS:=fun D σ H=>td σ H fun x H1=>ty σ H1 fun y H2=>∃ a kvs k,x=.ref a∧H2 a=some (.dK kvs)∧y=kV k∧(valV kvs k).isSome=true∧D.nx σ (upd H2 a (.dK (dropK kvs k)))
section
variable {X:Cx} {o i e value:Expr} {pos pos' tpos:Pos} {td ty tv:TE}
theorem pe_dget (hu:X.A.units + 1 < cLine) (ho:PE X o td) (hi:PE X i ty) (hs:NoSl i):PE X (.Subscript o i pos) (tDGet td ty):=by
  intro pins s σ H Q I h
  refine subD_of PySem.F.slot_dict_getitem.lookup hs (thn (ho pins s σ H _ I h) fun u s1 ⟨x,H1,I1,rx,q1⟩=>thn (hi pins s1 σ H1 _ I1 q1) fun iv s2 ⟨y,H2,I2,ry,a,v,ex,g,q2⟩=>?_)
  subst ex
  obtain rfl:u=Value.ref a:=rx
  exact ⟨dict_typeIs I2 g,d_getItem hu I2 g ry fun w' s3 I3 rw'=>⟨v,H2,I3,rw',q2⟩⟩
end
theorem dk_empty {P:Program} {w:World} {H:Hp} (h:Heap) (hb:sysModules < h.objs.size):ObjOk P w H (h.push {cls:=.type "dict",data:=.dict #[]}) h.objs.size (.dK []):=
  ⟨Nat.zero_le _,beq_eq_false_iff_ne.mpr (Ne.symm (Nat.ne_of_lt hb)),[],.nil,Heap.DictOf.new h⟩
def tDNewK:TE:=fun _ H Q=>∀ p,H p=none→Q (.ref p) (upd H p (.dK []))
def tDNewT:TE:=fun _ H Q=>∀ p,H p=none→Q (.ref p) (upd H p (.dT []))
section
variable {X:Cx} {pos:Pos}
end
def tPairs:List (TE×TE)→St→Hp→(List (V×V)→Hp→Prop)→Prop
  | [],_,H,Q=>Q [] H
  | (tk,tv) :: r,σ,H,Q=>tk σ H fun x H1=>tv σ H1 fun y H2=>tPairs r σ H2 fun ps H3=>Q ((x,y) :: ps) H3
abbrev VV:List (V×V)→List (Value×Value)→Prop:=Paired fun p q=>RelV p.1 q.1∧RelV p.2 q.2
def PPs (X:Cx) (pos:Pos) (keys:List (Option Expr)) (values:List Expr) (trs:List (TE×TE)):Prop:=
  ∀ (pins:List (Addr×Obj)) (s:Shared) (σ:St) (H:Hp) (Q:List (V×V)→Hp→Prop),Inv X pins σ H s→tPairs trs σ H Q →
    wpAny (model X.prog X.w) X.A (evalPairs (pairTrees keys values X.env pos)) (fun vs s'=>∃ ps H',Inv X pins σ H' s'∧VV ps vs∧Q ps H') X.xe s
theorem pps_nil {X:Cx} {pos:Pos}:PPs X pos [] [] []:=fun pins s σ H Q I h=>pairTrees_nil_walk ⟨[],H,I,.nil,h⟩
theorem pps_cons {X:Cx} {pos:Pos} {k v:Expr} {ks:List (Option Expr)} {vs:List Expr} {tk tv:TE} {trs:List (TE×TE)} (hk:PE X k tk) (hv:PE X v tv) (hr:PPs X pos ks vs trs) :
    PPs X pos (some k :: ks) (v :: vs) ((tk,tv) :: trs):=fun pins s σ H Q I h =>
  pairTrees_cons_walk (thn (hk pins s σ H _ I h) fun u s1 ⟨x,H1,I1,rx,q1⟩=>thn (hv pins s1 σ H1 _ I1 q1) fun w2 s2 ⟨y,H2,I2,ry,q2⟩ =>
    thn (hr pins s2 σ H2 _ I2 q2) fun ws s3 ⟨ps,H3,I3,rel,q3⟩=>⟨(x,y) :: ps,H3,I3,.cons ⟨rx,ry⟩ rel,q3⟩)
def mergeK (kvs more:List (Key×V)):List (Key×V):=more.foldl (fun acc kv=>putK acc kv.1 kv.2) kvs
theorem KV.merge:∀ {more:List (Key×V)} {rs:List (Key×Value)} {kvs:List (Key×V)} {vs:List (Key×Value)},KV more rs→KV kvs vs→KV (mergeK kvs more) (merged vs rs):=by
  intro more rs kvs vs r
  unfold KV at r
  induction r generalizing kvs vs with
  | nil=>intro q; exact q
  | @cons p q ps qs h t ih =>
    intro r0
    have e:KV (putK kvs p.1 p.2) (stored vs q.1 q.2):=by
      have:=r0.put p.1 h.2
      rw [← h.1]; exact this
    exact ih e
theorem length_mergeK:∀ (more kvs:List (Key×V)),(mergeK kvs more).length≤kvs.length + more.length
  | [],kvs=>by show kvs.length≤kvs.length + 0; omega
  | p :: r,kvs=>by
    have h1:=length_mergeK r (putK kvs p.1 p.2)
    have h2:=length_putK kvs p.1 p.2
    show (mergeK (putK kvs p.1 p.2) r).length≤_
    rw [List.length_cons]; omega
theorem carries_of {P:Program} {w:World}:∀ {kvs:List (Key×V)} {ws:List (Value×Value)},VV (kvs.map fun kv=>(kV kv.1,kv.2)) ws→∃ rs,Carries (mixKind P w) ws rs∧KV kvs rs
  | [],_,r=>by rw [List.map_nil] at r; cases r; exact ⟨[],True.intro,.nil⟩
  | p :: kvs,_,r=>by
    rw [List.map_cons] at r
    cases r with
    | @cons a b as bs h t =>
      obtain ⟨rs,c,q⟩:=carries_of (P:=P) (w:=w) t
      obtain ⟨b1,b2⟩:=b
      exact ⟨(p.1,b2) :: rs,⟨kV_is h.1,rfl,c⟩,.cons ⟨rfl,h.2⟩ q⟩
def tDisp (trs:List (TE×TE)):TE:=fun σ H Q=>∀ p,H p=none→tPairs trs σ (upd H p (.dK [])) fun ps H2=>H2 p=some (.dK [])∧∃ kvs:List (Key×V),ps=kvs.map (fun kv=>(kV kv.1,kv.2))∧kvs.length≤15∧Q (.ref p) (upd H2 p (.dK (mergeK [] kvs)))
theorem pe_disp {X:Cx} {pos:Pos} {keys:List (Option Expr)} {values:List Expr} {trs:List (TE×TE)} (h:PPs X pos keys values trs) (hall:keys.all (·.isSome)=true) (hl:keys.length=values.length) (h0:keys≠[])
    (h15:keys.length≤15):PE X (.Dict keys values pos) (tDisp trs):=by
  intro pins s σ H Q I q
  have hn:=I.hok.fresh (Nat.le_refl s.heap.objs.size)
  have I1:=I.laid (a:=s.heap.objs.size) (o:=.dK []) (h':=s.heap.push {cls:=.type "dict",data:=.dict #[]}) (t':=s.toks) (fun _ _ q=>Heap.get?_push_of_some _ q) (Nat.le_refl _) (dk_empty s.heap I.big)
  refine wpAny_Dict_walk (knd:=mixKind X.prog X.w) hall hl h0 h15 (thn (h pins _ σ _ _ I1 (q _ hn)) fun ws s2 ⟨ps,H2,I2,rel,e,kvs,ep,lk,q2⟩=>?_)
  subst ep
  obtain ⟨rs,c,rk⟩:=carries_of (P:=X.prog) (w:=X.w) rel
  obtain ⟨z,hd,vs0,r0,dd⟩:=dk_of I2.hok e
  cases r0
  refine ⟨rs,c,dd,fun h' dd' hs=>⟨.ref s.heap.objs.size,_,?_,rfl,q2⟩⟩
  have hz:(mergeK [] kvs).length≤sizeLine:=by
    have h1:=length_mergeK kvs []
    rw [List.length_nil] at h1
    rw [sizeLine_eq]; omega
  have he:∃ q,h'.get? s.heap.objs.size=some q:=let ⟨q,_,_,hq,_⟩:=dd'; ⟨q,hq⟩
  exact d_write I2 (by rw [e]; exact True.intro) hs he (dk_new hz hd (rk.merge .nil) dd')
structure M1 (X:Cx) (o:Expr) (m:Str) (apos:Pos) (e:Expr) (cpos:Pos):Prop where
  base:attributeBase o m X.env (eval o X.env)=eval o X.env
  few:((backTo cpos (starEach [e] X.env)).all (fun x=>!x.1) && (backToKw cpos (keywordEach [] X.env)).all (fun x=>x.1.isSome)
    && decide (([e]:List Expr).length + ([]:List Keyword).length + (if ([]:List Keyword).isEmpty then 0 else 1) < 30))=true
  line:(apos.endLine == cpos.line)=true
  trees:backTo cpos (starEach [e] X.env)=[(false,eval e X.env)]
structure M2 (X:Cx) (o:Expr) (m:Str) (apos:Pos) (e f:Expr) (cpos:Pos):Prop where
  base:attributeBase o m X.env (eval o X.env)=eval o X.env
  few:((backTo cpos (starEach [e,f] X.env)).all (fun x=>!x.1) && (backToKw cpos (keywordEach [] X.env)).all (fun x=>x.1.isSome)
    && decide (([e,f]:List Expr).length + ([]:List Keyword).length + (if ([]:List Keyword).isEmpty then 0 else 1) < 30))=true
  line:(apos.endLine == cpos.line)=true
  trees:backTo cpos (starEach [e,f] X.env)=[(false,eval e X.env),(false,eval f X.env)]
def IsD (H:Hp) (a:Addr):Prop:=(∃ kvs,Rd H a (.dK kvs))∨∃ kvs,Rd H a (.dT kvs)
section
variable {X:Cx} {pins:List (Addr×Obj)} {σ:St} {H:Hp} {s:Shared} {a:Addr} {y d:V} {u r:Value} {o:Option V} {A:Around} {E:Value→Shared→Prop}
end
def tDGet1 (td ty:TE):TE:=fun σ H Q=>td σ H fun x H1=>∃ a,x=.ref a∧IsD H1 a∧ty σ H1 fun y H2=>∃ o,DGet H2 a y o∧Q (o.getD .non) H2
def tDGet2 (td ty tx:TE):TE:=fun σ H Q=>td σ H fun x H1=>∃ a,x=.ref a∧IsD H1 a∧ty σ H1 fun y H2=>tx σ H2 fun z H3=>∃ o,DGet H3 a y o∧Q (o.getD z) H3
def tDPop1 (td ty:TE):TE:=fun σ H Q=>td σ H fun x H1=>∃ a,x=.ref a∧IsD H1 a∧ty σ H1 fun y H2=>∃ kvs k v,H2 a=some (.dK kvs)∧y=kV k∧valV kvs k=some v∧Q v (upd H2 a (.dK (dropK kvs k)))
def tDPop2 (td ty tx:TE):TE:=fun σ H Q=>td σ H fun x H1=>∃ a,x=.ref a∧IsD H1 a∧ty σ H1 fun y H2=>tx σ H2 fun z H3=>∃ kvs k,H3 a=some (.dK kvs)∧y=kV k ∧
  (∀ v,valV kvs k=some v→Q v (upd H3 a (.dK (dropK kvs k))))∧(valV kvs k=none→Q z H3)
section
variable {X:Cx} {o e f:Expr} {apos cpos:Pos} {td ty tx:TE}
end
section
variable {X:Cx} {pins:List (Addr×Obj)} {σ:St} {H:Hp} {s:Shared} {a:Addr} {kvs:List (Key×V)} {A:Around} {E:Value→Shared→Prop}
end
section
variable {X:Cx} {pins:List (Addr×Obj)} {σ:St} {H:Hp} {s:Shared} {a:Addr} {y:V} {u:Value} {A:Around} {E:Value→Shared→Prop}
end
end L2
namespace L2
open PySem PySem.Spec PyProof.Rows
section
variable {X:Cx}
end
section
variable {κ:Type} [DecidableEq κ]
end
end L2
set_option maxHeartbeats 4000000
namespace L2
open PySem PySem.Spec PyProof.Rows
def FlD (B:Heap) (l:List Env) (e:Addr) (cls fl:Value) (h:Heap):Prop:=
  B.StaysIn h∧B.get? e=none∧h.FunFrames B l∧∃ oe vs T oT ts,h.get? e=some oe∧oe.cls=cls∧oe.dict=none∧oe.data=.fields vs∧vs[1]?=some (.ref T)∧B.get? T=none∧T≠e∧h.get? T=some oT∧oT.data=.fields ts∧ts[3]?=some fl
section
variable {M:Model} {A:Around} {E:Value→Shared→Prop} {s:Shared} {B:Heap} {env:Env} {outer l:List Env} {L e:Addr} {cls fl:Value} {Q:Unit→Shared→Prop}
end
def Fly (B:Heap) (stk:List Env) (ea C:Addr) (h:Heap):Prop:=FlD B stk ea (.ref C) .none h
def CXo (P:Program) (w:World):CXT:=fun outer H s E e s' =>
  ∃ (ea C:Addr) (H':Hp) (B:Heap),e=.ref ea∧E (.ref C) none H'∧s'.os=s.os∧AllBare s'.gens∧Un (frs outer) [] H H' s.heap s'.heap∧HOk P w H' s'.heap∧Fly B outer ea C s'.heap ∧
    ∀ b o,(H' b≠none∨∃ o',s.heap.get? b=some o')→b∉frs outer→s'.heap.get? b=some o→B.get? b=some o
section
variable {X:Cx} {pins:List (Addr×Obj)} {σ:St} {H:Hp} {s:Shared} {E E':XK}
structure BodyX (X:Cx) (E:XK):Prop where
  stk:X.stack=X.env :: X.outer
  fr:X.env.frame=some X.env.locals
  ex:X.ex=[]
  xe:X.xe=fun e s'=>wpAny (model X.prog X.w) X.A (leaving X.env e) (fun _ s''=>CXo X.prog X.w X.outer X.H₀ X.s₀ E e s'') (fun e' s''=>CXo X.prog X.w X.outer X.H₀ X.s₀ E e' s'') s'
end
section
variable {X:Cx} {E:XK} {x:Str} {C:Addr} {np cpos pos:Pos} {e₀:Expr} {rest:List Expr} {ta:TA} {K:PySem.W.Frag} {h:Heap}
def vErr:List Value:=[.type "ValueError",.type "Exception",.type "BaseException",.type "object"]
def tRaise (C:Addr) (E:XK) (ta:TA):TS:=fun _ σ H=>ta σ H fun vs H1=>vs.length≤sizeLine∧E (.ref C) none H1
end
section
variable {X:Cx} {pins:List (Addr×Obj)} {σ:St} {H:Hp} {s:Shared} {T:Addr→St→Hp→Prop}
def Tcov (X:Cx) (pins:List (Addr×Obj)) (H:Hp) (B h:Heap):Prop:=
  ∀ b o,(H b≠none∨(b∉X.ex∧∃ o',X.s₀.heap.get? b=some o')∨∃ p∈X.pn++pins,p.1=b)→b∉frs X.stack→h.get? b=some o→B.get? b=some o
def tryW (X:Cx) (pins:List (Addr×Obj)) (T:Addr→St→Hp→Prop):Value→Shared→Prop:=fun e s' =>
  ∃ ea C B σ H,e=.ref ea∧Inv X pins σ H s'∧Fly B X.stack ea C s'.heap∧Tcov X pins H B s'.heap∧T C σ H
abbrev Cx.tr (X:Cx) (pins:List (Addr×Obj)) (T:Addr→St→Hp→Prop):Cx:={X with xe:=tryW X pins T,pn:=X.pn++pins}
abbrev Cx.hdl (X:Cx) (ea:Addr):Cx:={X with A:=X.A.mark (some (.ref ea)),calm:=false,xe:=fun _ _=>False}
abbrev TH:=Addr→TS
def PHs (X:Cx) (hs:List ExceptHandler) (th:TH):Prop:=
  ∀ (pins:List (Addr×Obj)) (s:Shared) (σ:St) (H:Hp) (D:Ends) (ea C:Addr) (B:Heap),Inv X pins σ H s→Fly B X.stack ea C s.heap→Tcov X pins H B s.heap→th C D σ H →
    wpAny (model X.prog X.w) X.A (handleBy (.ref ea) X.env hs) (SP X pins D) X.xe s
def thNil:TH:=fun _ _ _ _=>False
def thCons (K:PySem.W.Frag) (Ci:Addr) (t:TS) (th:TH):TH:=fun C D σ H =>
  (PySem.W.exmOne K (.ref C) (.ref Ci)=some true∧t D σ H)∨(PySem.W.exmOne K (.ref C) (.ref Ci)=some false∧th C D σ H)
def tTry (T:Addr→St→Hp→Prop) (tb:TS) (th:TH):TS:=fun D σ H=>tb D σ H∧∀ C σ' H',σ'.length=σ.length→T C σ' H'→th C D σ' H'
def PassesS (CX:CXT) (X:Cx) (E:St→XK):Prop:=∀ (pins:List (Addr×Obj)) (σ:St) (H:Hp) (s:Shared) (e:Value) (s':Shared),Inv X pins σ H s→CX X.stack H s (E σ) e s'→X.xe e s'
def tryE (T:Addr→St→Hp→Prop):St→XK:=fun σ c _ H=>∃ C,c=.ref C∧T C σ H
def tCallS (sp:Sp) (E:St→XK) (t:TA):TE:=fun σ H Q=>t σ H fun vs H1=>sp vs H1 Q (E σ)
variable {CX:CXT} {k:Nat} {f:Addr} {fd:FuncData} {ps:List Str} {sp:Sp} {E:St→XK} {x:Str} {p pos:Pos} {e:Expr} {es:List Expr} {t:TA}
end
end L2
namespace L2
open PySem PySem.Spec PyProof.Rows
theorem compLoop_any {prog:Program} {w:World} {A:Around} {R:Result→Shared→Prop} {s:Shared} {elt target iter:Expr} {ifs:List Expr} {scope:Scope} {pos:Pos} {it acc:Value} {env:Env} (J:Nat→Shared→Prop)
    (turn:∀ n s,J n s→wpAny (model prog w) A (pyNext it) (fun r s1=>match r with
      | none=>R (.ok .next) s1
      | some v=>wpAny (model prog w) A (letOwnedTupleGo target it v) (fun _ s2=>wpAny (model prog w) A (assign target env v) (fun _ s3 =>
          wpAny (model prog w) A (forIn ifs true fun c r=>if r=true then do let ok ← isTrue c env (eval c env); pure (ForInStep.yield ok) else pure (ForInStep.yield r)) (fun ok s4 =>
            if ok=true then wpAny (model prog w) A (eval elt env) (fun x s5=>wpAny (model prog w) A (call (.builtin "list.append") [acc,x]) (fun _ s6=>∃ m,m < n∧J m s6) (fun _ _=>False) s5) (fun _ _=>False) s4
            else ∃ m,m < n∧J m s4) (fun _ _=>False) s3) (fun _ _=>False) s2) (fun _ _=>False) s1) (fun _ _=>False) s)
    (n:Nat) (h:J n s):codeAny (model prog w) A (.compLoop (.ListComp elt [⟨target,iter,ifs,0⟩] scope pos) 0 it acc env) R s:=by
  refine codeAny_loop rfl J (fun n s hI=>?_) n h
  show wpAny _ A ((compTurn (.ListComp elt [⟨target,iter,ifs,0⟩] scope pos) 0 it acc env).onRaise
    (fun x=>do noteFrame x env; theTreesLotGoes x)) _ _ s
  refine wpAny_noted ?_
  rw [compTurn_list]
  refine wpAny_bind (wpAny_standAt (wpAny_bind (wpAny_mono (turn n s hI) (fun r s1 h1=>?_) fun _ _ z=>z.elim)))
  cases r with
  | none=>exact wpAny_pure h1
  | some v =>
    refine wpAny_bind (wpAny_mono h1 (fun _ s2 h2=>?_) fun _ _ z=>z.elim)
    refine wpAny_bind (wpAny_mono h2 (fun _ s3 h3=>?_) fun _ _ z=>z.elim)
    refine wpAny_bind (wpAny_mono h3 (fun ok s4 h4=>?_) fun _ _ z=>z.elim)
    cases ok with
    | false=>exact wpAny_pure ⟨rfl,h4⟩
    | true =>
      refine wpAny_bind (wpAny_bind (wpAny_mono h4 (fun x s5 h5=>?_) fun _ _ z=>z.elim))
      exact wpAny_bind (wpAny_mono h5 (fun _ s6 h6=>wpAny_pure (wpAny_pure ⟨rfl,h6⟩)) fun _ _ z=>z.elim)
theorem rl_local {env:Env}:∀ {names:List (Str×NameKind)} {x:Str},
    (names.map fun (n,k)=>if (k == NameKind.free && env.scope.kind == .function && env.kindOf n == some .cell) then (n,NameKind.cell) else (n,k)).lookup x=some .local→names.lookup x=some .local
  | [],_,h=>by simp at h
  | (n,k) :: r,x,h=>by
    have ih:=@rl_local env r x
    rw [List.map_cons] at h
    dsimp only at h
    by_cases hc:(k == NameKind.free && env.scope.kind == .function && env.kindOf n == some .cell)=true
    · rw [if_pos hc] at h
      cases hx:x == n with
      | true=>simp [List.lookup_cons,hx] at h
      | false =>
        simp only [List.lookup_cons,hx] at h ⊢
        exact ih h
    · rw [if_neg hc] at h
      cases hx:x == n with
      | true =>
        simp only [List.lookup_cons,hx] at h ⊢
        exact h
      | false =>
        simp only [List.lookup_cons,hx] at h ⊢
        exact ih h
theorem rl_far {env:Env}:∀ {names:List (Str×NameKind)} {x:Str},
    ((names.map fun (n,k)=>if (k == NameKind.free && env.scope.kind == .function && env.kindOf n == some .cell) then (n,NameKind.cell) else (n,k)).lookup x=some .cell ∨
     (names.map fun (n,k)=>if (k == NameKind.free && env.scope.kind == .function && env.kindOf n == some .cell) then (n,NameKind.cell) else (n,k)).lookup x=some .free)→names.lookup x=some .cell∨names.lookup x=some .free
  | [],_,h=>by simp at h
  | (n,k) :: r,x,h=>by
    have ih:=@rl_far env r x
    rw [List.map_cons] at h
    dsimp only at h
    by_cases hc:(k == NameKind.free && env.scope.kind == .function && env.kindOf n == some .cell)=true
    · rw [if_pos hc] at h
      have hk:k=.free:=by
        have z:=(Bool.and_eq_true_iff.mp (Bool.and_eq_true_iff.mp hc).1).1
        exact eq_of_beq z
      cases hx:x == n with
      | true =>
        simp only [List.lookup_cons,hx]
        rw [hk]
        exact .inr rfl
      | false =>
        simp only [List.lookup_cons,hx] at h ⊢
        exact ih h
    · rw [if_neg hc] at h
      cases hx:x == n with
      | true =>
        simp only [List.lookup_cons,hx] at h ⊢
        exact h
      | false =>
        simp only [List.lookup_cons,hx] at h ⊢
        exact ih h
def clOf (env:Env):List (Str×NameKind)→List (Str×Addr)→List (Str×Addr)
  | [],cs=>cs
  | (n,k) :: r,cs=>clOf env r (if k=.free then (match env.cells.lookup n with | some c=>(n,c) :: cs | none=>cs) else cs)
theorem clOf_for {env:Env}:∀ (names:List (Str×NameKind)) (cs:List (Str×Addr)),(∀ y∈names,y.2=.free→∃ c,env.cells.lookup y.1=some c) →
    (forIn names cs fun x r=>(do
      if (x.2 == NameKind.free)=true then do
        let c ← cellOf env x.1
        pure (ForInStep.yield ((x.1,c) :: r))
      else pure (ForInStep.yield r):Sem (ForInStep (List (Str×Addr)))))=(pure (clOf env names cs):Sem (List (Str×Addr)))
  | [],cs,_=>rfl
  | (n,k) :: r,cs,h=>by
    have ih:=fun cs'=>clOf_for r cs' (fun y hy=>h y (List.mem_cons_of_mem _ hy))
    rw [List.forIn_cons]
    by_cases hk:k=.free
    · subst hk
      obtain ⟨c,hc⟩:=h _ List.mem_cons_self rfl
      have e1:cellOf env n=pure c:=by
        unfold cellOf
        rw [show env.cells.lookup n=some c from hc]
      have e2:clOf env ((n,.free) :: r) cs=clOf env r ((n,c) :: cs):=by
        show clOf env r (if NameKind.free=.free then (match env.cells.lookup n with | some c=>(n,c) :: cs | none=>cs) else cs)=_
        rw [if_pos rfl,show env.cells.lookup n=some c from hc]
      rw [e2,← ih]
      simp [e1]
    · have e2:clOf env ((n,k) :: r) cs=clOf env r cs:=by
        show clOf env r (if k=.free then _ else cs)=_
        rw [if_neg hk]
      rw [e2,← ih]
      have e3:(k == NameKind.free)=false:=by
        cases k <;> first | rfl | exact absurd rfl hk
      simp [e3]
theorem clOf_sub {env:Env}:∀ {names:List (Str×NameKind)} {cs:List (Str×Addr)} {n:Str} {c:Addr},(∀ n c,cs.lookup n=some c→env.cells.lookup n=some c)→(clOf env names cs).lookup n=some c→env.cells.lookup n=some c
  | [],_,_,_,h,e=>h _ _ e
  | (m,k) :: r,cs,n,c,h,e=>by
    refine clOf_sub (names:=r) (fun n' c' e'=>?_) e
    by_cases hk:k=.free
    · rw [if_pos hk] at e'
      cases hm:env.cells.lookup m with
      | none =>
        rw [hm] at e'
        exact h _ _ e'
      | some d =>
        rw [hm] at e'
        dsimp only at e'
        rw [List.lookup_cons] at e'
        split at e'
        · rename_i z
          rw [eq_of_beq z,hm]
          exact e'
        · exact h _ _ e'
    · rw [if_neg hk] at e'
      exact h _ _ e'
theorem clOf_more {env:Env}:∀ (names:List (Str×NameKind)) (cs:List (Str×Addr)) (n:Str),(∃ c,cs.lookup n=some c)→∃ c,(clOf env names cs).lookup n=some c
  | [],_,_,h=>h
  | (m,k) :: r,cs,n,h=>by
    refine clOf_more r _ n ?_
    by_cases hk:k=.free
    · rw [if_pos hk]
      cases hm:env.cells.lookup m with
      | none=>exact h
      | some d =>
        dsimp only
        rw [List.lookup_cons]
        split
        · exact ⟨_,rfl⟩
        · exact h
    · rw [if_neg hk]
      exact h
theorem clOf_has {env:Env}:∀ {names:List (Str×NameKind)} {cs:List (Str×Addr)} {n:Str},(n,NameKind.free)∈names→(∃ c,env.cells.lookup n=some c)→∃ c,(clOf env names cs).lookup n=some c
  | [],_,_,h,_=>by cases h
  | (m,k) :: r,cs,n,h,hc=>by
    rcases List.mem_cons.mp h with e | e
    · obtain ⟨e1,e2⟩:=Prod.mk.inj e
      subst e1 e2
      obtain ⟨c,hc⟩:=hc
      refine clOf_more r _ n ⟨c,?_⟩
      rw [if_pos rfl,hc]
      dsimp only
      rw [List.lookup_cons,beq_self_eq_true]
    · exact clOf_has (names:=r) e hc
structure CompOk (X:Cx) (scope:Scope) (NN:List Str):Prop where
  nocell:∀ y∈scope.names,y.2≠.cell
  kind:scope.kind=.function
  names:∀ y∈scope.names,y.2=.local→scope.names.lookup y.1=some .local
  far:∀ y∈scope.names,y.2=.free→X.env.kindOf y.1=some .cell∨X.env.kindOf y.1=some .free
  len:NN.length=X.N.length
  apart:∀ (i:Nat) (n:Str),NN[i]?=some n→scope.names.lookup n≠some .local∧(X.N[i]?=some n∨scope.names.lookup n=none)
theorem CompOk.open {X:Cx} {scope:Scope} {NN N:List Str} {sc:Scope} (hN:X.N=N) (hsc:X.env.scope=sc) (hc:∀ y∈scope.names,y.2≠.cell) (hk:scope.kind=.function) (hn:∀ y∈scope.names,y.2=.local→scope.names.lookup y.1=some .local)
    (hf:∀ y∈scope.names,y.2=.free→sc.names.lookup y.1=some .cell) (hl:NN.length=N.length) (ha:∀ p∈NN.zip N,scope.names.lookup p.1≠some .local∧(p.2=p.1∨scope.names.lookup p.1=none)):CompOk X scope NN where
  nocell:=hc
  kind:=hk
  names:=hn
  far:=fun y hy e=>.inl (by have z:=hf y hy e; rw [← hsc] at z; exact z)
  len:=by rw [hN]; exact hl
  apart:=fun i n e=>by
    have lt:i < N.length:=by rw [← hl]; exact (List.getElem?_eq_some_iff.mp e).1
    have e2:N[i]?=some N[i]:=List.getElem?_eq_getElem lt
    have z:=ha (n,N[i]) (List.mem_of_getElem? (i:=i) (by rw [List.getElem?_zip_eq_some]; exact ⟨e,e2⟩))
    refine ⟨z.1,?_⟩
    rcases z.2 with z | z
    · left
      rw [hN,e2]
      exact congrArg some z
    · exact .inr z
abbrev cxC (X:Cx) (scope:Scope) (NL:List Str) (fp:List Addr) (s₂:Shared) (H₂:Hp) (C:Addr):Cx:=
  {X with N:=NL,s₀:=s₂,H₀:=H₂,env:=compEnvC scope (clOf X.env scope.names []) C X.env,outer:=X.stack,ex:=fp,fn:=fun _=>false,pn:=[],xe:=fun _ _=>False}
def PTs (X:Cx) (ifs:List Expr) (t:TT):Prop:=
  ∀ (pins:List (Addr×Obj)) (s:Shared) (σ:St) (H:Hp) (Q:Bool→Hp→Prop),Inv X pins σ H s→t σ H Q →
    wpAny (model X.prog X.w) X.A (forIn ifs true fun c r=>if r=true then do let ok ← isTrue c X.env (eval c X.env); pure (ForInStep.yield ok) else pure (ForInStep.yield r)) (TP X pins σ Q) X.xe s
def tAll:TT:=fun _ H Q=>Q true H
theorem pts_nil {X:Cx}:PTs X [] tAll:=fun pins s σ H Q I h=>wpAny_tests_nil ⟨H,I,h⟩
def tComp (n:Nat) (wi:TI) (g:TG) (tc:TT) (te:TE):TE:=fun σ H Q=>wi σ H fun J H1=>∃ W:Nat→Nat→List V→Hp→Prop,(∃ m,W 0 m [] H1)∧∀ i m ys H,W i m ys H→ys.length < sizeLine ∧
  ((J.stop i H∧∀ p,H p=none→Q (.ref p) (upd H p (.lst ys))) ∨
   (J.go i H∧∃ N:List V→Hp→Prop,(∀ ys' H',N ys' H'→∃ m',m' < m∧W (i + 1) m' ys' H')∧∀ x H',J.yld i H x H'→g x (List.replicate n none++σ) H' fun σ2 H2=>σ2.drop n=σ∧tc σ2 H2 fun b H3 =>
      if b=true then te σ2 H3 fun y H4=>N (ys++[y]) H4 else N ys H3))
section
variable {X:Cx}
theorem drop_get {σ σ2:St} {n:Nat} (h:σ2.drop n=σ) (i:Nat) (v:V) (e:(List.replicate n none++σ)[i]?=some (some v)):σ2[i]?=some (some v):=by
  by_cases hi:i < n
  · rw [List.getElem?_append_left (by simpa using hi),List.getElem?_replicate,if_pos hi] at e
    cases e
  · rw [List.getElem?_append_right (by simpa using hi),List.length_replicate] at e
    rw [← h,List.getElem?_drop] at e
    rw [show n + (i - n)=i by omega] at e
    exact e
theorem comp_gen {elt target iter:Expr} {ifs:List Expr} {scope:Scope} {NN:List Str} {pos pos':Pos} {wi:TI} {g:TG} {tc:TT} {te:TE} {use:Option (Value→Sem Unit)} {Qv:Value→Shared→Prop} (own:List Str) (ok:CompOk X scope NN) (hc:X.calm=true) (hi:PI X target iter wi)
    (hg:∀ fp s₂ H₂ C,PG (cxC X scope (own++NN) fp s₂ H₂ C) target g) (ht:∀ fp s₂ H₂ C,PTs (cxC X scope (own++NN) fp s₂ H₂ C) ifs tc) (he:∀ fp s₂ H₂ C,PE (cxC X scope (own++NN) fp s₂ H₂ C) elt te)
    (hs:∀ x,foldedSetIterable iter X.env x=pure x) {pins:List (Addr×Obj)} {s:Shared} {σ:St} {H:Hp} {Q:VK} (I:Inv X pins σ H s) (h:tComp own.length wi g tc te σ H Q)
    (hfin:∀ (s4:Shared) (C D:Addr) (H':Hp) (m:Str→Option Value),s4.heap.Ns C m→Inv X pins σ H' s4→H' C=none→C≠X.env.locals→X.s₀.heap.objs.size≤C→(∀ x c,X.env.cells.lookup x=some c→c≠C)→(∀ p∈X.pn++pins,p.1≠C)→Q (.ref D) H' →
      compPost (model X.prog X.w) X.A X.xe use Qv (.ref D) C (.ok .next) s4) :
    wpAny (model X.prog X.w) X.A (comprehension (.ListComp elt [⟨target,iter,ifs,0⟩] scope pos) scope X.env pos' (newList []) false (eval iter X.env) use) Qv X.xe s:=by
  have hfr:∀ y∈scope.names,y.2=.free→∃ c,X.env.cells.lookup y.1=some c:=fun y hy e=>I.ok.has _ (ok.far y hy e)
  have okclos:closureFor scope X.env=pure (clOf X.env scope.names []):=by
    unfold closureFor
    rw [← clOf_for scope.names [] hfr]
    simp
  have oksub:∀ n c,(clOf X.env scope.names []).lookup n=some c→X.env.cells.lookup n=some c:=fun n c e=>clOf_sub (fun n c e=>by simp at e) e
  have okfar:∀ n,(scope.names.lookup n=some .cell∨scope.names.lookup n=some .free)→(∃ c,(clOf X.env scope.names []).lookup n=some c)∧(X.env.kindOf n=some .cell∨X.env.kindOf n=some .free):=fun n e=>by
    rcases e with e | e
    · exact absurd rfl (ok.nocell _ (PySem.mem_of_lookup e))
    · have m:=PySem.mem_of_lookup e
      exact ⟨clOf_has m (hfr _ m rfl),ok.far _ m rfl⟩
  refine wpAny_comprehension_free (use:=use) rfl hs okclos ok.kind ok.names (thn (hi pins s σ H _ I h) fun xv s1 h1=>thn h1 fun itv s2 h2=>?_)
  obtain ⟨it,fp,tn,J,H2,e,I2,T,st2,f2,W,⟨m0,w0⟩,turn⟩:=h2
  subst e
  have fpLt:∀ b∈fp,b < s2.heap.objs.size:=fun b hb=>by
    obtain ⟨o,e,_⟩:=T.obj _ _ st2 b hb
    exact Heap.lt_size e
  refine wpAny_newObj_type (wpAny_newFunctionEnv ok.nocell (by intro y hy; simp at hy) (fun h1 hns hsb=>?_) ok.kind)
  dsimp only at hns hsb ⊢
  generalize hP:s2.heap.push {cls:=.type "list",dict:=none,data:=.seq ([]:List Value).toArray}=P at hns hsb ⊢
  have hC:P.objs.size=s2.heap.objs.size + 1:=by rw [← hP,Heap.size_push]
  have hDC:s2.heap.objs.size≠P.objs.size:=by rw [hC]; exact Nat.ne_of_lt (Nat.lt_succ_self _)
  have leC:s2.heap.objs.size≤P.objs.size:=by rw [hC]; exact Nat.le_succ _
  have old:∀ b o,s2.heap.get? b=some o→h1.get? b=some o:=fun b o e =>
    hsb.extBut b o (by rw [hC]; exact Nat.ne_of_lt (Nat.lt_succ_of_lt (Heap.lt_size e))) (Heap.get?_push_of_some _ (hP ▸ Heap.get?_push_of_some _ e))
  have accAt:h1.get? s2.heap.objs.size=some {cls:=.type "list",data:=.seq ([]:List Value).toArray 0}:=hsb.extBut _ _ hDC (Heap.get?_push_of_some _ (hP ▸ Heap.get?_push_size _ rfl))
  -- the block's context is well made
  have okC:(cxC X scope (own++NN) fp s2 H2 P.objs.size).Ok:=by
    refine ⟨I.ok.mod,ok.kind,I.ok.glob,I.ok.blt,by show s2.heap.objs.size≤P.objs.size; omega,fun y z c a b=>I.ok.inj y z c (oksub _ _ a) (oksub _ _ b),fun y hy=>(okfar y (rl_far hy)).1,fun y c z _=>Bool.noConfusion z,I.ok.hd,I.ok.frames,.inl rfl,
      fun b hb=>⟨fun z=>?_,fun y c e=>(f2 b hb).2.2.2.2.1 y c (oksub _ _ e)⟩,I2.bs,Nat.le_trans I.ok.bsz I2.sz,fun b o e hb=>?_,fun b hb z=>?_,I2.stack,I2.stkFree⟩
    · exact Nat.ne_of_lt (Nat.lt_of_lt_of_le (fpLt b hb) leC) z
    · rcases (f2 b hb).2.2.2.1 with q | q
      · exact I.ok.noex b o e q
      · exact absurd (Nat.lt_of_lt_of_le (Heap.lt_size e) (Nat.le_trans I.ok.bsz q)) (Nat.lt_irrefl _)
    · rcases List.mem_cons.mp (I2.stkSub b z) with q | q
      · exact (f2 b hb).2.1 q
      · exact (f2 b hb).2.2.1 q
  have fpOk:∀ {H':Hp} {o:Obj},(∀ b∈fp,H' b=none)→∀ b∈fp,FpOk (cxC X scope (own++NN) fp s2 H2 P.objs.size) [(s2.heap.objs.size,o)] H' b:=fun {H' o} hn b hb=>by
    have lt:=fpLt b hb
    refine ⟨hn b hb,fun z=>?_,fun z=>okC.exfs b hb z,.inl hb,fun y c e=>(okC.exf b hb).2 y c e,fun p hp z=>?_⟩
    · exact Nat.ne_of_lt (Nat.lt_of_lt_of_le lt leC) z
    · have hp':p=(s2.heap.objs.size,o):=by simpa using hp
      subst hp'
      exact Nat.ne_of_lt lt (Eq.symm z)
  have cellNe:∀ y c,(clOf X.env scope.names []).lookup y=some c→c < s2.heap.objs.size:=fun y c e=>by
    obtain ⟨v,q⟩:=I2.cell y c (oksub _ _ e)
    exact q.lt
  have start:Inv (cxC X scope (own++NN) fp s2 H2 P.objs.size) [] (List.replicate own.length none++σ) H2 {s2 with heap:=h1,toks:=s2.toks + ([]:List (Str×Value)).length}:=by
    refine ⟨okC,rfl,I2.bare,Un.kept old,⟨_,hns,fun i y v e1 e2 e3=>?_⟩,fun y c e=>?_,I2.hok.fresh (by show s2.heap.objs.size≤P.objs.size; omega),fun y c e=>I2.freeC y c (oksub _ _ e),fun p hp=>absurd (show p∈([]:List (Addr×Obj)) from by simpa using hp) (by simp),I2.hok.kept old,?_⟩
    · by_cases hi:i < own.length
      · rw [List.getElem?_append_left (by simpa using hi),List.getElem?_replicate,if_pos hi] at e2
        cases e2
      · have e1n:NN[i - own.length]?=some y:=by
          have z:(own++NN)[i]?=some y:=e1
          rw [List.getElem?_append_right (by omega)] at z
          exact z
        rw [List.getElem?_append_right (by simpa using hi),List.length_replicate] at e2
        obtain ⟨ap1,ap2⟩:=ok.apart _ y e1n
        rcases e3 with e3 | e3
        · exact absurd (rl_local e3) ap1
        · obtain ⟨⟨c,hcl⟩,kc⟩:=okfar y (rl_far e3)
          have e1':X.N[i - own.length]?=some y:=by
            rcases ap2 with z | z
            · exact z
            · rcases rl_far e3 with q | q <;> (rw [z] at q; cases q)
          obtain ⟨m,hn,hl⟩:=I2.loc
          obtain ⟨u,r,l⟩:=hl (i - own.length) y v e1' e2 (.inr kc)
          refine ⟨u,r,.inr ⟨e3,c,hcl,?_⟩⟩
          rcases l with ⟨l,_⟩ | ⟨_,c',e',q⟩
          · rcases kc with kc | kc <;> (rw [l] at kc; cases kc)
          · rw [oksub _ _ hcl] at e'
            cases e'
            exact q.keeps old
    · obtain ⟨v,q⟩:=I2.cell y c (oksub _ _ e)
      exact ⟨v,q.keeps old⟩
    · show (List.replicate own.length none++σ).length=(own++NN).length
      rw [List.length_append,List.length_append,List.length_replicate,I2.len,ok.len]
  have nDC:s2.heap.objs.size≠P.objs.size:=hDC
  have nDf:s2.heap.objs.size∉frs X.stack:=fun z=>by
    rcases List.mem_cons.mp (I2.stkSub _ z) with q | q
    · exact Nat.ne_of_lt I2.lt (Eq.symm q)
    · exact I2.nofs (Nat.le_refl _) q
  have loop:∀ s₃:Shared,s₃={s2 with heap:=h1,toks:=s2.toks + ([]:List (Str×Value)).length} →
      codeAny (model X.prog X.w) X.A (.compLoop (.ListComp elt [⟨target,iter,ifs,0⟩] scope pos) 0 (.ref it) (.ref s2.heap.objs.size) (compEnvC scope (clOf X.env scope.names []) P.objs.size X.env))
        (compPost (model X.prog X.w) X.A X.xe use Qv (.ref s2.heap.objs.size) P.objs.size) s₃:=by
    rintro s₃ rfl
    refine compLoop_any (fun n s'=>∃ (i:Nat) (ys:List V) (H':Hp) (its:List Value) (k:Nat),Inv (cxC X scope (own++NN) fp s2 H2 P.objs.size) [] (List.replicate own.length none++σ) H' s'∧tn i s'.heap∧(∀ b∈fp,H' b=none)∧H' s2.heap.objs.size=none∧Vals ys its ∧
      s'.heap.get? s2.heap.objs.size=some {cls:=.type "list",data:=.seq its.toArray k}∧W i n ys H') ?_ m0
      ⟨0,[],H2,[],0,start,T.keep _ _ _ st2 (fun b _ o e=>old b o e),fun b hb=>(f2 b hb).1,I2.hok.fresh (Nat.le_refl _),.nil,accAt,w0⟩
    rintro n s3 ⟨i,ys,H3,its,k,I3,st3,fr3,nD,rv,hD,w3⟩
    have Ip:Inv (cxC X scope (own++NN) fp s2 H2 P.objs.size) [(s2.heap.objs.size,{cls:=.type "list",data:=.seq its.toArray k})] (List.replicate own.length none++σ) H3 s3:=I3.pins_of fun p hp=>by
      have hp':p=(s2.heap.objs.size,{cls:=.type "list",data:=.seq its.toArray k}):=by simpa using hp
      subst hp'
      exact ⟨hD,nD,nDC,nDf,fun v z=>by cases z⟩
    obtain ⟨hl,hw⟩:=turn i n ys H3 w3
    rcases hw with ⟨stop,fin⟩ | ⟨go,N,hN,step⟩
    · refine thn (T.done (cxC X scope (own++NN) fp s2 H2 P.objs.size) rfl rfl rfl hc i _ s3 _ H3 _ Ip (fpOk fr3) st3 stop) fun r s4 z=>?_
      obtain ⟨hr,I4⟩:=z
      subst hr
      obtain ⟨m,hn,_⟩:=I4.loc
      have hD4:s4.heap.get? s2.heap.objs.size=some {cls:=.type "list",data:=.seq its.toArray k}:=(I4.pin _ (List.mem_append_right _ List.mem_cons_self)).1
      obtain ⟨h',eh'⟩:∃ h',h'=s4.heap:=⟨_,rfl⟩
      have sb':∀ b o,b≠P.objs.size→s4.heap.get? b=some o→h'.get? b=some o:=fun b o hb e=>by rw [eh']; exact e
      have oldNe:∀ b o,s2.heap.get? b=some o→b≠P.objs.size∧b≠s2.heap.objs.size:=fun b o e=>by
        have lt:=Heap.lt_size e
        exact ⟨Nat.ne_of_lt (Nat.lt_of_lt_of_le lt leC),Nat.ne_of_lt lt⟩
      have trNe:∀ b u,H3 b=some u→b≠P.objs.size∧b≠s2.heap.objs.size:=fun b u e=>by
        refine ⟨fun z=>?_,fun z=>?_⟩
        · have q:H3 P.objs.size=none:=I4.free
          rw [← z,e] at q
          cases q
        · rw [z,nD] at e
          cases e
      have un:Un (frs X.stack) fp H2 (upd H3 s2.heap.objs.size (.lst ys)) s2.heap h':=by
        have B:=I4.base
        refine ⟨fun b o e q hb hx=>sb' b o (oldNe b o e).1 (B.keep b o e q hb hx),fun b o e q hb hx=>?_,fun b o e q hx=>?_,fun b o e hx=>?_,fun b xs e=>?_,fun b o u e=>?_,fun b ps e=>?_⟩
        · obtain ⟨sl,e1⟩:=B.slot b o e q hb hx
          exact ⟨sl,sb' _ _ (oldNe b o e).1 e1⟩
        · rw [upd_ne (oldNe b o e).2]
          exact B.free b o e q hx
        · obtain ⟨o',e1⟩:=B.there b o e hx
          exact ⟨o',sb' _ _ (oldNe b o e).1 e1⟩
        · have q:=B.tups b xs e
          rw [upd_ne (trNe _ _ q).2]
          exact q
        · have q:=B.frzs b o u e
          rw [upd_ne (trNe _ _ q).2]
          exact q
        · obtain ⟨more,q⟩:=B.tbls b ps e
          refine ⟨more,?_⟩
          rw [upd_ne (trNe _ _ q).2]
          exact q
      have hok:HOk X.prog X.w (upd H3 s2.heap.objs.size (.lst ys)) h':=fun b u e=>by
        by_cases hb:b=s2.heap.objs.size
        · subst hb
          rw [upd_same] at e
          cases e
          exact ⟨Nat.le_of_lt hl,its,k,rv,sb' _ _ nDC hD4⟩
        · rw [upd_ne hb] at e
          refine (I4.hok b u e).stay (fun c v hc q=>sb' c v ?_ q) (fun c q=>?_) fun c xs q=>?_
          · rcases hc with z | z
            · rw [z]
              exact (trNe _ _ e).1
            · exact (trNe _ _ z).1
          · rw [upd_ne (trNe _ _ q).2]
            exact q
          · rw [upd_ne (trNe _ _ q).2]
            exact q
      have J:=I2.call' (s':={s4 with heap:=h'}) (ch:=fp) I4.os un hok I4.bare fun b hb=>⟨(f2 b hb).2.2.2.1,(f2 b hb).2.1,(f2 b hb).2.2.2.2.1,(f2 b hb).2.2.2.2.2⟩
      subst eh'
      refine hfin s4 P.objs.size s2.heap.objs.size (upd H3 s2.heap.objs.size (.lst ys)) m hn J ?_ ?_ ?_ (fun y c e=>?_) (fun q hq=>?_) (fin _ nD)
      · rw [upd_ne nDC.symm]
        exact I4.free
      · exact Nat.ne_of_gt (Nat.lt_of_lt_of_le I2.lt leC)
      · exact Nat.le_trans I2.sz leC
      · obtain ⟨v,z⟩:=I2.cell y c e
        exact Nat.ne_of_lt (Nat.lt_of_lt_of_le z.lt leC)
      · exact Nat.ne_of_lt (Nat.lt_of_lt_of_le (Heap.lt_size (I2.pin q hq).1) leC)
    · refine thn (T.item (cxC X scope (own++NN) fp s2 H2 P.objs.size) rfl rfl rfl hc i _ s3 _ H3 _ Ip (fpOk fr3) st3 go) fun r s4 z=>?_
      obtain ⟨u,hr,h4⟩:=z
      subst hr
      refine thn h4 fun _ s5 z=>?_
      obtain ⟨x,H5,I5,r5,y5,st5,fr5⟩:=z
      have I5':=I5.pinned (fpOk fr5) (T.obj _ _ st5)
      refine thn (hg fp s2 H2 P.objs.size _ s5 _ H5 x u _ I5' r5 (step x H5 y5)) fun _ s6 z=>?_
      obtain ⟨σ6,H6,I6,hσ,q6⟩:=z
      refine thn (ht fp s2 H2 P.objs.size _ s6 σ6 H6 _ I6 q6) fun okb s7 z=>?_
      obtain ⟨H7,I7,q7⟩:=z
      have pinD:∀ {H8:Hp} {s8:Shared},Inv (cxC X scope (own++NN) fp s2 H2 P.objs.size) ([(s2.heap.objs.size,{cls:=.type "list",data:=.seq its.toArray k})]++pinsAt fp s5.heap) σ6 H8 s8 →
          s8.heap.get? s2.heap.objs.size=some {cls:=.type "list",data:=.seq its.toArray k}∧H8 s2.heap.objs.size=none:=fun I8=>by
        have z:=I8.pin (s2.heap.objs.size,{cls:=.type "list",data:=.seq its.toArray k}) (List.mem_append_right _ (List.mem_append_left _ List.mem_cons_self))
        exact ⟨z.1,z.2.1⟩
      have pinF:∀ {H8:Hp} {s8:Shared},Inv (cxC X scope (own++NN) fp s2 H2 P.objs.size) ([(s2.heap.objs.size,{cls:=.type "list",data:=.seq its.toArray k})]++pinsAt fp s5.heap) σ6 H8 s8 →
          tn (i + 1) s8.heap∧∀ b∈fp,H8 b=none:=fun {H8 s8} I8=>by
        refine ⟨T.keep _ _ _ st5 fun b hb o e=>(I8.pin (b,o) (List.mem_append_right _ (List.mem_append_right _ (mem_pinsAt hb e)))).1,fun b hb=>?_⟩
        obtain ⟨o,e,_⟩:=T.obj _ _ st5 b hb
        exact (I8.pin (b,o) (List.mem_append_right _ (List.mem_append_right _ (mem_pinsAt hb e)))).2.1
      have len6:(List.replicate own.length none++σ).length=σ6.length:=by rw [I6.len,start.len]
      cases okb with
      | false =>
        have q7':N ys H7:=q7
        obtain ⟨m',lt,w'⟩:=hN _ _ q7'
        obtain ⟨d1,d2⟩:=pinD I7
        obtain ⟨p1,p2⟩:=pinF I7
        have J7:Inv (cxC X scope (own++NN) fp s2 H2 P.objs.size) [] σ6 H7 s7:=I7.pins_of (fun p hp=>absurd hp (by simp))
        exact ⟨m',lt,i + 1,ys,H7,its,k,J7.weak len6 (drop_get hσ),p1,p2,d2,rv,d1,w'⟩
      | true =>
        refine thn (he fp s2 H2 P.objs.size _ s7 σ6 H7 _ I7 q7) fun v8 s8 z=>?_
        obtain ⟨y,H8,I8,r8,n8⟩:=z
        obtain ⟨m',lt,w'⟩:=hN _ _ n8
        obtain ⟨d1,d2⟩:=pinD I8
        obtain ⟨p1,p2⟩:=pinF I8
        refine append_at (hsz:=by rw [List.size_toArray,← rv.length]; exact Nat.le_of_lt hl) d1 fun h9 sb hD9=>?_
        have J8:Inv (cxC X scope (own++NN) fp s2 H2 P.objs.size) [] σ6 H8 s8:=I8.pins_of (fun p hp=>absurd hp (by simp))
        have J9:Inv (cxC X scope (own++NN) fp s2 H2 P.objs.size) [] σ6 H8 {s8 with heap:=h9}:=J8.turned (t':=s8.toks) (it:=s2.heap.objs.size) (fun b o hb e=>sb.extBut b o hb e) d2 nDC (.inr (Nat.le_refl _)) (fun y c e=>Nat.ne_of_lt (cellNe y c e)) (fun p hp=>absurd hp (by simp))
        refine ⟨m',lt,i + 1,ys++[y],H8,its++[v8],k + 1,J9.weak len6 (drop_get hσ),T.keep _ _ _ p1 (fun b hb o e=>sb.extBut b o (Nat.ne_of_lt (fpLt b hb)) e),p2,d2,rv.append (.cons r8 .nil),?_,w'⟩
        show h9.get? _=_
        rw [hD9,List.push_toArray]
  exact codeAny_compStart_list (loop _ rfl) (T.self X.A 0 _ _ _ (T.keep _ _ _ st2 (fun b _ o e=>old b o e)) (loop _ rfl))
theorem pe_comp {elt target iter:Expr} {ifs:List Expr} {scope:Scope} {NN:List Str} {pos:Pos} {wi:TI} {g:TG} {tc:TT} {te:TE} (own:List Str) (ok:CompOk X scope NN) (hc:X.calm=true) (hi:PI X target iter wi)
    (hg:∀ fp s₂ H₂ C,PG (cxC X scope (own++NN) fp s₂ H₂ C) target g) (ht:∀ fp s₂ H₂ C,PTs (cxC X scope (own++NN) fp s₂ H₂ C) ifs tc) (he:∀ fp s₂ H₂ C,PE (cxC X scope (own++NN) fp s₂ H₂ C) elt te)
    (hs:∀ x,foldedSetIterable iter X.env x=pure x:=by intro _; rfl):PE X (.ListComp elt [⟨target,iter,ifs,0⟩] scope pos) (tComp own.length wi g tc te):=by
  intro pins s σ H Q I h
  rw [eval_ListComp]
  refine comp_gen (use:=none) own ok hc hi hg ht he hs I h fun s4 C D H' m hn J n1 n2 n3 n4 n5 q=>?_
  exact ⟨m,hn,fun h' sb=>⟨.ref D,H',J.turned (t':=s4.toks) (it:=C) (fun b o hb e=>sb.extBut b o hb e) n1 n2 (.inr n3) n4 n5,rfl,q⟩⟩
theorem ps_comp {elt target iter:Expr} {ifs:List Expr} {scope:Scope} {NN:List Str} {pos pos' spos:Pos} {wi:TI} {g:TG} {tc:TT} {te:TE} {i:Nat} {x:Str} (own:List Str) (ok:CompOk X scope NN) (hc:X.calm=true) (hN:X.N.Nodup) (hx0:X.N[i]?=some x) (hx:Loc X.env.scope x) (hi:PI X target iter wi)
    (hg:∀ fp s₂ H₂ C,PG (cxC X scope (own++NN) fp s₂ H₂ C) target g) (ht:∀ fp s₂ H₂ C,PTs (cxC X scope (own++NN) fp s₂ H₂ C) ifs tc) (he:∀ fp s₂ H₂ C,PE (cxC X scope (own++NN) fp s₂ H₂ C) elt te)
    (hs:∀ x,foldedSetIterable iter X.env x=pure x:=by intro _; rfl) (hf:X.fn x=true∨X.env.scope.names.lookup x=some .local:=by first | exact .inl rfl | exact .inr rfl | assumption)
    (hsw:swapsWith (.ListComp elt [⟨target,iter,ifs,0⟩] scope pos) (some (.Name x pos')) spos.line X.env=pure true:=by rfl):PS X (.Assign [.Name x pos'] (.ListComp elt [⟨target,iter,ifs,0⟩] scope pos) spos) (tAsg (tComp own.length wi g tc te) (gName i)):=by
  intro pins s σ H D I h
  rw [exec_Assign_Name_used _ _ _ _ hsw]
  refine wpAny_bind (wpAny_standAt (wpAny_bind ?_))
  show wpAny _ X.A (do let _ ← comprehension (.ListComp elt [⟨target,iter,ifs,0⟩] scope pos) scope X.env _ (newList []) false (eval iter X.env) (some (assign (.Name x pos') X.env))) _ _ s
  refine wpAny_bind (wpAny_mono (comp_gen (use:=some (assign (.Name x pos') X.env)) (Qv:=fun _ s'=>SP X pins D .next s') own ok hc hi hg ht he hs I h fun s4 C DD H' m hn J n1 n2 n3 n4 n5 q=>?_) (fun _ s' hq=>wpAny_pure (wpAny_pure hq)) fun _ _ e=>e)
  show wpAny _ X.A (assign (.Name x pos') X.env (.ref DD)) _ _ s4
  refine wpAny_assign_Name (store_ok2 J hN hx0 hx (show RelV (.ref DD) (.ref DD) from rfl) (fun s' J' z=>?_) hf)
  obtain ⟨a,sb,ha⟩:=z
  have na:C≠a:=by
    rcases ha with ha | ha
    · rw [ha]
      exact n2
    · exact (n4 x a ha).symm
  refine ⟨m,hn.at' fun o e=>sb.extBut C o na e,fun h' sb2=>⟨_,H',J'.turned (t':=s'.toks) (it:=C) (fun b o hb e=>sb2.extBut b o hb e) n1 n2 (.inr n3) n4 n5,q⟩⟩
end
section
variable {K:PySem.W.Frag} {a:Addr} {xs:List V} {n:Nat} {g:TG} {tc:TT} {te:TE} {σ:St} {H:Hp} {Q:VK}
theorem comp_list (Pv:Nat→List V→Hp→Prop) (h0:Pv 0 [] H) (hl:∀ i ys H,i≤xs.length→Pv i ys H→SqL K H a xs∧ys.length < sizeLine)
    (hs:∀ i x ys H,xs[i]?=some x→Pv i ys H→g x (List.replicate n none++σ) H fun σ2 H2=>σ2.drop n=σ∧tc σ2 H2 fun b H3=>if b=true then te σ2 H3 fun y H4=>Pv (i + 1) (ys++[y]) H4 else Pv (i + 1) ys H3)
    (hd:∀ ys H,Pv xs.length ys H→∀ p,H p=none→Q (.ref p) (upd H p (.lst ys))) :
    ∃ W:Nat→Nat→List V→Hp→Prop,(∃ m,W 0 m [] H)∧∀ i m ys H,W i m ys H→ys.length < sizeLine∧(((Itl K a).stop i H∧∀ p,H p=none→Q (.ref p) (upd H p (.lst ys))) ∨
      ((Itl K a).go i H∧∃ N:List V→Hp→Prop,(∀ ys' H',N ys' H'→∃ m',m' < m∧W (i + 1) m' ys' H')∧∀ x H',(Itl K a).yld i H x H'→g x (List.replicate n none++σ) H' fun σ2 H2=>σ2.drop n=σ∧tc σ2 H2 fun b H3 =>
        if b=true then te σ2 H3 fun y H4=>N (ys++[y]) H4 else N ys H3)):=by
  refine ⟨fun i m ys H=>m=xs.length - i∧i≤xs.length∧Pv i ys H,⟨xs.length,by simp,Nat.zero_le _,h0⟩,?_⟩
  rintro i m ys H ⟨rfl,hi,p⟩
  obtain ⟨q,z⟩:=hl i ys H hi p
  refine ⟨z,?_⟩
  by_cases hlt:i < xs.length
  · refine .inr ⟨⟨xs,xs[i],q,by simp [hlt]⟩,Pv (i + 1),fun ys' H' p'=>⟨xs.length - (i + 1),by omega,rfl,hlt,p'⟩,fun x H' y=>?_⟩
    obtain ⟨e,y⟩:=y
    subst e
    exact hs i x ys _ (y xs q) p
  · have e:i=xs.length:=by omega
    subst e
    exact .inl ⟨⟨xs,q,Nat.le_refl _⟩,hd ys H p⟩
theorem comp_tup (Pv:Nat→List V→Hp→Prop) (h0:Pv 0 [] H) (hl:∀ i ys H,i≤xs.length→Pv i ys H→SqT K H a xs∧ys.length < sizeLine)
    (hs:∀ i x ys H,xs[i]?=some x→Pv i ys H→g x (List.replicate n none++σ) H fun σ2 H2=>σ2.drop n=σ∧tc σ2 H2 fun b H3=>if b=true then te σ2 H3 fun y H4=>Pv (i + 1) (ys++[y]) H4 else Pv (i + 1) ys H3)
    (hd:∀ ys H,Pv xs.length ys H→∀ p,H p=none→Q (.ref p) (upd H p (.lst ys))) :
    ∃ W:Nat→Nat→List V→Hp→Prop,(∃ m,W 0 m [] H)∧∀ i m ys H,W i m ys H→ys.length < sizeLine∧(((Itt K a).stop i H∧∀ p,H p=none→Q (.ref p) (upd H p (.lst ys))) ∨
      ((Itt K a).go i H∧∃ N:List V→Hp→Prop,(∀ ys' H',N ys' H'→∃ m',m' < m∧W (i + 1) m' ys' H')∧∀ x H',(Itt K a).yld i H x H'→g x (List.replicate n none++σ) H' fun σ2 H2=>σ2.drop n=σ∧tc σ2 H2 fun b H3 =>
        if b=true then te σ2 H3 fun y H4=>N (ys++[y]) H4 else N ys H3)):=by
  refine ⟨fun i m ys H=>m=xs.length - i∧i≤xs.length∧Pv i ys H,⟨xs.length,by simp,Nat.zero_le _,h0⟩,?_⟩
  rintro i m ys H ⟨rfl,hi,p⟩
  obtain ⟨q,z⟩:=hl i ys H hi p
  refine ⟨z,?_⟩
  by_cases hlt:i < xs.length
  · refine .inr ⟨⟨xs,xs[i],q,by simp [hlt]⟩,Pv (i + 1),fun ys' H' p'=>⟨xs.length - (i + 1),by omega,rfl,hlt,p'⟩,fun x H' y=>?_⟩
    obtain ⟨e,y⟩:=y
    subst e
    exact hs i x ys _ (y xs q) p
  · have e:i=xs.length:=by omega
    subst e
    exact .inl ⟨⟨xs,q,Nat.le_refl _⟩,hd ys H p⟩
end
end L2
namespace PySem
section
variable {prog:Program} {w:World} {A:Around} {E:Value→Shared→Prop} {s:Shared}
def dlPair {prog:Program} {w:World} {K:Type} [DecidableEq K] (knd:KeyKind prog w K) (h:Heap) (p:K×Value) (x:Value):Prop:=
  ∃ (a:Addr) (kv:Value) (o:Obj) (n:Nat),x=.ref a∧h.get? a=some o∧o.cls=.type "tuple"∧o.data=.seq #[kv,p.2] n∧knd.is p.1 kv=true
variable {K:Type} [DecidableEq K] {knd:KeyKind prog w K}
end
end PySem
namespace L2
open PySem PySem.Spec PyProof.Rows
section
variable {X:Cx}
theorem log_small {n:Nat} (h:n < 2 ^ 64):n.log2 < 9000:=by
  by_cases z:n=0
  · subst z
    decide
  · exact Nat.lt_trans ((Nat.log2_lt z).mpr h) (by decide)
def CDivB (_ j:Int):Prop:=0 < j∧j < 2 ^ 64
theorem op_fdivB:OpR X (binaryOp .FloorDiv) (rI CDivB fun i j=>.int (i / j)):=opI fun i j _ _ _ _ _ hc q=>by
  have h1:(0:Int) < j:=hc.1
  have h2:j < 2 ^ 64:=hc.2
  have h3:j.natAbs < 2 ^ 64:=by omega
  exact floordiv_int (by omega) (by rw [Int.fdiv_eq_ediv_of_nonneg i (by omega)]; exact q) (.inl (PyProof.noPylong_of_log2 (log_small h3)))
def CDivM (_ j:Int):Prop:=j≠0∧j.natAbs < 2 ^ 64
theorem call_isinst:CallR X (.builtin "isinstance") (fun xs H Q=>∃ x n t b,xs=[x,.ty n]∧TyOf X.K H x t∧PySem.W.kitOne X.K t (.type n)=some b∧Q (.bl b) H):=by
  intro pins s σ H xs us Q I r h
  obtain ⟨x,n,t,b,rfl,ty,e,q⟩:=h
  obtain ⟨u,w',rfl,rx,rt⟩:=vals2 r
  cases (show w'=Value.type n from rt)
  exact isinst_ok I rx ty e fun tk=>⟨.bl b,H,I.tok _,rfl,q⟩
def PairsIn (H:Hp):List (Key×V)→List V→Prop:=Paired fun (p:Key×V) x=>∃ a,x=V.ref a∧H a=some (.tup [kV p.1,p.2])
end
end L2
namespace Att
open PySem PySem.W PySem.Calls PyProof.Rows
theorem weight_mem:∀ (xs:List WData) (x:WData),x∈xs→WData.weight x≤WData.weightAll xs
  | [],_,h=>by cases h
  | y :: r,x,h=>by
    unfold WData.weightAll
    rcases List.mem_cons.mp h with e | e
    · subst e
      omega
    · have:=weight_mem r x e
      omega
theorem bits_of_lay {ns:List Int} (h:WData.layableAll [WData.list (ns.map WData.int)]=true):∀ n∈ns,Builtin.Int.intBits n≤1048576:=fun n hn=>by
  have h1:(WData.list (ns.map WData.int)).layable=true:=(layW_cons h).1
  unfold WData.layable at h1
  have h2:WData.weight (WData.list (ns.map WData.int))≤2 ^ 20:=of_decide_eq_true (Bool.and_eq_true_iff.mp h1).2
  have h3:=weight_mem (ns.map WData.int) (WData.int n) (List.mem_map.mpr ⟨n,hn,rfl⟩)
  have h4:WData.weight (WData.list (ns.map WData.int))=WData.weightAll (ns.map WData.int):=by
    rw [WData.weight]
  have h5:WData.weight (WData.int n)=Builtin.Int.intBits n:=by
    rw [WData.weight]
    rfl
  have e:(2:Nat) ^ 20=1048576:=by decide
  omega
theorem attach_callB {l:OpenLaw} {n:Nat} {q:Program} {loose:List Str} {XP:(Str→Option Value)→Heap→Prop} {YP:World→Heap→Prop} {d:DefRec}
    (hn:l.most=some n) (hdf:d.params.defaults=[])
    (call:∀ (w:World) (s₀ s₁:Shared) (mg mb:Str→Option Value) (fa:Addr) (a:Addr) (vs:List Value) (ns:List Int),
      Ground q loose [] XP w s₀ mg mb s₁.heap→YP w s₁.heap→mg d.name=some (.ref fa) →
      s₁.heap.get? a=some {cls:=.type "list",data:=.seq vs.toArray}→IntsAre vs ns→ns.length≤n→(∀ x∈ns,Builtin.Int.intBits x≤1048576)→s₁.gens=#[] →
      codeAny (model l.prog w) callerA (.call (.ref fa) ⟨[.ref a],[]⟩) (fun r s'=>r=.ok (.ret (.bool true))∧OldK s₁.heap s'.heap∧s'.os=s₁.os∧AllBare s'.gens) s₁) :
    WalkO q loose XP YP l.row.toRowW d [] (fun f vs=>PySem.call f vs):=by
  intro w s₀ s₁ mg mb G Y fa o pm cd doc dV kV ho hd hcd hD hmg hg args vals as hpre hlay hrd hwl hlo
  obtain rfl:dV=.none:=Dflts.none hD hdf
  obtain rfl:kV=.none:=Dflts.noKw hD
  obtain ⟨a,vs,ns,rfl,rfl,hobj,hints,hlen⟩:=script_of hn hpre hwl
  refine enter_call (codeAny_mono (call w s₀ s₁ mg mb fa a vs ns G Y hmg hobj hints hlen (bits_of_lay hlay) hg) fun r s' hq=>?_)
  obtain ⟨rfl,h2,h3,h4⟩:=hq
  exact ⟨.inl ⟨.bool true,.bool true,[],rfl,fun _=>rfl,.bool true,post_true l _,fun _=>⟨List.Pairwise.nil,fun _ hm=>(nomatch hm)⟩⟩,h2,h3,h4⟩
end Att
namespace L2
open PySem PySem.Spec PyProof.Rows
theorem walk_ofB {l:PySem.W.OpenLaw} {n k:Nat} {q:Program} {loose:List Str} {XP:(Str→Option Value)→Heap→Prop} {YP:World→Heap→Prop} {d:DefRec} {K:Params→PySem.W.Frag} {CX:World→CXT} {sp:World→Sp} {x:Str}
    (hn:l.most=some n) (hn2:n≤sizeLine) (hdf:d.params.defaults=[]) (hr:Room k callerA)
    (hY:∀ (w:World) (h:Heap),YP w h→(K w.params).In h)
    (F:∀ (w:World) (mg:Str→Option Value) (fa:Addr) (h:Heap),(K w.params).In h→h.Ns mainGlobals mg→mg d.name=some (.ref fa) →
      ∃ fd:FuncData,(∀ (s:Shared) (u:Value),BindsTo s fd ⟨[u],[]⟩ [(x,u)]) ∧
        ∀ base:Heap,(K w.params).In base→base.Ns mainGlobals mg→FnOk l.prog w (K w.params) mg base (CX w) k fa fd [x] (sp w))
    (hsp:∀ (w:World) (H:Hp) (a:Addr) (ns:List Int),ns.length≤n→(∀ x∈ns,Builtin.Int.intBits x≤1048576)→SqL (K w.params) H a (ns.map V.int)→sp w [.ref a] H (fun v _=>v=.bl true) fun _ _ _=>False)
    (hCX:∀ (w:World) (H:Hp) (s:Shared) (e:Value) (s':Shared),CX w [] H s (fun _ _ _=>False) e s'→False) :
    PySem.W.WalkO q loose XP YP l.row.toRowW d [] (fun f vs=>PySem.call f vs):=by
  refine Att.attach_callB hn hdf fun w s₀ s₁ mg mb fa a vs ns G Y hmg hobj hints hlen hbits hg=>?_
  have KX:=hY w _ Y
  obtain ⟨fd,hb,hF⟩:=F w mg fa _ KX G.T.g hmg
  exact law_call KX G.T.g G.T.b G.T.builtins G.T.nolimit hg hobj hints (Nat.le_trans hlen hn2) hr hF hb (fun H hO hS=>hsp w H a ns hlen hbits hS) fun H e s'=>hCX w H s₁ e s'
end L2
namespace PySem
open SeqAt MeetsSeq MeetsSeq2 MeetsSeq3 SeqRoads2
open AutoSeq1 (wpAny_loadPart')
def EqIn (prog:Program) (w:World) (A:Around) (s:Shared) (y x:Value):Prop:=
  ∀ (E:Value→Shared→Prop) (Q:Bool→Shared→Prop),Q true s→wpAny (model prog w) A (eqBool y x) Q E s
def RcIn (prog:Program) (w:World) (A:Around) (s:Shared) (y x:Value):Prop:=
  ∀ (E:Value→Shared→Prop) (Q:Value→Shared→Prop),Q (.bool true) s→wpAny (model prog w) A (richCompare .Eq y x) Q E s
section
variable {prog:Program} {w:World} {A:Around} {s:Shared}
theorem EqIn.of_at {y x:Value} (h:EqAt A s y x true):EqIn prog w A s y x:=fun E Q q=>h prog w E Q q
theorem EqIn.self (v:Value):EqIn prog w A s v v:=EqIn.of_at (EqAt.same v)
theorem EqIn.refs {l b:Addr} (h:RcIn prog w A s (.ref l) (.ref b)):EqIn prog w A s (.ref l) (.ref b):=by
  by_cases e:l=b
  · rw [e]
    exact EqIn.self _
  · intro E Q q
    unfold eqBool
    refine wpAny_holding (wpAny_ite_split (fun z=>?_) (fun _=>?_))
    · exact absurd (by have z':=eq_of_beq z; injection z') e
    · exact wpAny_bind (h E _ (wpAny_truthy_bool q))
theorem el_loop (l b:Addr) (xs ys:Array Value) (n m:Nat) (dd de:Option Addr) (sl sm:Array (Option Value)) (hsz:xs.size=ys.size):∀ k i:Nat,xs.size - i=k →
    MeetsIn prog w (Builtin.«list.__eq__.loop» ⟨[.ref l,.ref b,rawInt i,rawInt 2],[]⟩) (fun A R s =>
      s.heap.get? l=some {cls:=.type "list",dict:=dd,data:=.seq xs n,slots:=sl}∧s.heap.get? b=some {cls:=.type "list",dict:=de,data:=.seq ys m,slots:=sm} ∧
      (∀ j (h1:j < xs.size) (h2:j < ys.size),EqIn prog w A.in1 s xs[j] ys[j])∧R (.ok (.ret (.bool true))) s):=by
  intro k
  induction k with
  | zero =>
    intro i hk A R s q
    obtain ⟨hp,g,d,tk,os⟩:=s
    obtain ⟨q1,q2,q3,q4⟩:=q
    have a1:xs[((i:Nat):Int).toNat]?=none:=by simp; omega
    have a2:ys[((i:Nat):Int).toNat]?=none:=by simp; omega
    wp_walk using wpAny_loadPart' q1,wpAny_loadPart' q2
    rw [a1,a2]
    wp_walk using wpAny_loadPart' q1,wpAny_loadPart' q2
    show R (.ok (.ret (.bool (xs.size == ys.size)))) _
    rw [hsz,beq_self_eq_true]
    exact q4
  | succ k ih =>
    intro i hk A R s q
    obtain ⟨hp,g,d,tk,os⟩:=s
    obtain ⟨q1,q2,q3,q4⟩:=q
    have l1:i < xs.size:=by omega
    have l2:i < ys.size:=by omega
    have a1:xs[((i:Nat):Int).toNat]?=some xs[i]:=by simp [l1]
    have a2:ys[((i:Nat):Int).toNat]?=some ys[i]:=by simp [l2]
    have e1:((i:Int) + 1)=((i + 1:Nat):Int):=by push_cast; rfl
    wp_walk using wpAny_loadPart' q1,wpAny_loadPart' q2
    rw [a1,a2]
    refine wpAny_bind (q3 i l1 l2 _ _ ?_)
    wp_walk
    rw [e1]
    refine ⟨plainId_quiet plain_eq_loop _,codeAny_builtin entry_eq_loop ?_⟩
    rw [Around.under_plainId plain_eq_loop _]
    exact ih (i + 1) (by omega) A R _ ⟨q1,q2,q3,q4⟩
theorem el_list (l b:Addr) (xs ys:Array Value) (n m:Nat) (dd de:Option Addr) (sl sm:Array (Option Value)) (hsz:xs.size=ys.size) :
    MeetsIn prog w (Builtin.«list.__eq__» ⟨[.ref l,.ref b],[]⟩) (fun A R s =>
      s.heap.get? l=some {cls:=.type "list",dict:=dd,data:=.seq xs n,slots:=sl}∧s.heap.get? b=some {cls:=.type "list",dict:=de,data:=.seq ys m,slots:=sm} ∧
      (∀ j (h1:j < xs.size) (h2:j < ys.size),EqIn prog w A.in1 s xs[j] ys[j])∧R (.ok (.ret (.bool true))) s):=by
  intro A R s q
  obtain ⟨hp,g,d,tk,os⟩:=s
  obtain ⟨q1,q2,q3,q4⟩:=q
  have f1:=AutoSeq1.sub_list_list
  have f2:¬ (xs.size != ys.size)=true:=by simp [hsz]
  wp_walk using wpAny_loadPart' q1,wpAny_loadPart' q2
  refine ⟨plainId_quiet plain_eq_loop _,codeAny_builtin entry_eq_loop ?_⟩
  rw [Around.under_plainId plain_eq_loop _]
  exact el_loop l b xs ys n m dd de sl sm hsz _ 0 rfl A R _ ⟨q1,q2,q3,q4⟩
theorem RcIn.lists {l b:Addr} {xs ys:Array Value} (hl:s.heap.IsList l xs) (hb:s.heap.IsList b ys) (hsz:xs.size=ys.size) (hu:A.units < cLine)
    (he:∀ j (h1:j < xs.size) (h2:j < ys.size),EqIn prog w A.in1 s xs[j] ys[j]):RcIn prog w A s (.ref l) (.ref b):=fun E Q q=>by
  obtain ⟨⟨c1,dd,t1,sl⟩,o1,rfl,n,rfl⟩:=id hl
  obtain ⟨⟨c2,de,t2,sm⟩,o2,rfl,m,rfl⟩:=id hb
  refine wpAny_richCompare_same_room (op:=.Eq) ⟨_,o1,rfl⟩ ⟨_,o2,rfl⟩ F.slot_list_eq (call_meetsIn F.slot_list_eq ⟨_,o1,rfl⟩ F.entry_list_eq (F.args_list_eq_2 _ _) (el_list l b xs ys n m dd de sl sm hsz) ⟨o1,o2,he,?_⟩) hu
  exact ⟨fun z=>(nomatch z),q⟩
variable {K:Type} [DecidableEq K] {knd:KeyKind prog w K}
theorem pairs_at {es:List DictEntry} {kvs:List (K×Value)} (h:Pairs knd es kvs):∀ {i:Nat} {e:DictEntry},es[i]?=some e→∃ kv,kvs[i]?=some kv∧knd.is kv.1 e.key=true∧e.val=kv.2:=by
  induction h with
  | nil =>
    intro i e q
    simp at q
  | cons a b _ ih =>
    intro i e q
    cases i with
    | zero =>
      simp at q
      subst q
      exact ⟨_,rfl,a,b⟩
    | succ i =>
      obtain ⟨kv,z⟩:=ih (i:=i) (by simpa using q)
      exact ⟨kv,by simpa using z.1,z.2⟩
theorem ed_pairs {nm:String} {d b:Addr} {kvs kws:List (K×Value)} {Q:Bool→Shared→Prop} {E:Value→Shared→Prop} (hd:(d == sysModules)=false) (hb:(b == sysModules)=false) (m1:s.heap.DictOf knd d kvs) (m2:s.heap.DictOf knd b kws)
    (hl:kvs.length=kws.length) (he:∀ kv∈kvs,∃ v',valueAt kws kv.1=some v'∧EqIn prog w A s kv.2 v') (q:Q true s):wpAny (model prog w) A (Builtin.Dict.samePairs nm d b) Q E s:=by
  obtain ⟨o1,es,ep,h1,x1,t1,k1,p1,n1⟩:=id m1
  obtain ⟨o2,fs,fp,h2,x2,t2,k2,p2,n2⟩:=id m2
  have z1:es.size=kvs.length:=by rw [← p1.length,Array.length_toList]
  have z2:fs.size=kws.length:=by rw [← p2.length,Array.length_toList]
  unfold Builtin.Dict.samePairs
  unfold Builtin.Dict.showsAll
  rw [if_neg (by rw [hd]; exact Bool.false_ne_true),if_neg (by rw [hb]; exact Bool.false_ne_true)]
  refine wpAny_bind (wpAny_pure (wpAny_bind (wpAny_pure ?_)))
  refine wpAny_bind (wpAny_dictEntries h1 t1 (wpAny_bind (wpAny_dictEntries h2 t2 ?_)))
  rw [if_neg (by rw [z1,z2,hl]; simp)]
  refine wpAny_bind (wpAny_dictEpoch h1 t1 (wpAny_bind ?_))
  rw [Std.Legacy.Range.forIn_eq_forIn_range']
  simp only [Std.Legacy.Range.size,Nat.sub_zero,Nat.add_sub_cancel,Nat.div_one]
  refine wpAny_forIn_list _ (fun rest r s'=>s'=s∧r.1=none∧∃ i,rest=List.range' i (es.size - i)∧i≤es.size) _ ?_ ?_ _ _ ⟨rfl,rfl,0,by simp,Nat.zero_le _⟩
  · rintro x rest ⟨r1,r2⟩ s' ⟨rfl,e1,i,hr,hi⟩
    have lt:i < es.size:=by
      rcases Nat.lt_or_ge i es.size with z | z
      · exact z
      · rw [Nat.sub_eq_zero_of_le z] at hr
        simp at hr
    obtain ⟨rfl,hrest⟩:x=i∧rest=List.range' (i + 1) (es.size - (i + 1)):=by
      rw [show es.size - i=(es.size - (i + 1)) + 1 by omega,List.range'_succ] at hr
      injection hr with a1 a2
      exact ⟨a1,a2⟩
    obtain ⟨kv,y1,y2,y3⟩:=pairs_at p1 (i:=x) (e:=es[x]) (by simp [lt])
    obtain ⟨kk,y4,y5⟩:=k1 es[x] (Array.getElem_mem lt)
    have y6:kk=kv.1:=knd.inj _ _ _ y4 y2
    subst y6
    obtain ⟨v',g1,g2⟩:=he kv (List.mem_of_getElem? y1)
    obtain ⟨o3,fs',fp',a1,_,a2,a3,hf⟩:=m2.mapOf
    rw [h2] at a1
    cases a1
    rw [t2] at a2
    cases a2
    rw [← hf kv.1,findBy_of_findIdx?] at g1
    refine wpAny_bind (wpAny_dictEntries h1 t1 ?_)
    rw [Array.getElem?_eq_getElem lt]
    dsimp only
    refine wpAny_bind (wpAny_holding (wpAny_bind ?_))
    rw [y5]
    refine wpAny_dictFind_of y2 h2 t2 k2 ?_
    cases hj:fs.findIdx? fun e=>knd.is kv.1 e.key with
    | none =>
      rw [hj] at g1
      cases g1
    | some j =>
      rw [hj] at g1
      dsimp only at g1 ⊢
      refine wpAny_bind (wpAny_dictEntries h2 t2 ?_)
      cases hx:fs[j]? with
      | none =>
        simp [hx] at g1
      | some fe =>
        have g3:fe.val=v':=by simpa [hx] using g1
        dsimp only
        refine wpAny_holding ?_
        rw [y3,g3]
        refine g2 _ _ ?_
        rw [if_neg (by decide)]
        refine wpAny_bind (wpAny_dictEpoch h1 t1 ?_)
        rw [if_neg (by simp)]
        exact wpAny_pure ⟨rfl,rfl,x + 1,hrest,lt⟩
  · rintro ⟨r1,r2⟩ s' ⟨rfl,e1,_⟩
    have e1:r1=none:=e1
    subst e1
    exact wpAny_pure q
theorem meets_deq (d b:Addr) (hd:(d == sysModules)=false) (hb:(b == sysModules)=false) :
    MeetsIn prog w (Builtin.«dict.__eq__» ⟨[.ref d,.ref b],[]⟩) (fun A R s=>∃ kvs kws,s.heap.DictOf knd d kvs∧s.heap.DictOf knd b kws∧kvs.length=kws.length ∧
      (∀ kv∈kvs,∃ v',valueAt kws kv.1=some v'∧EqIn prog w A.in1 s kv.2 v')∧R (.ok (.ret (.bool true))) s):=
  .of_wp fun A R s h=>by
    obtain ⟨kvs,kws,m1,m2,hl,he,q⟩:=h
    unfold Builtin.«dict.__eq__»
    show wpAny _ _ (Builtin.Dict.dictSlotArgs "__eq__" ⟨[.ref d,.ref b],[]⟩ >>= _) _ _ s
    refine wpAny_bind ?_
    unfold Builtin.Dict.dictSlotArgs
    unfold Builtin.Dict.notOrdered
    rw [if_neg (by decide)]
    refine wpAny_bind (wpAny_pure ?_)
    show wpAny _ _ (pure (Value.ref d,Value.ref b)) _ _ s
    refine wpAny_pure ?_
    dsimp only
    refine wpAny_bind (wpAny_isInstance m2.typeIs isSubtype_dict_dict ?_)
    rw [if_neg (by decide)]
    refine wpAny_bind (wpAny_pure (wpAny_bind (wpAny_pure (wpAny_bind (ed_pairs hd hb m1 m2 hl he ?_)))))
    exact wpAny_pure ⟨_,rfl,q⟩
theorem RcIn.dicts {d b:Addr} {kvs kws:List (K×Value)} (hd:(d == sysModules)=false) (hb:(b == sysModules)=false) (m1:s.heap.DictOf knd d kvs) (m2:s.heap.DictOf knd b kws) (hl:kvs.length=kws.length) (hu:A.units < cLine)
    (he:∀ kv∈kvs,∃ v',valueAt kws kv.1=some v'∧EqIn prog w A.in1 s kv.2 v'):RcIn prog w A s (.ref d) (.ref b):=fun E Q q =>
  wpAny_richCompare_same_room (op:=.Eq) m1.typeIs m2.typeIs F.slot_dict_eq (call_meetsIn F.slot_dict_eq m1.typeIs F.entry_dict_eq (F.args_dict_eq_2 _ _) (meets_deq (knd:=knd) d b hd hb) ⟨kvs,kws,m1,m2,hl,he,⟨fun z=>(nomatch z),q⟩⟩) hu
end
end PySem
namespace L2
open PySem PySem.Spec PyProof.Rows PySem.SeqAt
def sc0:V→Prop
  | .int _=>True
  | .str _=>True
  | .bl _=>True
  | .non=>True
  | _=>False
def TEq (H:Hp):Nat→V→V→Prop
  | 0,x,y=>sc0 x∧x=y
  | n + 1,x,y=>(sc0 x∧x=y)∨(∃ p q xs ys,x=.ref p∧y=.ref q∧H p=some (.lst xs)∧H q=some (.lst ys)∧Paired (TEq H n) xs ys) ∨
      ∃ p q xs ys,x=.ref p∧y=.ref q∧H p=some (.tup xs)∧H q=some (.tup ys)∧Paired (TEq H n) xs ys
def DEq (H:Hp):Nat→V→V→Prop
  | 0,x,y=>∃ n,n≤20∧TEq H n x y
  | n + 1,x,y=>(∃ n,n≤20∧TEq H n x y)∨(∃ p q xs ys,x=.ref p∧y=.ref q∧H p=some (.lst xs)∧H q=some (.lst ys)∧Paired (DEq H n) xs ys) ∨
      ∃ p q kvs kws,x=.ref p∧y=.ref q∧H p=some (.dK kvs)∧H q=some (.dK kws)∧Paired (fun (a b:Key×V)=>a.1=b.1∧DEq H n a.2 b.2) kvs kws
section
variable {P:Program} {w:World} {H:Hp} {s:Shared}
theorem pair_vals {R:V→V→Prop}:∀ {xs ys:List V} {us vs:List Value},Paired R xs ys→Vals xs us→Vals ys vs→us.length=vs.length∧∀ j (h1:j < us.length) (h2:j < vs.length),∃ x y,R x y∧RelV x us[j]∧RelV y vs[j]:=by
  intro xs ys us vs p
  induction p generalizing us vs with
  | nil =>
    intro a b
    cases a
    cases b
    exact ⟨rfl,fun j h1=>absurd h1 (Nat.not_lt_zero _)⟩
  | cons r rs ih =>
    intro a b
    cases a with
    | cons a as =>
    cases b with
    | cons b bs =>
    obtain ⟨e,z⟩:=ih as bs
    refine ⟨by rw [List.length_cons,List.length_cons,e],fun j h1 h2=>?_⟩
    cases j with
    | zero=>exact ⟨_,_,r,a,b⟩
    | succ j=>exact z j (Nat.lt_of_succ_lt_succ h1) (Nat.lt_of_succ_lt_succ h2)
theorem sc_eqAt {A:Around} {x:V} {u v:Value} (h:sc0 x) (ru:RelV x u) (rv:RelV x v):EqAt A s u v true:=by
  cases x with
  | non=>cases ru; cases rv; exact EqAt.same _
  | bl b=>cases ru; cases rv; exact EqAt.same _
  | int i =>
    obtain ⟨t,rfl⟩:=ru
    obtain ⟨t',rfl⟩:=rv
    have z:=EqAt.int_int (A:=A) (s:=s) i t i t'
    rw [beq_self_eq_true] at z
    exact z
  | str i =>
    obtain ⟨t,rfl⟩:=ru
    obtain ⟨t',rfl⟩:=rv
    have z:=EqAt.str_str (A:=A) (s:=s) i t i t'
    rw [beq_self_eq_true] at z
    exact z
  | byt b=>exact h.elim
  | flt b=>exact h.elim
  | ref a=>exact h.elim
  | ty a=>exact h.elim
theorem isList_of (ok:HOk P w H s.heap) {p:Addr} {xs:List V} (h:H p=some (.lst xs)):∃ us:List Value,Vals xs us∧s.heap.IsList p us.toArray:=by
  obtain ⟨_,us,n,r,e⟩:=(show ObjOk P w H s.heap p (.lst xs) from ok p _ h)
  exact ⟨us,r,_,e,rfl,n,rfl⟩
theorem isTup_of (ok:HOk P w H s.heap) {p:Addr} {xs:List V} (h:H p=some (.tup xs)):∃ us:List Value,Vals xs us∧s.heap.IsTuple p us.toArray:=by
  obtain ⟨_,us,r,o,e,c,n,d⟩:=(show ObjOk P w H s.heap p (.tup xs) from ok p _ h)
  exact ⟨us,r,o,e,c,n,d⟩
theorem all_true (n:Nat):((List.range n).all fun _=>true)=true:=by simp
theorem rc_lists (ok:HOk P w H s.heap) {R:V→V→Prop} {A:Around} {p q:Addr} {xs ys:List V} (hu:A.units < cLine) (h1:H p=some (.lst xs)) (h2:H q=some (.lst ys)) (r:Paired R xs ys)
    (he:∀ x y u v,R x y→RelV x u→RelV y v→EqAt A.in1 s u v true):RcAt A s (.ref p) (.ref q) true:=by
  obtain ⟨us,r1,i1⟩:=isList_of ok h1
  obtain ⟨vs,r2,i2⟩:=isList_of ok h2
  obtain ⟨e,z⟩:=pair_vals r r1 r2
  have k:=RcAt.lists (e:=fun _=>true) i1 i2 (by simpa using e) hu (fun j a b=>by
    obtain ⟨x,y,rr,rx,ry⟩:=z j (by simpa using a) (by simpa using b)
    simpa using he _ _ _ _ rr rx ry)
  rw [all_true] at k
  exact k
theorem rc_tups (ok:HOk P w H s.heap) {R:V→V→Prop} {A:Around} {p q:Addr} {xs ys:List V} (hu:A.units < cLine) (h1:H p=some (.tup xs)) (h2:H q=some (.tup ys)) (r:Paired R xs ys)
    (he:∀ x y u v,R x y→RelV x u→RelV y v→EqAt A.in1 s u v true):RcAt A s (.ref p) (.ref q) true:=by
  obtain ⟨us,r1,i1⟩:=isTup_of ok h1
  obtain ⟨vs,r2,i2⟩:=isTup_of ok h2
  obtain ⟨e,z⟩:=pair_vals r r1 r2
  have k:=RcAt.tuples (e:=fun _=>true) i1 i2 hu (fun j a b=>by
    obtain ⟨x,y,rr,rx,ry⟩:=z j (by simpa using a) (by simpa using b)
    simpa using he _ _ _ _ rr rx ry)
  rw [all_true,Bool.true_and,List.size_toArray,List.size_toArray,e,beq_self_eq_true] at k
  exact k
theorem EqAt.of_rc {A:Around} {l b:Addr} (h:RcAt A s (.ref l) (.ref b) true):EqAt A s (.ref l) (.ref b) true:=by
  by_cases e:l=b
  · rw [e]
    exact EqAt.same _
  · exact EqAt.of_refs e h
theorem teq_at (ok:HOk P w H s.heap):∀ {n:Nat} {A:Around} {x y:V} {u v:Value},A.units + n < cLine→TEq H n x y→RelV x u→RelV y v→EqAt A s u v true
  | 0,A,x,y,u,v,hu,h,ru,rv=>by
    obtain ⟨h1,rfl⟩:=h
    exact sc_eqAt h1 ru rv
  | n + 1,A,x,y,u,v,hu,h,ru,rv=>by
    have hin:A.in1.units + n < cLine:=by
      show A.units + 1 + n < cLine
      omega
    rcases h with ⟨h1,rfl⟩ | ⟨p,q,xs,ys,rfl,rfl,h1,h2,r⟩ | ⟨p,q,xs,ys,rfl,rfl,h1,h2,r⟩
    · exact sc_eqAt h1 ru rv
    · cases ru
      cases rv
      exact EqAt.of_rc (rc_lists ok (by omega) h1 h2 r fun _ _ _ _ z a b=>teq_at ok hin z a b)
    · cases ru
      cases rv
      exact EqAt.of_rc (rc_tups ok (by omega) h1 h2 r fun _ _ _ _ z a b=>teq_at ok hin z a b)
theorem rcIn_lists (ok:HOk P w H s.heap) {R:V→V→Prop} {A:Around} {p q:Addr} {xs ys:List V} (hu:A.units < cLine) (h1:H p=some (.lst xs)) (h2:H q=some (.lst ys)) (r:Paired R xs ys)
    (he:∀ x y u v,R x y→RelV x u→RelV y v→EqIn P w A.in1 s u v):RcIn P w A s (.ref p) (.ref q):=by
  obtain ⟨us,r1,i1⟩:=isList_of ok h1
  obtain ⟨vs,r2,i2⟩:=isList_of ok h2
  obtain ⟨e,z⟩:=pair_vals r r1 r2
  exact RcIn.lists i1 i2 (by simpa using e) hu (fun j a b=>by
    obtain ⟨x,y,rr,rx,ry⟩:=z j (by simpa using a) (by simpa using b)
    simpa using he _ _ _ _ rr rx ry)
theorem pair_kv {κ:Type} {R:κ×V→κ×V→Prop}:∀ {kvs kws:List (κ×V)} {us vs:List (κ×Value)},Paired R kvs kws→KV kvs us→KV kws vs→us.length=vs.length∧∀ (i:Nat) (q:κ×Value),us[i]?=some q→∃ q' a b,vs[i]?=some q'∧R a b∧a.1=q.1∧b.1=q'.1∧RelV a.2 q.2∧RelV b.2 q'.2:=by
  intro kvs kws us vs p
  induction p generalizing us vs with
  | nil =>
    intro a b
    cases a
    cases b
    exact ⟨rfl,fun i q h=>by simp at h⟩
  | cons r rs ih =>
    intro a b
    cases a with
    | cons a as =>
    cases b with
    | cons b bs =>
    obtain ⟨e,z⟩:=ih as bs
    refine ⟨by rw [List.length_cons,List.length_cons,e],fun i q h=>?_⟩
    cases i with
    | zero =>
      simp at h
      subst h
      exact ⟨_,_,_,rfl,r,a.1,b.1,a.2,b.2⟩
    | succ i =>
      obtain ⟨q',x,y,h1,h2⟩:=z i q (by simpa using h)
      exact ⟨q',x,y,by simpa using h1,h2⟩
theorem rcIn_dicts (ok:HOk P w H s.heap) {R:V→V→Prop} {A:Around} {p q:Addr} {kvs kws:List (Key×V)} (hu:A.units < cLine) (h1:H p=some (.dK kvs)) (h2:H q=some (.dK kws)) (r:Paired (fun (a b:Key×V)=>a.1=b.1∧R a.2 b.2) kvs kws)
    (he:∀ x y u v,R x y→RelV x u→RelV y v→EqIn P w A.in1 s u v):RcIn P w A s (.ref p) (.ref q):=by
  obtain ⟨_,n1,us,k1,m1⟩:=(show ObjOk P w H s.heap p (.dK kvs) from ok p _ h1)
  obtain ⟨_,n2,vs,k2,m2⟩:=(show ObjOk P w H s.heap q (.dK kws) from ok q _ h2)
  obtain ⟨e,z⟩:=pair_kv r k1 k2
  refine RcIn.dicts n1 n2 m1 m2 e hu fun kv hkv=>?_
  obtain ⟨i,hi⟩:=List.getElem?_of_mem hkv
  obtain ⟨q',a,b,g1,⟨g2,g3⟩,g4,g5,g6,g7⟩:=z i kv hi
  obtain ⟨_,_,_,_,_,_,_,_,nd⟩:=id m2
  have g8:vs[i]?=some (kv.1,q'.2):=by
    rw [g1,← g4,g2,g5]
  exact ⟨q'.2,valueAt_of_get nd g8,he _ _ _ _ g3 g6 g7⟩
theorem deq_in (ok:HOk P w H s.heap):∀ {n:Nat} {A:Around} {x y:V} {u v:Value},A.units + n + 20 < cLine→DEq H n x y→RelV x u→RelV y v→EqIn P w A s u v
  | 0,A,x,y,u,v,hu,h,ru,rv=>by
    obtain ⟨m,h0,h1⟩:=h
    exact EqIn.of_at (teq_at ok (by omega) h1 ru rv)
  | n + 1,A,x,y,u,v,hu,h,ru,rv=>by
    have hin:A.in1.units + n + 20 < cLine:=by
      show A.units + 1 + n + 20 < cLine
      omega
    rcases h with ⟨m,h0,h1⟩ | ⟨p,q,xs,ys,rfl,rfl,h1,h2,r⟩ | ⟨p,q,kvs,kws,rfl,rfl,h1,h2,r⟩
    · exact EqIn.of_at (teq_at ok (by omega) h1 ru rv)
    · cases ru
      cases rv
      exact EqIn.refs (rcIn_lists ok (by omega) h1 h2 r fun _ _ _ _ z a b=>deq_in ok hin z a b)
    · cases ru
      cases rv
      exact EqIn.refs (rcIn_dicts ok (by omega) h1 h2 r fun _ _ _ _ z a b=>deq_in ok hin z a b)
end
section
variable {X:Cx}
theorem op_eqD (hu:X.A.units + 50 < cLine):OpR X (compareOp .Eq) (fun x y H Q=>∃ n p q,n≤20∧x=.ref p∧y=.ref q∧DEq H n x y∧Q (.bl true) H):=by
  intro pins s σ H x y v u Q I rx ry h
  obtain ⟨n,p,q,hn,rfl,rfl,d,k⟩:=h
  cases rx
  cases ry
  have fin:EP X pins σ Q (.bool true) s:=⟨.bl true,H,I,rfl,k⟩
  have hu1:X.A.units < cLine:=by omega
  have main:RcIn X.prog X.w X.A s (.ref p) (.ref q):=by
    have hin:∀ m,m≤20→X.A.in1.units + m < cLine:=fun m hm=>by
      show X.A.units + 1 + m < cLine
      omega
    have tq:∀ m,m≤20→TEq H m (.ref p) (.ref q)→RcIn X.prog X.w X.A s (.ref p) (.ref q):=fun m hm t=>by
      cases m with
      | zero=>exact t.1.elim
      | succ m =>
        rcases t with ⟨h1,_⟩ | ⟨p',q',xs,ys,e1,e2,h1,h2,r⟩ | ⟨p',q',xs,ys,e1,e2,h1,h2,r⟩
        · exact h1.elim
        · cases e1
          cases e2
          intro E Q' k'
          exact rc_lists I.hok hu1 h1 h2 r (fun _ _ _ _ z a b=>teq_at I.hok (hin m (by omega)) z a b) X.prog X.w E Q' k'
        · cases e1
          cases e2
          intro E Q' k'
          exact rc_tups I.hok hu1 h1 h2 r (fun _ _ _ _ z a b=>teq_at I.hok (hin m (by omega)) z a b) X.prog X.w E Q' k'
    cases n with
    | zero =>
      obtain ⟨m,hm,t⟩:=d
      exact tq m hm t
    | succ n =>
      have hin2:X.A.in1.units + n + 20 < cLine:=by
        show X.A.units + 1 + n + 20 < cLine
        omega
      rcases d with ⟨m,hm,t⟩ | ⟨p',q',xs,ys,e1,e2,h1,h2,r⟩ | ⟨p',q',kvs,kws,e1,e2,h1,h2,r⟩
      · exact tq m hm t
      · cases e1
        cases e2
        exact rcIn_lists I.hok hu1 h1 h2 r fun _ _ _ _ z a b=>deq_in I.hok hin2 z a b
      · cases e1
        cases e2
        exact rcIn_dicts I.hok hu1 h1 h2 r fun _ _ _ _ z a b=>deq_in I.hok hin2 z a b
  exact main _ _ fin
theorem op_neT (hu:X.A.units + 50 < cLine):OpR X (compareOp .NotEq) (fun x y H Q=>∃ n p q,n≤20∧x=.ref p∧y=.ref q∧TEq H n x y∧Q (.bl false) H):=by
  intro pins s σ H x y v u Q I rx ry h
  obtain ⟨n,p,q,hn,rfl,rfl,d,k⟩:=h
  cases rx
  cases ry
  have fin:EP X pins σ Q (.bool false) s:=⟨.bl false,H,I,rfl,k⟩
  have hu1:X.A.units < cLine:=by omega
  cases n with
  | zero=>exact d.1.elim
  | succ m =>
    have hin:X.A.in1.units + m < cLine:=by
      show X.A.units + 1 + m < cLine
      omega
    rcases d with ⟨h1,_⟩ | ⟨p',q',xs,ys,e1,e2,h1,h2,r⟩ | ⟨p',q',xs,ys,e1,e2,h1,h2,r⟩
    · exact h1.elim
    · cases e1
      cases e2
      obtain ⟨us,r1,i1⟩:=isList_of I.hok h1
      obtain ⟨vs,r2,i2⟩:=isList_of I.hok h2
      obtain ⟨e,z⟩:=pair_vals r r1 r2
      have k:=RcNeAt.lists (A:=X.A) (e:=fun _=>true) i1 i2 (by simpa using e) hu1 (fun j a b=>by
        obtain ⟨x,y,rr,rx,ry⟩:=z j (by simpa using a) (by simpa using b)
        simpa using teq_at I.hok hin rr rx ry)
      rw [all_true] at k
      exact k X.prog X.w _ _ fin
    · cases e1
      cases e2
      obtain ⟨us,r1,i1⟩:=isTup_of I.hok h1
      obtain ⟨vs,r2,i2⟩:=isTup_of I.hok h2
      obtain ⟨e,z⟩:=pair_vals r r1 r2
      have k:=RcNeAt.tuples (A:=X.A) (e:=fun _=>true) i1 i2 hu1 (fun j a b=>by
        obtain ⟨x,y,rr,rx,ry⟩:=z j (by simpa using a) (by simpa using b)
        simpa using teq_at I.hok hin rr rx ry)
      rw [all_true,Bool.true_and,List.size_toArray,List.size_toArray,e,beq_self_eq_true] at k
      exact k X.prog X.w _ _ fin
def rDCopy:V→List V→Hp→VK→Prop:=fun x vs H Q=>∃ d kvs,x=.ref d∧vs=[]∧H d=some (.dK kvs)∧∀ p,H p=none→Q (.ref p) (upd H p (.dK kvs))
theorem hu50 {A:Around} {k:Nat} (hr:Room k A):A.units + 50 < cLine:=by
  have:=hr.un
  omega
end
end L2
namespace PySem
open Sem (wp)
def BareD (h:Heap) (d:Addr) (es:Array DictEntry) (ep:Nat):Prop:=∃ o,h.get? d=some o∧o.ExactDict∧o.data=.dict es ep
section
variable {prog:Program} {w:World} {A:Around} {E:Value→Shared→Prop} {s:Shared}
end
def CmpIn (prog:Program) (w:World) (A:Around) (op:CmpOp) (P:Nat→Value→Prop) (G:Heap→Prop) (bt:Nat→Nat→Bool):Prop:=
  ∀ i j vi vj (s:Shared) (Q:Value→Shared→Prop) (E:Value→Shared→Prop),P i vi→P j vj→G s.heap→Q (.bool (bt i j)) s→wpAny (model prog w) A (richCompare op vi vj) Q E s
section
variable {prog:Program} {w:World} {A:Around} {R:Result→Shared→Prop} {I:Addr} {fp wr:List Addr} {n:Nat} {P:Nat→Value→Prop} {St:Nat→Heap→Prop} {G:Heap→Prop}
end
section
variable {prog:Program} {w:World} {A:Around} {E:Value→Shared→Prop} {s:Shared}
end
section
variable {prog:Program} {w:World} {K:Type} [DecidableEq K] {knd:HeapKind prog w K} {A:Around} {E:Value→Shared→Prop} {s:Shared}
def lessH (xs:List (K×Addr×Value)) (k:K):List (K×Addr×Value):=xs.filter fun x=>!decide (x.1=k)
end
section
variable {prog:Program} {w:World} {A:Around} {E:Value→Shared→Prop} {s:Shared}
end
end PySem
namespace HT
open PySem PyProof.Rows
open PySem.SeqAt
open PySem.AutoSeq1 (wpAny_loadPart')
open PySem.MeetsSeq PySem.MeetsSeq2 PySem.MeetsSeq3
end HT
namespace L2
open PySem PySem.Spec PyProof.Rows
section
variable {X:Cx}
def Tups (H:Hp):List Addr→List (List Int)→Prop:=Paired fun a n=>H a=some (.tup (n.map V.int))
open Classical in
def rInsert:V→List V→Hp→VK→Prop:=fun x vs H Q=>∃ l xs i y,x=.ref l∧vs=[.int (i:Nat),y]∧H l=some (.lst xs)∧i≤xs.length∧xs.length < sizeLine∧Q .non (upd H l (.lst (xs.take i++y :: xs.drop i)))
def tRev (K:PySem.W.Frag) (te:TE) (ts:TO):TE:=fun σ H Q=>te σ H fun x H1=>ts σ H1 fun st H2=>st=some (-1)∧∃ a xs,x=.ref a∧SqL K H2 a xs∧∀ p,H2 p=none→Q (.ref p) (upd H2 p (.lst xs.reverse))
def IntKeys (kvs:List (List Key×V)):Prop:=∀ k∈kvs.map (·.1),∃ n:List Int,k=n.map Sum.inl
def Least (ks:List (List Key)) (n:List Int):Prop:=n.map Sum.inl∈ks∧∀ m:List Int,m.map Sum.inl∈ks→HT.lexLt m n=false
def tDPopT (td ty:TE):TE:=fun σ H Q=>td σ H fun x H1=>∃ a,x=.ref a∧IsD H1 a∧ty σ H1 fun y H2=>∃ kvs k b v,H2 a=some (.dT kvs)∧y=.ref b∧H2 b=some (.tup (k.map kV))∧valV kvs k=some v∧Q v (upd H2 a (.dT (dropK kvs k)))
end
end L2
namespace L2
open PySem PySem.Spec PyProof.Rows
structure CMeth (K:PySem.W.Frag) (C:Addr) (m:Str) (f:Addr):Prop where
  spec:PySem.W.specialIn K (.ref C) "__getattribute__"=some (some (.builtin "type.__getattribute__"))
  reads:PySem.W.readsIn K C (.type "type")=true
  found:PySem.W.findCls K (.ref C) (.type "type") m=some (.val (.ref f))
  kp:PySem.W.keepIn K (.ref f)=true
section
variable {X:Cx}
end
theorem comp_rng {n m:Nat} {g:TG} {tc:TT} {te:TE} {σ:St} {H:Hp} {Q:VK} (Pv:Nat→List V→Hp→Prop) (h0:Pv 0 [] H) (hl:∀ i ys H,i≤m→Pv i ys H→ys.length < sizeLine)
    (hs:∀ i ys H,i < m→Pv i ys H→g (.int (0 + i)) (List.replicate n none++σ) H fun σ2 H2=>σ2.drop n=σ∧tc σ2 H2 fun b H3=>if b=true then te σ2 H3 fun y H4=>Pv (i + 1) (ys++[y]) H4 else Pv (i + 1) ys H3)
    (hd:∀ ys H,Pv m ys H→∀ p,H p=none→Q (.ref p) (upd H p (.lst ys))) :
    ∃ W:Nat→Nat→List V→Hp→Prop,(∃ k,W 0 k [] H)∧∀ i k ys H,W i k ys H→ys.length < sizeLine∧(((Itr 0 m).stop i H∧∀ p,H p=none→Q (.ref p) (upd H p (.lst ys))) ∨
      ((Itr 0 m).go i H∧∃ N:List V→Hp→Prop,(∀ ys' H',N ys' H'→∃ k',k' < k∧W (i + 1) k' ys' H')∧∀ x H',(Itr 0 m).yld i H x H'→g x (List.replicate n none++σ) H' fun σ2 H2=>σ2.drop n=σ∧tc σ2 H2 fun b H3 =>
        if b=true then te σ2 H3 fun y H4=>N (ys++[y]) H4 else N ys H3)):=by
  refine ⟨fun i k ys H=>k=m - i∧i≤m∧Pv i ys H,⟨m,by simp,Nat.zero_le _,h0⟩,?_⟩
  rintro i k ys H ⟨rfl,hi,pv'⟩
  refine ⟨hl i ys H hi pv',?_⟩
  by_cases lt:i < m
  · refine .inr ⟨lt,Pv (i + 1),fun ys' H' p'=>⟨m - (i + 1),by omega,rfl,lt,p'⟩,fun x H' y=>?_⟩
    obtain ⟨e,y⟩:=y
    subst e y
    exact hs i ys _ lt pv'
  · have e:i=m:=by omega
    subst e
    exact .inl ⟨Nat.le_refl _,hd ys H pv'⟩
end L2
namespace PySem
open SeqAt MeetsSeq MeetsSeq2 MeetsSeq3 SeqRoads2
section
variable {prog:Program} {w:World} {A:Around} {s:Shared}
variable {K:Type} [DecidableEq K] {knd:KeyKind prog w K}
end
end PySem
namespace L2
open PySem PySem.Spec PyProof.Rows PySem.SeqAt
section
variable {X:Cx}
end
end L2
namespace L2
open PySem PySem.Spec PyProof.Rows
section
variable {X:Cx}
theorem strs_are:∀ {ys:List Str} {us:List Value},Vals (ys.map V.str) us→StrsAre us ys
  | [],_,.nil=>.nil
  | _ :: _,_,.cons ⟨t,e⟩ r=>e ▸ .cons _ t (strs_are r)
def jsz (z:Str) (ys:List Str):Nat:=(ys.map fun x=>x.length).sum + ys.length * z.length
def rJoin (K:PySem.W.Frag):V→List V→Hp→VK→Prop:=fun x vs H Q=>∃ z l ys,x=.str z∧vs=[.ref l]∧(SqL K H l (ys.map V.str)∨SqT K H l (ys.map V.str))∧jsz z ys≤16777216∧Q (.str (Txt.join z ys)) H
theorem mt_join:MtR X "str.join" (rJoin X.K):=by
  intro pins s σ H x vs v us Q I rx rv h
  obtain ⟨z,l,ys,rfl,rfl,hl,hz,q⟩:=h
  obtain ⟨t,rfl⟩:=rx
  obtain ⟨u,rfl,ru⟩:=rv.one
  cases ru
  rcases hl with hl | hl
  · obtain ⟨its,r,pl,_⟩:=I.list hl
    exact join_list pl.isList (by simpa using strs_are r) hz fun t' k=>⟨.str _,H,I.tok _,⟨_,rfl⟩,q⟩
  · obtain ⟨its,r,pl,_⟩:=I.tuple hl
    exact join_tuple pl (by simpa using strs_are r) hz fun t' k=>⟨.str _,H,I.tok _,⟨_,rfl⟩,q⟩
abbrev TJ:=St→Hp→Str→(Str→Hp→Prop)→Prop
def PJ (X:Cx) (es:List Expr) (t:TJ):Prop:=∀ (pins:List (Addr×Obj)) (s:Shared) (σ:St) (H:Hp) (acc:Str) (Q:Str→Hp→Prop),Inv X pins σ H s→t σ H acc Q→∀ R:Str→Shared→Prop,(∀ out s1 H1,Inv X pins σ H1 s1→Q out H1→R out s1) →
  Joins (model X.prog X.w) X.A X.xe (evalEach es X.env) acc R s
def jNil:TJ:=fun _ H acc Q=>Q acc H
def jStr (z:Str) (t:TJ):TJ:=fun σ H acc Q=>(acc++z).length≤sizeLine∧t σ H (acc++z) Q
def Shown:V→Str→Prop:=fun x y=>x=.str y∨∃ i:Int,x=.int i∧i.natAbs.log2 < 1920∧y=toString i
def jVal (te:TE) (t:TJ):TJ:=fun σ H acc Q=>te σ H fun x H1=>∃ y,Shown x y∧y.length≤sizeLine∧(acc++y).length≤sizeLine∧t σ H1 (acc++y) Q
theorem pj_nil:PJ X [] jNil:=fun pins s σ H acc Q I h R k=>Joins_nil (k _ _ H I h)
theorem pj_str {z:Str} {j:Nat} {pos:Pos} {es:List Expr} {t:TJ} (h:PJ X es t):PJ X (.Constant (.str z) j pos :: es) (jStr z t):=by
  intro pins s σ H acc Q I q R kk
  exact Joins_cons (Calls.Constant_str ⟨_,_,rfl,q.1,h pins _ σ H _ Q (I.tok _) q.2 R kk⟩)
theorem pj_val {e:Expr} {te:TE} {pos:Pos} {es:List Expr} {t:TJ} (he:PE X e te) (h:PJ X es t):PJ X (.FormattedValue e (-1) none pos :: es) (jVal te t):=by
  intro pins s σ H acc Q I q R kk
  refine Joins_cons (wpAny_FormattedValue_plain (thn (he pins s σ H _ I q) fun v s1 ⟨x,H1,I1,r1,y,sh,l1,l2,q1⟩=>?_))
  rcases sh with rfl | ⟨i,rfl,hz,rfl⟩
  · obtain ⟨t,rfl⟩:=r1
    exact formatField_str (fun t k=>⟨_,_,rfl,l2,h pins _ σ H1 _ Q (I1.tok _) q1 R kk⟩) l1
  · obtain ⟨t,rfl⟩:=r1
    exact formatField_int_small hz ⟨_,_,rfl,l2,h pins _ σ H1 _ Q (I1.tok _) q1 R kk⟩
def tJoin (t:TJ):TE:=fun σ H Q=>t σ H Str.empty fun out H1=>out.length≤sizeLine∧Q (.str out) H1
theorem pe_fstr {v1 v2:Expr} {es:List Expr} {pos:Pos} {t:TJ} (h:PJ X (v1 :: v2 :: es) t):PE X (.JoinedStr (v1 :: v2 :: es) pos) (tJoin t):=by
  intro pins s σ H Q I q
  exact wpAny_JoinedStr (h pins s σ H _ _ I q _ fun out s1 H1 I1 q1=>⟨q1.1,.str out,H1,I1.tok _,⟨_,rfl⟩,q1.2⟩)
def datD (D:List (Str×Str)):List (Str×KTD.Dat):=D.map fun p=>(p.1,KTD.Dat.flat (.str p.2))
def Tab (K:PySem.W.Frag) (a:Addr) (D:List (Str×Str)):Prop:=KTD.tabLook (KTD.datLooks fun a=>K.lookup a) (fun a=>K.lookup a) a (datD D)=true
theorem tab_plain:∀ D:List (Str×Str),((datD D).all fun p=>KTD.plain p.2)=true
  | []=>rfl
  | _ :: D=>tab_plain D
theorem tab_key {k m:Str}:∀ {D:List (Str×Str)},D.lookup k=some m→KTD.inKeys k (datD D)=true
  | [],h=>by cases h
  | (x,y) :: D,h=>by
    by_cases c:k=x
    · subst c
      simp [datD,KTD.inKeys]
    · have e:(k == x)=false:=beq_eq_false_iff_ne.mpr c
      simp only [List.lookup,e] at h
      have:=tab_key h
      simp [datD,KTD.inKeys] at this ⊢
      first | exact .inr this | simpa [c] using this
theorem tab_each {h₀:Heap} {k m:Str} {P:Value→Prop} (q:∀ t,P (.str m t)):∀ {D:List (Str×Str)},D.lookup k=some m→KTD.EachL h₀ k P (datD D)
  | [],h=>by cases h
  | (x,y) :: D,h=>by
    by_cases c:k=x
    · subst c
      simp [List.lookup] at h
      subst h
      exact KTD.eachL_hit rfl (KTD.opened_str q)
    · have e:(k == x)=false:=beq_eq_false_iff_ne.mpr c
      simp only [List.lookup,e] at h
      exact KTD.eachL_miss c (tab_each q h)
def rIxW (a:Addr) (D:List (Str×Str)):R2:=fun x y H Q=>∃ k m,x=.ref a∧y=.str k∧D.lookup k=some m∧Q (.str m) H
theorem ix_tab {a:Addr} {D:List (Str×Str)} (h:Tab X.K a D):IxR X (rIxW a D):=by
  intro value slice pins s σ H x y v u Q I rx ry q hs
  obtain ⟨k,m,rfl,rfl,e,q⟩:=q
  cases rx
  obtain ⟨t,rfl⟩:=ry
  exact KTD.item_textA (h₀:=s.heap) ⟨KTD.text_of_look (fun b o e=>I.kIn b o e) h,fun _ _ e=>e⟩ (tab_plain D) (tab_key e) (tab_each (fun t=>⟨.str m,H,I.tok _,⟨_,rfl⟩,q⟩) e) hs
theorem op_neL (hu:X.A.units + 50 < cLine):OpR X (compareOp .NotEq) (fun x y H Q=>∃ p q xs,x=.ref p∧y=.ref q∧H p=some (.lst xs)∧H q=some (.lst [])∧Q (.bl (!xs.isEmpty)) H):=by
  intro pins s σ H x y v u Q I rx ry h
  obtain ⟨p,q,xs,rfl,rfl,h1,h2,k⟩:=h
  cases xs with
  | nil=>exact op_neT hu pins s σ H _ _ v u Q I rx ry ⟨1,p,q,by omega,rfl,rfl,.inr (.inl ⟨p,q,[],[],rfl,rfl,h1,h2,.nil⟩),k⟩
  | cons a xs =>
    cases rx
    cases ry
    obtain ⟨us,r1,i1⟩:=isList_of I.hok h1
    obtain ⟨vs,r2,i2⟩:=isList_of I.hok h2
    cases r2
    have hl:=r1.length
    exact SeqAt.RcNeAt.lists_lengths i1 i2 (by
      cases us with
      | nil=>cases hl
      | cons b us=>simp) (by omega) X.prog X.w _ _ ⟨.bl true,H,I,rfl,k⟩
end
end L2
namespace My
open PySem L2
def top (i:Nat):Stmt:=PySem.Challenge.pw_momentloom_k72_models_as_text.main.body.getD i (.Pass ⟨0,0,0,0⟩)
abbrev s_formula_words:Stmt:=top 2
abbrev s_model_text:Stmt:=top 4
abbrev s_machine_lines:Stmt:=top 5
abbrev s_deed_lines:Stmt:=top 6
abbrev s_deed_words:Stmt:=top 7
abbrev s_law_purse:Stmt:=top 9
abbrev s_law_take:Stmt:=top 10
abbrev s_law_names:Stmt:=top 11
abbrev s_law_worth:Stmt:=top 12
abbrev s_law_formula:Stmt:=top 13
abbrev s_law_deed:Stmt:=top 14
abbrev s_law_deeds:Stmt:=top 15
abbrev s_law_machine:Stmt:=top 16
abbrev s_law_machines:Stmt:=top 17
abbrev s_law_words:Stmt:=top 18
abbrev s_law_deed_lines:Stmt:=top 19
abbrev s_law_deeds_lines:Stmt:=top 20
abbrev s_law_lines:Stmt:=top 21
abbrev s_law:Stmt:=top 22
end My
namespace My
open PySem L2
structure Df (K:PySem.W.Frag) (mg:Str→Option Value) (x:Str) (st:Stmt) (ps:List Str) (f:Addr) (fd:FuncData):Prop where
  F:Fun K x x st f fd
  b:Binds K fd ps []
  m:mg x=some (.ref f)
structure Bl (mg:Str→Option Value):Prop where
  len:mg "len"=none
  abs:mg "abs"=none
  isi:mg "isinstance"=none
  list:mg "list"=none
  tuple:mg "tuple"=none
  str:mg "str"=none
  int:mg "int"=none
  bool:mg "bool"=none
  range:mg "range"=none
  max:mg "max"=none
  dict:mg "dict"=none
theorem boot_abs:bootBuiltins "abs"=some (.builtin "abs"):=by decide +kernel
theorem boot_isi:bootBuiltins "isinstance"=some (.builtin "isinstance"):=by decide +kernel
theorem boot_str:bootBuiltins "str"=some (.type "str"):=by decide +kernel
theorem boot_int:bootBuiltins "int"=some (.type "int"):=by decide +kernel
def But (p:Addr) (H H':Hp):Prop:=∀ b o,H b=some o→b≠p→H' b=some o
theorem But.refl (p:Addr) (H:Hp):But p H H:=fun _ _ e _=>e
theorem But.trans {p:Addr} {H H1 H2:Hp} (a:But p H H1) (b:But p H1 H2):But p H H2:=fun c o e n=>b c o (a c o e n) n
theorem But.upd (p:Addr) (H:Hp) (o:HO):But p H (upd H p o):=fun b u e n=>by rw [upd_ne n]; exact e
theorem But.same {p:Addr} {H H1 H2:Hp} (a:But p H H1) (b:Same H1 H2):But p H H2:=fun c o e n=>b c o (a c o e n)
theorem same_new {H:Hp} {p:Addr} (h:H p=none) (o:HO):Same H (upd H p o):=fun b u q=>by rw [upd_ne (ne_of_none q h)]; exact q
theorem dec_t {c:Prop} [Decidable c] (h:decide c=true):c:=of_decide_eq_true h
theorem lt2:2≤sizeLine:=by decide
end My
namespace My
open PySem L2
def rLenK (K:PySem.W.Frag):List V→Hp→VK→Prop:=fun xs H Q=>∃ p ys,xs=[.ref p]∧(SqL K H p ys∨SqT K H p ys)∧Q (.int ys.length) H
theorem call_lenK {X:Cx} (K:PySem.W.Frag) (hK:X.K=K):CallR X (.builtin "len") (rLenK K):=by
  rw [← hK]
  exact call_len_seq
theorem pg_tupK {X:Cx} {pos:Pos} {es:List Expr} {k:Nat} {t:TGs} {n:Nat} (K:PySem.W.Frag) (hK:X.K=K) (hc:X.calm=true) (h:PGs X es t)
    (hn:(assignEach es X.env).length=n:=by rfl) (hst:(assignEach es X.env).findIdx? (·.1)=none:=by rfl):PG X (.Tuple es k pos) (gTup K n t):=by
  rw [← hK]
  exact pg_tup hc h hn hst
end My
namespace My
open PySem L2
section
variable {X:Cx} {es:List Expr} {te:TE} {t:TA}
theorem star_tup {es':List Expr} {k:Nat} {p:Pos} {env:Env}:starEach (.Tuple es' k p :: es) env=(false,eval (.Tuple es' k p) env) :: starEach es env:=by rfl
theorem pa_tup {es':List Expr} {k:Nat} {p:Pos} (ha:PE X (.Tuple es' k p) te) (hr:PA X es t):PA X (.Tuple es' k p :: es) (tCons te t):=pa_cons ha hr (by rfl)
theorem pa_lst {es':List Expr} {p:Pos} (ha:PE X (.List es' p) te) (hr:PA X es t):PA X (.List es' p :: es) (tCons te t):=pa_cons ha hr (by rfl)
theorem pa_c {c:Const} {k:Nat} {p:Pos} (ha:PE X (.Constant c k p) te) (hr:PA X es t):PA X (.Constant c k p :: es) (tCons te t):=pa_cons ha hr (by rfl)
theorem pa_n {x:Str} {p:Pos} (ha:PE X (.Name x p) te) (hr:PA X es t):PA X (.Name x p :: es) (tCons te t):=pa_cons ha hr (by rfl)
theorem pa_f {g:Expr} {as:List Expr} {ks:List Keyword} {p:Pos} (ha:PE X (.Call g as ks p) te) (hr:PA X es t):PA X (.Call g as ks p :: es) (tCons te t):=pa_cons ha hr (by rfl)
theorem pa_s {a b:Expr} {p:Pos} (ha:PE X (.Subscript a b p) te) (hr:PA X es t):PA X (.Subscript a b p :: es) (tCons te t):=pa_cons ha hr (by rfl)
theorem pa_b {a b:Expr} {o:Operator} {p:Pos} (ha:PE X (.BinOp a o b p) te) (hr:PA X es t):PA X (.BinOp a o b p :: es) (tCons te t):=pa_cons ha hr (by rfl)
end
theorem next_i {D:Ends} {σ:St} {H:Hp} (h:D.nx σ H):tNext D σ H:=h
def Det (t:L2.TT) (σ:St) (H:Hp) (b:Bool):Prop:=∀ Q:Bool→Hp→Prop,Q b H→t σ H Q
theorem Det.and {tA tB:L2.TT} {σ:St} {H:Hp} {x y:Bool} (a:Det tA σ H x) (b:x=true→Det tB σ H y):Det (tAnd tA tB) σ H (x && y):=fun Q q=>a _ (by
  cases x with
  | true=>exact iteT (b rfl Q q)
  | false=>exact iteF q)
theorem Det.or {tA tB:L2.TT} {σ:St} {H:Hp} {x y:Bool} (a:Det tA σ H x) (b:x=false→Det tB σ H y):Det (tOr tA tB) σ H (x || y):=fun Q q=>a _ (by
  cases x with
  | true=>exact iteT q
  | false=>exact iteF (b rfl Q q))
theorem det_if {t:L2.TT} {a b:TS} {D:Ends} {σ:St} {H:Hp} {c:Bool} (h:Det t σ H c) (k1:c=true→a D σ H) (k2:c=false→b D σ H):tIfS t a b D σ H:=h _ (by
  cases c with
  | true=>exact iteT (k1 rfl)
  | false=>exact iteF (k2 rfl))
theorem det_eq {i:Nat} {w k:Int} {σ:St} {H:Hp} (hv:σ[i]?=some (some (.int w))):Det (tTest (tOp rEq (tVar i) (tC (.int k)))) σ H (decide (w=k)):=fun Q q=>⟨_,hv,rfl,_,rfl,by
  rw [show decide (V.int w=V.int k)=decide (w=k) from by
    by_cases c:w=k
    · subst c
      rw [decide_eq_true rfl,decide_eq_true rfl]
    · rw [decide_eq_false c,decide_eq_false (fun z=>c (by cases z; rfl))]]
  exact q⟩
theorem det_lt {i:Nat} {w k:Int} {σ:St} {H:Hp} (hv:σ[i]?=some (some (.int w))):Det (tTest (tOp (rI0 fun i j=>.bl (decide (i < j))) (tVar i) (tC (.int k)))) σ H (decide (w < k)):=fun Q q=>⟨_,hv,_,_,rfl,rfl,_,rfl,q⟩
theorem det_gt {i:Nat} {w k:Int} {σ:St} {H:Hp} (hv:σ[i]?=some (some (.int w))):Det (tTest (tOp (rI0 fun i j=>.bl (decide (j < i))) (tVar i) (tC (.int k)))) σ H (decide (k < w)):=fun Q q=>⟨_,hv,_,_,rfl,rfl,_,rfl,q⟩
end My
namespace My
open PySem L2
theorem seq_i {t u:TS} {D:Ends} {σ:St} {H:Hp} (h:t {D with nx:=u D} σ H):tSeq t u D σ H:=h
theorem asg_i {te:TE} {g:TG} {D:Ends} {σ:St} {H:Hp} (h:te σ H fun x H1=>g x σ H1 D.nx):tAsg te g D σ H:=h
theorem gname_i {i:Nat} {v:V} {σ:St} {H:Hp} {Q:St→Hp→Prop} (h:Q (σ.set i (some v)) H):gName i v σ H Q:=h
theorem line1000:1000 < sizeLine:=by decide
def abc:Str:="abcdefghijklmnopqrstuvwxyz"
theorem abc_len:abc.cps.toList.length=26:=by decide +kernel
theorem abc_short:abc.length≤sizeLine:=by decide +kernel
theorem abc_at {z:Int} (h0:0≤z) (h1:z < 26):∃ c,atI abc.cps.toList z=some c:=by
  obtain ⟨j,rfl⟩:∃ j:Nat,z=(j:Int):=⟨z.toNat,by omega⟩
  have l:j < abc.cps.toList.length:=by rw [abc_len]; omega
  exact ⟨abc.cps.toList[j],atI_nat (List.getElem?_eq_getElem l)⟩
theorem str_len_app (x y:Str):(x++y).length=x.length + y.length:=by
  show (x++y).cps.size=x.cps.size + y.cps.size
  show (x.cps++y.cps).size=_
  rw [Array.size_append]
section
variable {P:Program} {w:World} {K:PySem.W.Frag} {mg:Str→Option Value} {base:Heap} {f fT fW:Addr} {fd fdT fdW:FuncData}
seal L2.PS L2.PSs L2.PE L2.PA L2.PT L2.PW L2.PI L2.PG L2.PGs L2.PC
def Purse (H:Hp) (p:Addr):Prop:=∃ x y:Int,H p=some (.lst [.int x,.int y])
theorem Purse.same {H H':Hp} {p:Addr} (a:Purse H p) (b:Same H H'):Purse H' p:=by
  obtain ⟨x,y,e⟩:=a
  exact ⟨x,y,b _ _ e⟩
theorem small_mod (x:Int):-(2 ^ 64) < x % 2147483629∧x % 2147483629 < 2 ^ 64:=by
  have h1:=Int.emod_nonneg x (show (2147483629:Int)≠0 by decide)
  have h2:=Int.emod_lt_of_pos x (show (0:Int) < 2147483629 by decide)
  omega
theorem comp_rngT {n:Nat} {ti:TE} {g:TG} {tc:L2.TT} {te:TE} {σ:St} {H:Hp} {Q:VK} (P:Nat→Hp→Prop) (hi:∀ R:VK,(∀ (m:Nat) (H1:Hp),P m H1→R (.int m) H1)→ti σ H R) (hb:∀ m H1,P m H1→m < 1000) (Pv:Nat→Hp→Nat→List V→Hp→Prop) (h0:∀ m H1,P m H1→Pv m H1 0 [] H1) (hl:∀ m H1,P m H1→∀ i ys H,i≤m→Pv m H1 i ys H→ys.length < sizeLine)
    (hs:∀ m H1,P m H1→∀ i ys H,i < m→Pv m H1 i ys H→g (.int (0 + i)) (List.replicate n none++σ) H fun σ2 H2=>σ2.drop n=σ∧tc σ2 H2 fun b H3=>if b=true then te σ2 H3 fun y H4=>Pv m H1 (i + 1) (ys++[y]) H4 else Pv m H1 (i + 1) ys H3)
    (hd:∀ m H1,P m H1→∀ ys H,Pv m H1 m ys H→∀ p,H p=none→Q (.ref p) (upd H p (.lst ys))):tComp n (iRng1 (tCons ti tNil)) g tc te σ H Q:=
  hi _ fun m H1 p=>⟨(m:Int),rfl,by have:=hb m H1 p; omega,by have:=hb m H1 p; omega,by
    rw [Int.toNat_natCast]
    exact comp_rng (Pv m H1) (h0 m H1 p) (hl m H1 p) (hs m H1 p) (hd m H1 p)⟩
theorem newp {p:Addr} {G:Hp} {a:Addr} (h:Purse G p) (n:G a=none):a≠p:=by
  obtain ⟨x,y,e⟩:=h
  exact (ne_of_none e n).symm
theorem purse_upd {p:Addr} {G:Hp} (h:Purse G p) {a:Addr} {o:HO} (n:a≠p):Purse (upd G a o) p:=by
  obtain ⟨x,y,e⟩:=h
  exact ⟨x,y,by rw [upd_ne n.symm]; exact e⟩
theorem cut_mem {xs:List V} {lo hi:Option Int} {v:V} (h:v∈cutV xs lo hi):v∈xs:=by
  unfold cutV at h
  exact List.mem_of_mem_drop (List.mem_of_mem_take h)
theorem at_mod {xs:List V} (h:xs≠[]) (z:Int):∃ v,atI xs (z % (xs.length:Int))=some v∧v∈xs:=by
  have hl:0 < xs.length:=List.length_pos_iff.mpr h
  have h0:=Int.emod_nonneg z (show (xs.length:Int)≠0 by omega)
  have h1:=Int.emod_lt_of_pos z (show (0:Int) < (xs.length:Int) by omega)
  obtain ⟨j,hj⟩:∃ j:Nat,z % (xs.length:Int)=(j:Int):=⟨(z % (xs.length:Int)).toNat,by omega⟩
  rw [hj] at h1 ⊢
  have hj2:j < xs.length:=by omega
  exact ⟨xs[j],atI_nat (List.getElem?_eq_getElem hj2),List.getElem_mem hj2⟩
abbrev nT:List Str:=["_law_purse_here","_law_many","_law_at","_law_found"]
abbrev pT:List Str:=["_law_purse_here","_law_many"]
theorem scT:FnScope nT pT (defScope s_law_take):=⟨rfl,rfl,rfl,by decide +kernel,rfl,by decide +kernel,by decide +kernel⟩
def spTake:Sp:=fun vs H Q _=>∃ (p:Addr) (n:Int),vs=[.ref p,.int n]∧Purse H p∧0 < n∧n < 2 ^ 64∧∀ (r:Int) (H':Hp),0≤r→r < n→Purse H' p→But p H H'→Q (.int r) H'
theorem ok_take (D:Df K mg "_law_take" s_law_take pT f fd) (B:Bl mg):FnOk P w K mg base CX0 1 f fd pT spTake:=by
  refine D.F.ok scT (fun vs H Q E h=>?_) (fun cdv A outer s H vs Q E hr h=>?_)
  · obtain ⟨p,n,rfl,_⟩:=h
    rfl
  obtain ⟨p,n,rfl,⟨x,y,hp⟩,hn,hn2,q⟩:=h
  refine ⟨_,pss_cons (ps_set (i:=2) scT.nd rfl (Or.inl rfl) (pe_callTy call_int1 (by rfl) B.int boot_int (pa_cons (pe_cmpR op_eq (pe_ix ix_list (pv 0) pe_int (fun _ _=>rfl)) pe_int (nomark _)) pa_nil)))
    (pss_cons (ps_set (i:=3) scT.nd rfl (Or.inl rfl) (pe_op op_mod (pe_ix ix_list (pv 0) (pv 2) (fun _ _=>rfl)) (pv 1)))
    (pss_cons (ps_asg (pe_op op_fdivB (pe_ix ix_list (pv 0) (pv 2) (fun _ _=>rfl)) (pv 1)) (pg_sub (pv 0) (pv 2) set_list))
    (pss_one (ps_ret (pv 3))))),?_⟩
  refine seq_i (asg_i ?_)
  refine ⟨_,rfl,p,_,_,_,rfl,rfl,SqL.of hp,rfl,rfl,.inr ⟨_,rfl,?_⟩⟩
  refine gname_i ?_
  dsimp only
  generalize hb:decide (V.int x=V.int 0)=b
  refine seq_i (asg_i ?_)
  cases b with
  | true =>
    refine ⟨_,rfl,_,rfl,p,_,_,_,rfl,rfl,SqL.of hp,rfl,_,rfl,_,_,rfl,rfl,hn,?_⟩
    refine gname_i ?_
    dsimp only
    refine ⟨_,rfl,_,rfl,p,_,_,_,rfl,rfl,SqL.of hp,rfl,_,rfl,_,_,rfl,rfl,⟨hn,hn2⟩,_,rfl,_,rfl,p,_,_,_,rfl,rfl,hp,rfl,?_⟩
    refine ⟨_,rfl,?_⟩
    exact q _ _ (Int.emod_nonneg _ (by omega)) (Int.emod_lt_of_pos _ hn) ⟨_,_,upd_same⟩ (But.upd p H _)
  | false =>
    refine ⟨_,rfl,_,rfl,p,_,_,_,rfl,rfl,SqL.of hp,rfl,_,rfl,_,_,rfl,rfl,hn,?_⟩
    refine gname_i ?_
    dsimp only
    refine ⟨_,rfl,_,rfl,p,_,_,_,rfl,rfl,SqL.of hp,rfl,_,rfl,_,_,rfl,rfl,⟨hn,hn2⟩,_,rfl,_,rfl,p,_,_,_,rfl,rfl,hp,rfl,?_⟩
    refine ⟨_,rfl,?_⟩
    exact q _ _ (Int.emod_nonneg _ (by omega)) (Int.emod_lt_of_pos _ hn) ⟨_,_,upd_same⟩ (But.upd p H _)
abbrev nW:List Str:=["_law_purse_here","_law_sort"]
abbrev pW:List Str:=["_law_purse_here"]
theorem scW:FnScope nW pW (defScope s_law_worth):=⟨rfl,rfl,rfl,by decide +kernel,rfl,by decide +kernel,by decide +kernel⟩
def spWorth:Sp:=fun vs H Q _=>∃ p:Addr,vs=[.ref p]∧Purse H p∧∀ (r:Int) (H':Hp),-(10 ^ 15)≤r→r≤10 ^ 15→Purse H' p→But p H H'→Q (.int r) H'
theorem ok_worth (D:Df K mg "_law_worth" s_law_worth pW f fd) (DT:Df K mg "_law_take" s_law_take pT fT fdT) (B:Bl mg):FnOk P w K mg base CX0 2 f fd pW spWorth:=by
  have GT:FnOk P w K mg base CX0 1 fT fdT pT spTake:=ok_take DT B
  refine D.F.ok scW (fun vs H Q E h=>?_) (fun cdv A outer s H vs Q E r1 h=>?_)
  · obtain ⟨p,rfl,_⟩:=h
    rfl
  obtain ⟨p,rfl,hp,q⟩:=h
  refine ⟨_,pss_cons (ps_set (i:=1) scW.nd rfl (Or.inl rfl) (pe_call GT r1 (by rfl) DT.m DT.F.kp DT.b .nil pass0 (pa_n (pv 0) (pa_c pe_int pa_nil))))
    (pss_cons (ps_if (pt_cmpR op_eq (pv 1) pe_int (nomark _)) (pss_one (ps_ret (pe_op op_sub (pe_call GT r1 (by rfl) DT.m DT.F.kp DT.b .nil pass0 (pa_n (pv 0) (pa_b (pe_op op_add (pe_op op_mul pe_int (pe_op op_pow pe_int pe_int)) pe_int) pa_nil))) (pe_op op_pow pe_int pe_int)))) pss_nil)
    (pss_cons (ps_if (pt_cmpR op_eq (pv 1) pe_int (nomark _)) (pss_one (ps_ret (pe_ix ix_list (pe_lst (pa_b (pe_op op_pow pe_int pe_int) (pa_cons (pe_un un_neg (pe_op op_pow pe_int pe_int)) (pa_b (pe_op op_sub (pe_op op_pow pe_int pe_int) pe_int) (pa_c pe_int pa_nil))))) (pe_call GT r1 (by rfl) DT.m DT.F.kp DT.b .nil pass0 (pa_n (pv 0) (pa_c pe_int pa_nil))) (fun _ _=>rfl)))) pss_nil)
    (pss_one (ps_ret (pe_op op_sub (pe_call GT r1 (by rfl) DT.m DT.F.kp DT.b .nil pass0 (pa_n (pv 0) (pa_c pe_int pa_nil))) pe_int))))),?_⟩
  have big:=line1000
  have c15:CPow 10 15:=⟨by decide,by decide,by decide⟩
  have e15:(10:Int) ^ (15:Int).toNat=1000000000000000:=by decide
  have e15':(10:Int) ^ 15=1000000000000000:=by decide
  refine seq_i (asg_i ?_)
  refine ⟨_,rfl,p,8,rfl,hp,by decide,by decide,fun way H1 w0 w1 hp1 b1=>?_⟩
  refine gname_i ?_
  dsimp only
  refine seq_i ?_
  refine det_if (det_eq rfl) (fun _=>?_) (fun _=>?_)
  · refine ⟨_,rfl,_,_,rfl,rfl,c15,_,_,rfl,rfl,.inl ⟨by decide,by decide⟩,_,_,rfl,rfl,p,_,rfl,hp1,?_,?_,fun r1 H2 r10 r11 hp2 b2=>?_⟩
    · rw [e15]; decide
    · rw [e15]; decide
    · refine ⟨_,_,rfl,rfl,c15,_,_,rfl,rfl,?_⟩
      rw [e15] at r11 ⊢
      exact q _ _ (by omega) (by omega) hp2 (b1.trans b2)
  refine seq_i ?_
  refine det_if (det_eq rfl) (fun _=>?_) (fun _=>?_)
  · refine ⟨_,_,rfl,rfl,c15,_,_,rfl,rfl,c15,_,rfl,_,_,rfl,rfl,c15,_,_,rfl,rfl,?_⟩
    rw [e15]
    refine ⟨by show 4≤sizeLine; omega,fun l hl=>?_⟩
    have sl:=same_new hl (.lst [V.int 1000000000000000,V.int (-1000000000000000),V.int (1000000000000000 - 1),V.int 10])
    refine ⟨_,rfl,p,4,rfl,hp1.same sl,by decide,by decide,fun r H2 r0 r1' hp2 b2=>?_⟩
    obtain ⟨z,hz,z1,z2⟩:∃ z:Int,atI [V.int 1000000000000000,V.int (-1000000000000000),V.int (1000000000000000 - 1),V.int 10] r=some (.int z)∧-1000000000000000≤z∧z≤1000000000000000:=by
      have:r=0∨r=1∨r=2∨r=3:=by omega
      rcases this with rfl | rfl | rfl | rfl
      · exact ⟨_,rfl,by decide,by decide⟩
      · exact ⟨_,rfl,by decide,by decide⟩
      · exact ⟨_,rfl,by decide,by decide⟩
      · exact ⟨_,rfl,by decide,by decide⟩
    refine ⟨l,_,_,_,rfl,rfl,SqL.of (b2 _ _ upd_same (newp hp1 hl)),hz,?_⟩
    exact q _ _ (by omega) (by omega) hp2 ((b1.same sl).trans b2)
  refine ⟨_,rfl,p,9,rfl,hp1,by decide,by decide,fun r1 H2 r10 r11 hp2 b2=>?_⟩
  refine ⟨_,_,rfl,rfl,?_⟩
  exact q _ _ (by omega) (by omega) hp2 (b1.trans b2)
abbrev nP:List Str:=["_law_script","_law_cells","_law_found","_law_number","_law_k","_law_cell"]
abbrev pP:List Str:=["_law_script"]
theorem scP:FnScope nP pP (defScope s_law_purse):=⟨rfl,rfl,rfl,by decide +kernel,rfl,by decide +kernel,by decide +kernel⟩
def spPurse (K:PySem.W.Frag):Sp:=fun vs H Q _=>∃ (a:Addr) (ns:List Int),vs=[.ref a]∧SqL K H a (ns.map V.int)∧ns.length≤63∧(∀ x∈ns,Builtin.Int.intBits x≤1048576)∧∀ (p:Addr) (H':Hp),H p=none→Purse H' p→Same H H'→Q (.ref p) H'
theorem ok_purse (D:Df K mg "_law_purse" s_law_purse pP f fd) (B:Bl mg):FnOk P w K mg base CX0 1 f fd pP (spPurse K):=by
  refine D.F.ok scP (fun vs H Q E h=>?_) (fun cdv A outer s H vs Q E hr h=>?_)
  · obtain ⟨a,ns,rfl,_⟩:=h
    rfl
  obtain ⟨a,ns,rfl,hS,hlen,hbits,q⟩:=h
  refine ⟨_,pss_cons (ps_set (i:=1) scP.nd rfl (Or.inl rfl) (pe_op op_cat (pe_slice sl_list (pv 0) po_none (po_some pe_int)) (pe_lst (pa_c pe_int pa_nil))))
    (pss_cons (ps_set (i:=2) scP.nd rfl (Or.inl rfl) pe_int)
    (pss_cons (ps_set (i:=3) scP.nd rfl (Or.inl rfl) pe_int)
    (pss_cons (ps_for PassesOwn.never rfl (pi_range1 (by rfl) B.range (pa_c pe_int pa_nil)) (pg_name (i:=4) scP.nd rfl (Or.inl rfl)) (pss_cons (ps_set (i:=5) scP.nd rfl (Or.inl rfl) (pe_ix ix_list (pv 1) (pe_op op_mod (pv 4) (pe_callB (call_lenK K (by rfl)) (by rfl) B.len PySem.boot_len (pa_n (pv 1) pa_nil))) (fun _ _=>rfl)))
    (pss_cons (ps_set (i:=3) scP.nd rfl (Or.inl rfl) (pe_op op_mod (pe_op op_add (pe_op op_add (pe_op op_add (pe_op op_mul (pv 3) (pv 3)) (pv 5)) (pe_op op_mul pe_int (pv 4))) pe_int) pe_int))
    (pss_one (ps_set (i:=2) scP.nd rfl (Or.inl rfl) (pe_op op_add (pe_op op_mul (pv 2) pe_int) (pe_op op_mod (pe_op op_mul (pv 3) (pv 3)) pe_int)))))))
    (pss_cons (ps_if (pt_cmpR op_eq (pe_op op_mod (pe_ix ix_list (pv 1) pe_int (fun _ _=>rfl)) pe_int) pe_int (nomark _)) (pss_one (ps_ret (pe_lst (pa_b (pe_op op_fdivB (pe_callB call_abs (by rfl) B.abs boot_abs (pa_s (pe_ix ix_list (pv 1) pe_int (fun _ _=>rfl)) pa_nil)) pe_int) (pa_n (pv 2) pa_nil))))) pss_nil)
    (pss_one (ps_ret (pe_lst (pa_c pe_int (pa_n (pv 2) pa_nil))))))))),?_⟩
  have big:=line1000
  refine seq_i (asg_i ?_)
  refine ⟨_,rfl,_,rfl,a,_,rfl,hS,fun l hl=>⟨(by show 1≤sizeLine; decide),fun m hm=>?_⟩⟩
  have hlm:l≠m:=ne_of_none (upd_same:upd H l (.lst (cutV (ns.map V.int) none (some 63))) l=_) hm
  have cl:(cutV (ns.map V.int) none (some 63)).length≤63:=Nat.le_trans (cutV_length _ _ _) (by rw [List.length_map]; exact hlen)
  have l64:(cutV (ns.map V.int) none (some 63)).length + [V.int 1].length≤sizeLine:=by
    rw [List.length_singleton]
    omega
  refine ⟨l,m,_,_,rfl,rfl,(by rw [upd_ne hlm]; exact upd_same),upd_same,l64,fun c hc=>?_⟩
  generalize hcs:cutV (ns.map V.int) none (some 63)++[V.int 1]=cs at hc ⊢
  have sc:Same H (upd (upd (upd H l (.lst (cutV (ns.map V.int) none (some 63)))) m (.lst [.int 1])) c (.lst cs)):=(same_new hl _).trans ((same_new hm _).trans (same_new hc _))
  generalize hH:upd (upd (upd H l (.lst (cutV (ns.map V.int) none (some 63)))) m (.lst [.int 1])) c (.lst cs)=H1 at sc ⊢
  have hc1:H1 c=some (.lst cs):=by rw [← hH]; exact upd_same
  have nonil:cs≠[]:=by rw [← hcs]; simp
  have cells:∀ v∈cs,∃ z:Int,v=.int z∧Builtin.Int.intBits z≤1048576:=fun v hv=>by
    rw [← hcs] at hv
    rcases List.mem_append.mp hv with z | z
    · obtain ⟨n,hn,rfl⟩:=List.mem_map.mp (cut_mem z)
      exact ⟨n,rfl,hbits n hn⟩
    · rw [List.mem_singleton.mp z]
      exact ⟨1,rfl,by decide⟩
  refine gname_i ?_
  dsimp only
  refine seq_i (asg_i ?_)
  refine gname_i ?_
  dsimp only
  refine seq_i (asg_i ?_)
  refine gname_i ?_
  dsimp only
  refine seq_i ?_
  refine ⟨120,rfl,by decide,by decide,for_range (n:=120) (fun i σ H2=>∃ (z y:Int) (u v:Option V),σ=[some (.ref a),some (.ref c),some (.int z),some (.int y),u,v]∧-(2 ^ 64) < y∧y < 2 ^ 64∧H2=H1) ⟨1,5,none,none,rfl,by decide,by decide,rfl⟩ ?_ ?_⟩
  · rintro i σ H2 hi ⟨z,y0,u0,v,rfl,hy1,hy2,rfl⟩
    obtain ⟨u,hu,hm2⟩:=at_mod nonil (0 + (i:Int))
    obtain ⟨y,rfl,hy⟩:=cells u hm2
    have lpos:(0:Int) < (cs.length:Int):=by
      have:=List.length_pos_iff.mpr nonil
      omega
    refine seq_i (asg_i ?_)
    refine ⟨_,rfl,_,rfl,_,rfl,c,_,rfl,.inl (SqL.of hc1),_,_,rfl,rfl,lpos,c,_,_,_,rfl,rfl,SqL.of hc1,hu,?_⟩
    refine gname_i ?_
    dsimp only
    refine seq_i (asg_i ?_)
    refine ⟨_,rfl,_,rfl,_,_,rfl,rfl,.inl ⟨hy1,hy2⟩,_,rfl,_,_,rfl,rfl,_,rfl,_,_,rfl,rfl,.inl ⟨by decide,by decide⟩,_,_,rfl,rfl,_,_,rfl,rfl,_,_,rfl,rfl,(by show (0:Int) < 2147483629; decide),?_⟩
    refine gname_i ?_
    dsimp only
    refine asg_i ?_
    refine ⟨_,rfl,_,_,rfl,rfl,.inr ⟨by decide,by decide⟩,_,rfl,_,rfl,_,_,rfl,rfl,.inl (small_mod _),_,_,rfl,rfl,(by show (0:Int) < 2147483587; decide),_,_,rfl,rfl,?_⟩
    refine gname_i ?_
    exact ⟨_,_,_,_,rfl,(small_mod _).1,(small_mod _).2,rfl⟩
  · rintro σ H2 ⟨z,y0,u0,v,rfl,hy1,hy2,rfl⟩
    obtain ⟨x0,hx0⟩:∃ x0,cs[0]?=some x0:=by
      cases cs with
      | nil=>exact absurd rfl nonil
      | cons x0 r=>exact ⟨x0,rfl⟩
    obtain ⟨y,rfl,hy⟩:=cells x0 (List.mem_of_getElem? hx0)
    have a0:atI cs 0=some (.int y):=atI_nat (j:=0) hx0
    refine seq_i ?_
    refine ⟨_,rfl,c,_,_,_,rfl,rfl,SqL.of hc1,a0,_,_,rfl,rfl,(by show (0:Int) < 2; decide),rfl,_,rfl,?_⟩
    refine ite2 (fun _=>?_) (fun _=>?_)
    · refine ⟨_,rfl,c,_,_,_,rfl,rfl,SqL.of hc1,a0,_,rfl,_,_,rfl,rfl,⟨by decide,by decide⟩,_,rfl,lt2,fun p hp=>?_⟩
      exact q p _ (sc.free hp) ⟨_,_,upd_same⟩ (sc.trans (same_new hp _))
    · refine ⟨_,rfl,lt2,fun p hp=>?_⟩
      exact q p _ (sc.free hp) ⟨_,_,upd_same⟩ (sc.trans (same_new hp _))
end
end My
namespace My
open PySem L2
theorem str_assoc (x y z:Str):(x++y)++z=x++(y++z):=by
  show (⟨x.cps++y.cps++z.cps⟩:Str)=⟨x.cps++(y.cps++z.cps)⟩
  rw [Array.append_assoc]
theorem fold_size (z:Str):∀ (ps:List Str) (acc:Array Nat),(ps.foldl (fun acc p=>acc++z.cps++p.cps) acc).size=acc.size + (ps.map fun x=>x.length).sum + ps.length * z.length
  | [],acc=>by simp
  | p :: ps,acc=>by
    rw [List.foldl_cons,fold_size z ps,Array.size_append,Array.size_append,List.map_cons,List.sum_cons,List.length_cons,Nat.succ_mul]
    show acc.size + z.length + p.length + _ + _=_
    omega
theorem join_len (z:Str) (ys:List Str):(Txt.join z ys).length≤jsz z ys:=by
  cases ys with
  | nil=>exact Nat.zero_le _
  | cons p ps =>
    show (ps.foldl (fun acc p=>acc++z.cps++p.cps) p.cps).size≤_
    rw [fold_size]
    unfold jsz
    rw [List.map_cons,List.sum_cons,List.length_cons,Nat.succ_mul]
    show p.length + _ + _≤_
    omega
theorem fold_pre (z:Str) (a:Array Nat):∀ (ps:List Str) (acc:Array Nat),ps.foldl (fun acc p=>acc++z.cps++p.cps) (a++acc)=a++ps.foldl (fun acc p=>acc++z.cps++p.cps) acc
  | [],acc=>rfl
  | p :: ps,acc=>by
    rw [List.foldl_cons,List.foldl_cons,← fold_pre z a ps,Array.append_assoc,Array.append_assoc,Array.append_assoc]
theorem join_cons (z x y:Str) (ys:List Str):Txt.join z (x :: y :: ys)=x++z++Txt.join z (y :: ys):=by
  show (⟨ys.foldl (fun acc p=>acc++z.cps++p.cps) (x.cps++z.cps++y.cps)⟩:Str)=⟨x.cps++z.cps++ys.foldl (fun acc p=>acc++z.cps++p.cps) y.cps⟩
  rw [fold_pre]
theorem jsz_le {z:Str} {ys:List Str} {k:Nat} (h:∀ x∈ys,x.length≤k):jsz z ys≤ys.length * (k + z.length):=by
  unfold jsz
  induction ys with
  | nil=>simp
  | cons y ys ih =>
    have h1:=h y (List.mem_cons_self ..)
    have h2:=ih fun x hx=>h x (List.mem_cons_of_mem _ hx)
    rw [List.map_cons,List.sum_cons,List.length_cons,Nat.succ_mul,Nat.succ_mul]
    omega
section
variable {P:Program} {w:World} {K:PySem.W.Frag} {mg:Str→Option Value} {base:Heap} {f fT fW:Addr} {fd fdT fdW:FuncData}
seal L2.PS L2.PSs L2.PE L2.PA L2.PT L2.PW L2.PI L2.PG L2.PGs L2.PC
abbrev nN:List Str:=["_law_purse_here","_law_many","_law_letters","_law_first","_law_found","_law_k","_law_size","_law_tail"]
abbrev pN:List Str:=["_law_purse_here","_law_many"]
theorem scN:FnScope nN pN (defScope s_law_names):=⟨rfl,rfl,rfl,by decide +kernel,rfl,by decide +kernel,by decide +kernel⟩
theorem ndN:((["_law_j"]:List Str)++nN).Nodup:=by decide +kernel
def spNames:Sp:=fun vs H Q _=>∃ (p:Addr) (n:Int),vs=[.ref p,.int n]∧Purse H p∧0≤n∧n≤9 ∧
  ∀ (l:Addr) (ss:List Str) (H':Hp),H l=none→H' l=some (.lst (ss.map V.str))→(ss.length:Int)=n→(∀ x∈ss,x.length≤6)→Purse H' p→But p H H'→Q (.ref l) H'
theorem ok_names (D:Df K mg "_law_names" s_law_names pN f fd) (DT:Df K mg "_law_take" s_law_take pT fT fdT) (B:Bl mg):FnOk P w K mg base CX0 2 f fd pN spNames:=by
  have GT:FnOk P w K mg base CX0 1 fT fdT pT spTake:=ok_take DT B
  refine D.F.ok scN (fun vs H Q E h=>?_) (fun cdv A outer s H vs Q E r1 h=>?_)
  · obtain ⟨p,n,rfl,_⟩:=h
    rfl
  obtain ⟨p,n,rfl,hp,hn0,hn9,q⟩:=h
  refine ⟨_,pss_cons (ps_set (i:=2) scN.nd rfl (Or.inr rfl) pe_str)
    (pss_cons (ps_set (i:=3) scN.nd rfl (Or.inl rfl) (pe_call GT r1 (by rfl) DT.m DT.F.kp DT.b .nil pass0 (pa_n (pv 0) (pa_c pe_int pa_nil))))
    (pss_cons (ps_set (i:=4) scN.nd rfl (Or.inl rfl) (pe_lst pa_nil))
    (pss_cons (ps_for PassesOwn.never rfl (pi_range1 (by rfl) B.range (pa_n (pv 1) pa_nil)) (pg_name (i:=5) scN.nd rfl (Or.inl rfl)) (pss_cons (ps_set (i:=6) scN.nd rfl (Or.inl rfl) (pe_call GT r1 (by rfl) DT.m DT.F.kp DT.b .nil pass0 (pa_n (pv 0) (pa_c pe_int pa_nil))))
    (pss_cons (ps_comp (i:=7) ["_law_j"] (CompOk.open (NN:=nN) (N:=nN) (sc:=defScope s_law_names) rfl rfl (by decide +kernel) rfl (by decide +kernel) (by decide +kernel) rfl (by decide +kernel)) rfl scN.nd rfl (Or.inl rfl) (pi_range1 (by rfl) B.range (pa_n (pv 6) pa_nil)) (fun _ _ _ _=>pg_name (i:=0) ndN rfl (Or.inl rfl)) (fun _ _ _ _=>pts_nil) (fun _ _ _ _=>pe_ix ix_str (pv 3) (pe_call GT r1 (by rfl) DT.m DT.F.kp DT.b .nil pass0 (pa_n (pv 1) (pa_c pe_int pa_nil))) (fun _ _=>rfl)))
    (pss_one (ps_expr (pe_bm PySem.F.plainAttrs_list PySem.F.slot_list_append PySem.F.type_list_append mt_append (pv 4) (pa_b (pe_op op_add_str (pe_ix ix_str (pv 2) (pe_op op_mod (pe_op op_add (pv 3) (pe_op op_mul pe_int (pv 5))) pe_int) (fun _ _=>rfl)) (pe_bm PySem.F.plainAttrs_str PySem.F.slot_str_join PySem.F.type_str_join mt_join pe_str (pa_n (pv 7) pa_nil))) pa_nil)))))))
    (pss_one (ps_ret (pv 4)))))),?_⟩
  have big:=line1000
  refine seq_i (asg_i ?_)
  refine gname_i ?_
  dsimp only
  refine seq_i (asg_i ?_)
  refine ⟨_,rfl,p,26,rfl,hp,by decide,by decide,fun first H1 f0 f1 hp1 b1=>?_⟩
  refine gname_i ?_
  dsimp only
  refine seq_i (asg_i ?_)
  refine ⟨Nat.zero_le _,fun l hl=>?_⟩
  have s3:=same_new hl (.lst [])
  have nl:l≠p:=newp hp1 hl
  have hlH:H l=none:=by
    cases e:H l with
    | none=>rfl
    | some o =>
      rw [b1 l o e nl] at hl
      cases hl
  refine gname_i ?_
  dsimp only
  refine seq_i ?_
  refine ⟨_,rfl,n,rfl,by omega,by omega,for_range (n:=n.toNat) (fun i σ G=>∃ (ss:List Str) (v6 v7 v8:Option V),σ=[some (.ref p),some (.int n),some (.str abc),some (.int first),some (.ref l),v6,v7,v8]∧i≤n.toNat∧G l=some (.lst (ss.map V.str))∧ss.length=i∧(∀ x∈ss,x.length≤6)∧Purse G p∧But p H G)
    ⟨[],none,none,none,rfl,Nat.zero_le _,upd_same,rfl,(fun x e=>by cases e),hp1.same s3,b1.same s3⟩ ?_ ?_⟩
  · rintro i σ G hi ⟨ss,v6,v7,v8,rfl,hi2,hG,hss,gn,pu,bt⟩
    refine seq_i (asg_i ?_)
    refine ⟨_,rfl,p,6,rfl,pu,by decide,by decide,fun m G1 m0 m1 pu1 bt1=>?_⟩
    refine gname_i ?_
    dsimp only
    have hG1:=bt1 _ _ hG nl
    obtain ⟨k,rfl⟩:∃ k:Nat,m=(k:Int):=⟨m.toNat,by omega⟩
    refine seq_i (asg_i ?_)
    refine comp_rngT (fun m G'=>m=k∧G'=G1) (fun R hR=>⟨_,rfl,hR k G1 ⟨rfl,rfl⟩⟩) (fun m G' h=>by omega) (fun m G' i ys G2=>∃ ts:List Str,ys=ts.map V.str∧ts.length=i∧(∀ x∈ts,x.length≤1)∧Purse G2 p∧But p G1 G2) ?_ ?_ ?_ ?_
    · rintro m G' ⟨rfl,rfl⟩
      exact ⟨[],rfl,rfl,(fun x e=>by cases e),pu1,But.refl _ _⟩
    · rintro m G' ⟨rfl,rfl⟩ i ys G2 hi ⟨ts,rfl,hts,_⟩
      rw [List.length_map]
      omega
    · rintro m G' ⟨rfl,rfl⟩ j ys G2 hj ⟨ts,rfl,hts,lts,pu2,bt2⟩
      refine gname_i ⟨rfl,?_⟩
      unfold tAll
      refine iteT ?_
      refine ⟨_,rfl,_,rfl,p,26,rfl,pu2,by decide,by decide,fun r G3 r0 r1' pu3 bt3=>?_⟩
      obtain ⟨c,hc⟩:=abc_at r0 r1'
      refine ⟨abc,_,c,rfl,rfl,abc_short,hc,ts++[⟨#[c]⟩],by rw [List.map_append]; rfl,by rw [List.length_append]; show _=j + 1; rw [hts]; rfl,fun x hx=>?_,pu3,bt2.trans bt3⟩
      rcases List.mem_append.mp hx with z | z
      · exact lts x z
      · rw [List.mem_singleton.mp z]
        exact Nat.le_refl 1
    · rintro m G' ⟨rfl,rfl⟩ ys G2 ⟨ts,rfl,hts,lts,pu2,bt2⟩ lt hlt
      refine gname_i ?_
      dsimp only
      have st:=same_new hlt (.lst (ts.map V.str))
      have hG2:=st _ _ (bt2 _ _ hG1 nl)
      have pu3:=pu2.same st
      have z1:=abc_at (Int.emod_nonneg (first + 3 * (0 + (i:Int))) (show (26:Int)≠0 by decide)) (Int.emod_lt_of_pos (first + 3 * (0 + (i:Int))) (by decide))
      obtain ⟨c,hc⟩:=z1
      have js:jsz "" ts≤5:=by
        have:=jsz_le (z:="") lts
        have e0:("":Str).length=0:=by decide
        rw [e0,hts] at this
        omega
      have jl:=join_len "" ts
      refine ⟨_,rfl,.inl ⟨rfl,_,SqL.of hG2⟩,_,rfl,_,rfl,_,rfl,_,_,rfl,rfl,.inl ⟨by decide,by decide⟩,_,_,rfl,rfl,_,_,rfl,rfl,(by show (0:Int) < 26; decide),abc,_,c,rfl,rfl,abc_short,hc,rfl,_,rfl,_,lt,ts,rfl,rfl,.inl (SqL.of upd_same),by omega,_,_,rfl,rfl,?_,l,_,_,rfl,rfl,hG2,(by rw [List.length_map]; omega),?_⟩
      · show 1 + (Txt.join "" ts).length≤sizeLine
        omega
      · refine ⟨ss++[⟨#[c]⟩++Txt.join "" ts],_,_,_,rfl,by omega,by rw [List.map_append]; exact upd_same,by rw [List.length_append,hss]; rfl,fun x hx=>?_,purse_upd pu3 nl,?_⟩
        · rcases List.mem_append.mp hx with z | z
          · exact gn x z
          · rw [List.mem_singleton.mp z,str_len_app]
            show 1 + _≤6
            omega
        · intro b o e n
          have nb:b≠l:=ne_of_none e hlH
          rw [upd_ne nb]
          exact st _ _ (bt2 _ _ (bt1 _ _ (bt _ _ e n) n) n)
  · rintro σ G ⟨ss,v6,v7,v8,rfl,hi2,hG,hss,gn,pu,bt⟩
    refine ⟨_,rfl,?_⟩
    exact q l ss G hlH hG (by omega) gn pu bt
end
end My
namespace My
open PySem L2
def Wo (a:Int):Prop:=-(10 ^ 15)≤a∧a≤10 ^ 15
theorem wo_log {z:Int} (h:Wo z):z.natAbs.log2 < 1920:=by
  have h1:z.natAbs < 2 ^ 50:=by
    have:=h.1
    have:=h.2
    omega
  by_cases c:z.natAbs=0
  · rw [c]
    decide
  · have:=(Nat.log2_lt c).mpr h1
    omega
theorem shown_len {z:Int} (h:Wo z):(Str.ofString (toString z)).length≤17:=by
  obtain ⟨h1,h2⟩:=h
  by_cases c:0≤z
  · have:=PyProof.Rows.toString_length_le c (k:=16) (by decide) (by omega)
    omega
  · rw [PyProof.Rows.len_text_neg (by omega)]
    have:=PyProof.Rows.toString_length_le (v:=0 - z) (by omega) (k:=16) (by decide) (by omega)
    omega
def marks:List (Str×Str):=[("plus","+"),("less","-"),("times","*"),("part","/"),("rest","|"),("below","<"),("same","=")]
def markD:List (Key×V):=marks.map fun p=>(.inr p.1,.str p.2)
theorem mem_of_look {k m:Str}:∀ {D:List (Str×Str)},D.lookup k=some m→(k,m)∈D
  | [],h=>by cases h
  | (x,y) :: D,h=>by
    by_cases c:k=x
    · subst c
      simp [List.lookup] at h
      subst h
      exact List.mem_cons_self ..
    · have e:(k == x)=false:=beq_eq_false_iff_ne.mpr c
      simp only [List.lookup,e] at h
      exact List.mem_cons_of_mem _ (mem_of_look h)
theorem marks_ok:∀ q∈marks,(¬ q.1="number"∧¬ q.1="box"∧¬ q.1="long"∧¬ q.1="got"∧¬ q.1="now")∧q.2.length=1∧valV (mergeK [] markD) (.inr q.1)=some (.str q.2):=by decide +kernel
inductive FI (H:Hp):Nat→V→Str→Prop where
  | num {t z n}:H t=some (.tup [.str "number",.int z])→Wo z→FI H (n + 1) (.ref t) (Str.ofString (toString z))
  | box {t x n}:H t=some (.tup [.str "box",.str x])→x.length≤6→FI H (n + 1) (.ref t) ("."++x)
  | long {t x n}:H t=some (.tup [.str "long",.str x])→x.length≤6→FI H (n + 1) (.ref t) ("#"++x)
  | got {t g n}:H t=some (.tup [.str "got",.int g])→(g=0∨g=1)→FI H (n + 1) (.ref t) ("$"++Str.ofString (toString g))
  | now {t n}:H t=some (.tup [.str "now"])→FI H (n + 1) (.ref t) "@"
  | two {t k m a b s1 s2 n1 n2 n}:H t=some (.tup [.str k,a,b])→marks.lookup k=some m→FI H n1 a s1→FI H n2 b s2→n1 + n2 < n→FI H n (.ref t) (Txt.join " " [m,s1,s2])
theorem FI.up {H H':Hp} {n:Nat} {v:V} {s:Str} (h:FI H n v s) (k:∀ t xs,H t=some (.tup xs)→H' t=some (.tup xs)):FI H' n v s:=by
  induction h with
  | num a b=>exact .num (k _ _ a) b
  | box a b=>exact .box (k _ _ a) b
  | long a b=>exact .long (k _ _ a) b
  | got a b=>exact .got (k _ _ a) b
  | now a=>exact .now (k _ _ a)
  | two a b _ _ c ih1 ih2=>exact .two (k _ _ a) b ih1 ih2 c
theorem FI.same {H H':Hp} {n:Nat} {v:V} {s:Str} (h:FI H n v s) (k:Same H H'):FI H' n v s:=h.up fun _ _ e=>k _ _ e
theorem FI.len {H:Hp} {n:Nat} {v:V} {s:Str} (h:FI H n v s):s.length < 18 * n:=by
  induction h with
  | num _ b =>
    have:=shown_len b
    omega
  | box _ b =>
    rw [str_len_app]
    have:(".":Str).length=1:=by decide
    omega
  | long _ b =>
    rw [str_len_app]
    have:("#":Str).length=1:=by decide
    omega
  | @got t g n _ b =>
    rw [str_len_app]
    have:("$":Str).length=1:=by decide
    have:(Str.ofString (toString g)).length=1:=by
      rcases b with rfl | rfl <;> decide +kernel
    omega
  | now =>
    have:("@":Str).length=1:=by decide
    omega
  | @two t k m a b s1 s2 n1 n2 n _ e _ _ c ih1 ih2 =>
    have:=join_len " " [m,s1,s2]
    have e1:=(marks_ok _ (mem_of_look e)).2.1
    have e2:(" ":Str).length=1:=by decide
    have e3:jsz " " [m,s1,s2]=m.length + (s1.length + (s2.length + 0)) + 3 * (" ":Str).length:=rfl
    rw [e2] at e3
    dsimp only at e1
    omega
theorem FI.le {H:Hp} {n m:Nat} {v:V} {s:Str} (h:FI H n v s) (l:n≤m):FI H m v s:=by
  cases m with
  | zero=>cases h <;> omega
  | succ m =>
    cases h with
    | num a b=>exact .num a b
    | box a b=>exact .box a b
    | long a b=>exact .long a b
    | got a b=>exact .got a b
    | now a=>exact .now a
    | two a b c d e=>exact .two a b c d (by omega)
theorem FI.pos {H:Hp} {n:Nat} {v:V} {s:Str} (h:FI H n v s):0 < n:=by
  cases h <;> omega
theorem skip_if {te:TE} {k x:Str} {a b:TS} {D:Ends} {σ:St} {H:Hp} (h:∀ Q:VK,Q (.str x) H→te σ H Q) (n:¬ x=k) (q:b D σ H):tIfS (tTest (tOp rEq te (tC (.str k)))) a b D σ H:=
  h _ ⟨rfl,_,rfl,by rw [decide_eq_false (fun z=>n (V.str.inj z))]; exact iteF q⟩
theorem take_if {te:TE} {k:Str} {a b:TS} {D:Ends} {σ:St} {H:Hp} (h:∀ Q:VK,Q (.str k) H→te σ H Q) (q:a D σ H):tIfS (tTest (tOp rEq te (tC (.str k)))) a b D σ H:=
  h _ ⟨rfl,_,rfl,by rw [decide_eq_true rfl]; exact iteT q⟩
section
variable {P:Program} {w:World} {K:PySem.W.Frag} {mg:Str→Option Value} {base:Heap} {f:Addr} {fd:FuncData} {aW:Addr}
seal L2.PS L2.PSs L2.PE L2.PA L2.PT L2.PW L2.PI L2.PG L2.PGs L2.PC
def spFw (n:Nat):Sp:=fun vs H Q _=>∃ (v:V) (s:Str),vs=[v]∧FI H n v s∧∀ H',Same H H'→Q (.str s) H'
abbrev nF:List Str:=["formula","kind"]
abbrev pF:List Str:=["formula"]
theorem scF:FnScope nF pF (defScope s_formula_words):=⟨rfl,rfl,rfl,by decide +kernel,rfl,by decide +kernel,by decide +kernel⟩
theorem fw_step {n:Nat} (D:Df K mg "formula_words" s_formula_words pF f fd) (B:Bl mg) (hW:mg "WORDS"=some (.ref aW)) (hTab:Tab K aW marks) (hn:n≤100) (GR:FnOk P w K mg base CX0 n f fd pF (spFw n)):FnOk P w K mg base CX0 (n + 1) f fd pF (spFw (n + 1)):=by
  refine D.F.ok scF (fun vs H Q E h=>?_) (fun cdv A outer s H vs Q E hr h=>?_)
  · obtain ⟨v,s,rfl,_⟩:=h
    rfl
  obtain ⟨v,s,rfl,hF,q⟩:=h
  refine ⟨_,pss_cons (ps_set (i:=1) scF.nd rfl (Or.inl rfl) (pe_ix ix_tup (pv 0) pe_int (fun _ _=>rfl)))
    (pss_cons (ps_if (pt_cmpR op_eq (pv 1) pe_str (nomark _)) (pss_one (ps_ret (pe_callTy call_str_int (by rfl) B.str boot_str (pa_s (pe_ix ix_tup (pv 0) pe_int (fun _ _=>rfl)) pa_nil)))) pss_nil)
    (pss_cons (ps_if (pt_cmpR op_eq (pv 1) pe_str (nomark _)) (pss_one (ps_ret (pe_op op_add_str pe_str (pe_ix ix_tup (pv 0) pe_int (fun _ _=>rfl))))) pss_nil)
    (pss_cons (ps_if (pt_cmpR op_eq (pv 1) pe_str (nomark _)) (pss_one (ps_ret (pe_op op_add_str pe_str (pe_ix ix_tup (pv 0) pe_int (fun _ _=>rfl))))) pss_nil)
    (pss_cons (ps_if (pt_cmpR op_eq (pv 1) pe_str (nomark _)) (pss_one (ps_ret (pe_op op_add_str pe_str (pe_callTy call_str_int (by rfl) B.str boot_str (pa_s (pe_ix ix_tup (pv 0) pe_int (fun _ _=>rfl)) pa_nil))))) pss_nil)
    (pss_cons (ps_if (pt_cmpR op_eq (pv 1) pe_str (nomark _)) (pss_one (ps_ret pe_str)) pss_nil)
    (pss_one (ps_ret (pe_bm PySem.F.plainAttrs_str PySem.F.slot_str_join PySem.F.type_str_join mt_join pe_str (pa_lst (pe_lst (pa_s (pe_ix (ix_tab hTab) (pe_glob (v:=.ref aW) (by rfl) hW rfl) (pv 1) (fun _ _=>rfl)) (pa_f (pe_call GR hr (by rfl) D.m D.F.kp D.b .nil pass0 (pa_s (pe_ix ix_tup (pv 0) pe_int (fun _ _=>rfl)) pa_nil)) (pa_f (pe_call GR hr (by rfl) D.m D.F.kp D.b .nil pass0 (pa_s (pe_ix ix_tup (pv 0) pe_int (fun _ _=>rfl)) pa_nil)) pa_nil)))) pa_nil))))))))),?_⟩
  have big:=line1000
  have kne:(¬ ("box":Str)="number"∧¬ ("long":Str)="number"∧¬ ("long":Str)="box"∧¬ ("got":Str)="number")∧(¬ ("got":Str)="box"∧¬ ("got":Str)="long"∧¬ ("now":Str)="number"∧¬ ("now":Str)="box"∧¬ ("now":Str)="long"∧¬ ("now":Str)="got"):=by decide +kernel
  have l1:(".":Str).length=1:=by decide
  have l2:("#":Str).length=1:=by decide
  have l3:("$":Str).length=1:=by decide
  cases hF with
  | num a b =>
    refine seq_i (asg_i ⟨_,rfl,_,_,_,_,rfl,rfl,SqT.of a,rfl,gname_i ?_⟩)
    dsimp only
    refine seq_i (take_if (fun Q q=>⟨_,rfl,q⟩) ?_)
    exact ⟨_,rfl,_,_,_,_,rfl,rfl,SqT.of a,rfl,_,rfl,wo_log b,q _ (Same.refl _)⟩
  | box a b =>
    refine seq_i (asg_i ⟨_,rfl,_,_,_,_,rfl,rfl,SqT.of a,rfl,gname_i ?_⟩)
    dsimp only
    refine seq_i (skip_if (fun Q q=>⟨_,rfl,q⟩) kne.1.1 (next_i ?_))
    dsimp only
    refine seq_i (take_if (fun Q q=>⟨_,rfl,q⟩) ?_)
    exact ⟨_,rfl,_,_,_,_,rfl,rfl,SqT.of a,rfl,_,_,rfl,rfl,(by omega),q _ (Same.refl _)⟩
  | long a b =>
    refine seq_i (asg_i ⟨_,rfl,_,_,_,_,rfl,rfl,SqT.of a,rfl,gname_i ?_⟩)
    dsimp only
    refine seq_i (skip_if (fun Q q=>⟨_,rfl,q⟩) kne.1.2.1 (next_i ?_))
    dsimp only
    refine seq_i (skip_if (fun Q q=>⟨_,rfl,q⟩) kne.1.2.2.1 (next_i ?_))
    dsimp only
    refine seq_i (take_if (fun Q q=>⟨_,rfl,q⟩) ?_)
    exact ⟨_,rfl,_,_,_,_,rfl,rfl,SqT.of a,rfl,_,_,rfl,rfl,(by omega),q _ (Same.refl _)⟩
  | @got t g _ a b =>
    refine seq_i (asg_i ⟨_,rfl,_,_,_,_,rfl,rfl,SqT.of a,rfl,gname_i ?_⟩)
    dsimp only
    refine seq_i (skip_if (fun Q q=>⟨_,rfl,q⟩) kne.1.2.2.2 (next_i ?_))
    dsimp only
    refine seq_i (skip_if (fun Q q=>⟨_,rfl,q⟩) kne.2.1 (next_i ?_))
    dsimp only
    refine seq_i (skip_if (fun Q q=>⟨_,rfl,q⟩) kne.2.2.1 (next_i ?_))
    dsimp only
    refine seq_i (take_if (fun Q q=>⟨_,rfl,q⟩) ?_)
    have wg:Wo g:=by unfold Wo; omega
    have:=shown_len wg
    exact ⟨_,rfl,_,_,_,_,rfl,rfl,SqT.of a,rfl,_,rfl,wo_log wg,_,_,rfl,rfl,(by omega),q _ (Same.refl _)⟩
  | now a =>
    refine seq_i (asg_i ⟨_,rfl,_,_,_,_,rfl,rfl,SqT.of a,rfl,gname_i ?_⟩)
    dsimp only
    refine seq_i (skip_if (fun Q q=>⟨_,rfl,q⟩) kne.2.2.2.1 (next_i ?_))
    dsimp only
    refine seq_i (skip_if (fun Q q=>⟨_,rfl,q⟩) kne.2.2.2.2.1 (next_i ?_))
    dsimp only
    refine seq_i (skip_if (fun Q q=>⟨_,rfl,q⟩) kne.2.2.2.2.2.1 (next_i ?_))
    dsimp only
    refine seq_i (skip_if (fun Q q=>⟨_,rfl,q⟩) kne.2.2.2.2.2.2 (next_i ?_))
    dsimp only
    refine seq_i (take_if (fun Q q=>⟨_,rfl,q⟩) ?_)
    exact q _ (Same.refl _)
  | @two t k m v1 v2 s1 s2 n1 n2 _ a b c d e =>
    obtain ⟨⟨k1,k2,k3,k4,k5⟩,lm,_⟩:=marks_ok _ (mem_of_look b)
    dsimp only at k1 k2 k3 k4 k5 lm
    refine seq_i (asg_i ⟨_,rfl,_,_,_,_,rfl,rfl,SqT.of a,rfl,gname_i ?_⟩)
    dsimp only
    refine seq_i (skip_if (fun Q q=>⟨_,rfl,q⟩) k1 (next_i ?_))
    dsimp only
    refine seq_i (skip_if (fun Q q=>⟨_,rfl,q⟩) k2 (next_i ?_))
    dsimp only
    refine seq_i (skip_if (fun Q q=>⟨_,rfl,q⟩) k3 (next_i ?_))
    dsimp only
    refine seq_i (skip_if (fun Q q=>⟨_,rfl,q⟩) k4 (next_i ?_))
    dsimp only
    refine seq_i (skip_if (fun Q q=>⟨_,rfl,q⟩) k5 (next_i ?_))
    dsimp only
    refine ⟨rfl,_,rfl,k,m,rfl,rfl,b,_,rfl,_,_,_,_,rfl,rfl,SqT.of a,rfl,v1,s1,rfl,c.le (by omega),fun H1 g1=>?_⟩
    refine ⟨_,rfl,_,_,_,_,rfl,rfl,SqT.of (g1 _ _ a),rfl,v2,s2,rfl,(d.le (by omega)).same g1,fun H2 g2=>?_⟩
    refine ⟨by show 3≤sizeLine; omega,fun l hl=>?_⟩
    have g3:=(g1.trans g2).trans (same_new hl (.lst [V.str m,V.str s1,V.str s2]))
    have j1:=c.len
    have j2:=d.len
    refine ⟨_,l,[m,s1,s2],rfl,rfl,.inl (SqL.of upd_same),?_,q _ g3⟩
    have e2:(" ":Str).length=1:=by decide
    show m.length + (s1.length + (s2.length + 0)) + 3 * (" ":Str).length≤16777216
    omega
theorem fw_zero (D:Df K mg "formula_words" s_formula_words pF f fd):FnOk P w K mg base CX0 0 f fd pF (spFw 0):=
  ⟨fun vs H Q E h=>(by obtain ⟨v,s,rfl,h,_⟩:=h; exact absurd h.pos (Nat.lt_irrefl 0)),fun A outer s H args us vs Q E a b c d h=>(by obtain ⟨v,s,rfl,h,_⟩:=h; exact absurd h.pos (Nat.lt_irrefl 0))⟩
theorem ok_fw (D:Df K mg "formula_words" s_formula_words pF f fd) (B:Bl mg) (hW:mg "WORDS"=some (.ref aW)) (hTab:Tab K aW marks):∀ n:Nat,n≤100→FnOk P w K mg base CX0 n f fd pF (spFw n)
  | 0,_=>fw_zero D
  | n + 1,h=>fw_step D B hW hTab (by omega) (ok_fw D B hW hTab n (by omega))
abbrev nLw:List Str:=["_law_formula_here","_law_mark"]
abbrev pLw:List Str:=["_law_formula_here"]
theorem scLw:FnScope nLw pLw (defScope s_law_words):=⟨rfl,rfl,rfl,by decide +kernel,rfl,by decide +kernel,by decide +kernel⟩
theorem lw_step {n:Nat} (D:Df K mg "_law_words" s_law_words pLw f fd) (B:Bl mg) (hn:n≤100) (GR:FnOk P w K mg base CX0 n f fd pLw (spFw n)):FnOk P w K mg base CX0 (n + 1) f fd pLw (spFw (n + 1)):=by
  refine D.F.ok scLw (fun vs H Q E h=>?_) (fun cdv A outer s H vs Q E hr h=>?_)
  · obtain ⟨v,s,rfl,_⟩:=h
    rfl
  obtain ⟨v,s,rfl,hF,q⟩:=h
  have hu1:=hu_of hr
  refine ⟨_,pss_cons (ps_if (pt_cmpR op_eq (pe_ix ix_tup (pv 0) pe_int (fun _ _=>rfl)) pe_str (nomark _)) (pss_one (ps_ret (pe_callTy call_str_int (by rfl) B.str boot_str (pa_s (pe_ix ix_tup (pv 0) pe_int (fun _ _=>rfl)) pa_nil)))) pss_nil)
    (pss_cons (ps_if (pt_cmpR op_eq (pe_ix ix_tup (pv 0) pe_int (fun _ _=>rfl)) pe_str (nomark _)) (pss_one (ps_ret (pe_op op_add_str pe_str (pe_ix ix_tup (pv 0) pe_int (fun _ _=>rfl))))) pss_nil)
    (pss_cons (ps_if (pt_cmpR op_eq (pe_ix ix_tup (pv 0) pe_int (fun _ _=>rfl)) pe_str (nomark _)) (pss_one (ps_ret (pe_op op_add_str pe_str (pe_ix ix_tup (pv 0) pe_int (fun _ _=>rfl))))) pss_nil)
    (pss_cons (ps_if (pt_cmpR op_eq (pe_ix ix_tup (pv 0) pe_int (fun _ _=>rfl)) pe_str (nomark _)) (pss_one (ps_ret (pe_ix ix_list (pe_lst (pa_c pe_str (pa_c pe_str pa_nil))) (pe_ix ix_tup (pv 0) pe_int (fun _ _=>rfl)) (fun _ _=>rfl)))) pss_nil)
    (pss_cons (ps_if (pt_cmpR op_eq (pe_ix ix_tup (pv 0) pe_int (fun _ _=>rfl)) pe_str (nomark _)) (pss_one (ps_ret pe_str)) pss_nil)
    (pss_cons (ps_set (i:=1) scLw.nd rfl (Or.inl rfl) (pe_dget hu1 (pe_disp (pps_cons pe_str pe_str (pps_cons pe_str pe_str (pps_cons pe_str pe_str (pps_cons pe_str pe_str (pps_cons pe_str pe_str (pps_cons pe_str pe_str (pps_cons pe_str pe_str pps_nil))))))) rfl rfl (by simp) (by decide)) (pe_ix ix_tup (pv 0) pe_int (fun _ _=>rfl)) (fun _ _=>rfl)))
    (pss_one (ps_ret (pe_bm PySem.F.plainAttrs_str PySem.F.slot_str_join PySem.F.type_str_join mt_join pe_str (pa_lst (pe_lst (pa_n (pv 1) (pa_f (pe_call GR hr (by rfl) D.m D.F.kp D.b .nil pass0 (pa_s (pe_ix ix_tup (pv 0) pe_int (fun _ _=>rfl)) pa_nil)) (pa_f (pe_call GR hr (by rfl) D.m D.F.kp D.b .nil pass0 (pa_s (pe_ix ix_tup (pv 0) pe_int (fun _ _=>rfl)) pa_nil)) pa_nil)))) pa_nil))))))))),?_⟩
  have big:=line1000
  have kne:(¬ ("box":Str)="number"∧¬ ("long":Str)="number"∧¬ ("long":Str)="box"∧¬ ("got":Str)="number")∧(¬ ("got":Str)="box"∧¬ ("got":Str)="long"∧¬ ("now":Str)="number"∧¬ ("now":Str)="box"∧¬ ("now":Str)="long"∧¬ ("now":Str)="got"):=by decide +kernel
  have l1:(".":Str).length=1:=by decide
  have l2:("#":Str).length=1:=by decide
  cases hF with
  | num a b =>
    refine seq_i (take_if (fun Q q=>⟨_,rfl,_,_,_,_,rfl,rfl,SqT.of a,rfl,q⟩) ?_)
    exact ⟨_,rfl,_,_,_,_,rfl,rfl,SqT.of a,rfl,_,rfl,wo_log b,q _ (Same.refl _)⟩
  | box a b =>
    refine seq_i (skip_if (fun Q q=>⟨_,rfl,_,_,_,_,rfl,rfl,SqT.of a,rfl,q⟩) kne.1.1 (next_i ?_))
    dsimp only
    refine seq_i (take_if (fun Q q=>⟨_,rfl,_,_,_,_,rfl,rfl,SqT.of a,rfl,q⟩) ?_)
    exact ⟨_,rfl,_,_,_,_,rfl,rfl,SqT.of a,rfl,_,_,rfl,rfl,(by omega),q _ (Same.refl _)⟩
  | long a b =>
    refine seq_i (skip_if (fun Q q=>⟨_,rfl,_,_,_,_,rfl,rfl,SqT.of a,rfl,q⟩) kne.1.2.1 (next_i ?_))
    dsimp only
    refine seq_i (skip_if (fun Q q=>⟨_,rfl,_,_,_,_,rfl,rfl,SqT.of a,rfl,q⟩) kne.1.2.2.1 (next_i ?_))
    dsimp only
    refine seq_i (take_if (fun Q q=>⟨_,rfl,_,_,_,_,rfl,rfl,SqT.of a,rfl,q⟩) ?_)
    exact ⟨_,rfl,_,_,_,_,rfl,rfl,SqT.of a,rfl,_,_,rfl,rfl,(by omega),q _ (Same.refl _)⟩
  | @got t g _ a b =>
    refine seq_i (skip_if (fun Q q=>⟨_,rfl,_,_,_,_,rfl,rfl,SqT.of a,rfl,q⟩) kne.1.2.2.2 (next_i ?_))
    dsimp only
    refine seq_i (skip_if (fun Q q=>⟨_,rfl,_,_,_,_,rfl,rfl,SqT.of a,rfl,q⟩) kne.2.1 (next_i ?_))
    dsimp only
    refine seq_i (skip_if (fun Q q=>⟨_,rfl,_,_,_,_,rfl,rfl,SqT.of a,rfl,q⟩) kne.2.2.1 (next_i ?_))
    dsimp only
    refine seq_i (take_if (fun Q q=>⟨_,rfl,_,_,_,_,rfl,rfl,SqT.of a,rfl,q⟩) ?_)
    refine ⟨by show 2≤sizeLine; omega,fun l hl=>?_⟩
    have sl:=same_new hl (.lst [V.str "$0",V.str "$1"])
    have e0:("$":Str)++Str.ofString (toString (0:Int))="$0":=by decide +kernel
    have e1:("$":Str)++Str.ofString (toString (1:Int))="$1":=by decide +kernel
    refine ⟨_,rfl,_,_,_,_,rfl,rfl,SqT.of (sl _ _ a),rfl,l,_,_,.str ("$"++Str.ofString (toString g)),rfl,rfl,SqL.of upd_same,?_,q _ sl⟩
    rcases b with rfl | rfl
    · rw [e0]; rfl
    · rw [e1]; rfl
  | now a =>
    refine seq_i (skip_if (fun Q q=>⟨_,rfl,_,_,_,_,rfl,rfl,SqT.of a,rfl,q⟩) kne.2.2.2.1 (next_i ?_))
    dsimp only
    refine seq_i (skip_if (fun Q q=>⟨_,rfl,_,_,_,_,rfl,rfl,SqT.of a,rfl,q⟩) kne.2.2.2.2.1 (next_i ?_))
    dsimp only
    refine seq_i (skip_if (fun Q q=>⟨_,rfl,_,_,_,_,rfl,rfl,SqT.of a,rfl,q⟩) kne.2.2.2.2.2.1 (next_i ?_))
    dsimp only
    refine seq_i (skip_if (fun Q q=>⟨_,rfl,_,_,_,_,rfl,rfl,SqT.of a,rfl,q⟩) kne.2.2.2.2.2.2 (next_i ?_))
    dsimp only
    refine seq_i (take_if (fun Q q=>⟨_,rfl,_,_,_,_,rfl,rfl,SqT.of a,rfl,q⟩) ?_)
    exact q _ (Same.refl _)
  | @two t k m v1 v2 s1 s2 n1 n2 _ a b c d e =>
    obtain ⟨⟨k1,k2,k3,k4,k5⟩,lm,vm⟩:=marks_ok _ (mem_of_look b)
    dsimp only at k1 k2 k3 k4 k5 lm vm
    refine seq_i (skip_if (fun Q q=>⟨_,rfl,_,_,_,_,rfl,rfl,SqT.of a,rfl,q⟩) k1 (next_i ?_))
    dsimp only
    refine seq_i (skip_if (fun Q q=>⟨_,rfl,_,_,_,_,rfl,rfl,SqT.of a,rfl,q⟩) k2 (next_i ?_))
    dsimp only
    refine seq_i (skip_if (fun Q q=>⟨_,rfl,_,_,_,_,rfl,rfl,SqT.of a,rfl,q⟩) k3 (next_i ?_))
    dsimp only
    refine seq_i (skip_if (fun Q q=>⟨_,rfl,_,_,_,_,rfl,rfl,SqT.of a,rfl,q⟩) k4 (next_i ?_))
    dsimp only
    refine seq_i (skip_if (fun Q q=>⟨_,rfl,_,_,_,_,rfl,rfl,SqT.of a,rfl,q⟩) k5 (next_i ?_))
    dsimp only
    refine seq_i (asg_i ?_)
    intro pd hpd
    have sd1:=same_new hpd (.dK [])
    refine ⟨upd_same,markD,rfl,by decide +kernel,?_⟩
    have sd:Same H (upd (upd H pd (.dK [])) pd (.dK (mergeK [] markD))):=fun x o ex=>by
      rw [upd_ne (ne_of_none ex hpd),upd_ne (ne_of_none ex hpd)]
      exact ex
    refine ⟨_,rfl,_,_,_,_,rfl,rfl,SqT.of (sd _ _ a),rfl,pd,.str m,rfl,.inl ⟨_,.inr k,.inl upd_same,rfl,vm.symm⟩,gname_i ?_⟩
    dsimp only
    generalize upd (upd H pd (.dK [])) pd (.dK (mergeK [] markD))=H0 at sd ⊢
    refine ⟨rfl,_,rfl,_,rfl,_,_,_,_,rfl,rfl,SqT.of (sd _ _ a),rfl,v1,s1,rfl,(c.le (by omega)).same sd,fun H1 g1=>?_⟩
    have g1:=sd.trans g1
    refine ⟨_,rfl,_,_,_,_,rfl,rfl,SqT.of (g1 _ _ a),rfl,v2,s2,rfl,(d.le (by omega)).same g1,fun H2 g2=>?_⟩
    refine ⟨by show 3≤sizeLine; omega,fun l hl=>?_⟩
    have g3:=(g1.trans g2).trans (same_new hl (.lst [V.str m,V.str s1,V.str s2]))
    have j1:=c.len
    have j2:=d.len
    refine ⟨_,l,[m,s1,s2],rfl,rfl,.inl (SqL.of upd_same),?_,q _ g3⟩
    have e2:(" ":Str).length=1:=by decide
    show m.length + (s1.length + (s2.length + 0)) + 3 * (" ":Str).length≤16777216
    omega
theorem ok_lw (D:Df K mg "_law_words" s_law_words pLw f fd) (B:Bl mg):∀ n:Nat,n≤100→FnOk P w K mg base CX0 n f fd pLw (spFw n)
  | 0,_=>⟨fun vs H Q E h=>(by obtain ⟨v,s,rfl,h,_⟩:=h; exact absurd h.pos (Nat.lt_irrefl 0)),fun A outer s H args us vs Q E a b c d h=>(by obtain ⟨v,s,rfl,h,_⟩:=h; exact absurd h.pos (Nat.lt_irrefl 0))⟩
  | n + 1,h=>lw_step D B (by omega) (ok_lw D B n (by omega))
end
end My
namespace My
open PySem L2
theorem strs_ne {H:Hp} {p lb:Addr} {bs:List Str} (pu:Purse H p) (hb:H lb=some (.lst (bs.map V.str))):lb≠p:=by
  obtain ⟨x,y,e⟩:=pu
  refine ne_of hb e fun z=>?_
  cases bs with
  | nil=>cases z
  | cons b r=>cases z
theorem at_drawn {bs:List Str} {r:Int} (h0:0≤r) (h1:r < bs.length):∃ x,atI (bs.map V.str) r=some (.str x)∧x∈bs:=by
  obtain ⟨j,rfl⟩:∃ j:Nat,r=(j:Int):=⟨r.toNat,by omega⟩
  have lt:j < bs.length:=by omega
  exact ⟨bs[j],atI_nat (by rw [List.getElem?_map,List.getElem?_eq_getElem lt]; rfl),List.getElem_mem lt⟩
theorem tups_but {H H':Hp} {p:Addr} (pu:Purse H p) (b:But p H H'):∀ t xs,H t=some (.tup xs)→H' t=some (.tup xs):=fun t xs e=>b _ _ e (fun z=>by
  obtain ⟨x,y,e2⟩:=pu
  rw [← z,e] at e2
  cases e2)
theorem det_eqS {i:Nat} {x k:Str} {σ:St} {H:Hp} (hv:σ[i]?=some (some (.str x))):Det (tTest (tOp rEq (tVar i) (tC (.str k)))) σ H (decide (x=k)):=fun Q q=>⟨_,hv,rfl,_,rfl,by
  rw [show decide (V.str x=V.str k)=decide (x=k) from by
    by_cases c:x=k
    · subst c
      rw [decide_eq_true rfl,decide_eq_true rfl]
    · rw [decide_eq_false c,decide_eq_false (fun z=>c (V.str.inj z))]]
  exact q⟩
def leafW:List Str:=["number","box","long","got","now","number"]
def sevenW:List Str:=["plus","less","times","part","rest","below","same"]
theorem seven_ok:∀ x∈sevenW,(marks.lookup x).isSome=true:=by decide +kernel
theorem leaf_ok:∀ x∈leafW,x="number"∨x="box"∨x="long"∨x="got"∨x="now":=by decide +kernel
section
variable {P:Program} {w:World} {K:PySem.W.Frag} {mg:Str→Option Value} {base:Heap} {f fT fW:Addr} {fd fdT fdW:FuncData}
seal L2.PS L2.PSs L2.PE L2.PA L2.PT L2.PW L2.PI L2.PG L2.PGs L2.PC
def NmIn (H:Hp) (l:Addr):Prop:=∃ ns:List Str,H l=some (.lst (ns.map V.str))∧0 < ns.length∧ns.length≤9∧∀ x∈ns,x.length≤6
theorem NmIn.but {H H':Hp} {p l:Addr} (h:NmIn H l) (pu:Purse H p) (b:But p H H'):NmIn H' l:=by
  obtain ⟨ns,e,r⟩:=h
  exact ⟨ns,b _ _ e (strs_ne pu e),r⟩
abbrev nFo:List Str:=["_law_purse_here","_law_names_here","_law_most","_law_sort","_law_word","_law_share","_law_one"]
abbrev pFo:List Str:=["_law_purse_here","_law_names_here","_law_most"]
theorem scFo:FnScope nFo pFo (defScope s_law_formula):=⟨rfl,rfl,rfl,by decide +kernel,rfl,by decide +kernel,by decide +kernel⟩
def spFo (n:Nat):Sp:=fun vs H Q _=>∃ (p l:Addr) (m:Nat),vs=[.ref p,.ref l,.int m]∧Purse H p∧NmIn H l∧0 < m∧m≤n ∧
  ∀ (v:V) (s:Str) (H':Hp),FI H' m v s→Purse H' p→But p H H'→Q v H'
theorem fo_step {n:Nat} (D:Df K mg "_law_formula" s_law_formula pFo f fd) (DT:Df K mg "_law_take" s_law_take pT fT fdT) (DW:Df K mg "_law_worth" s_law_worth pW fW fdW) (B:Bl mg) (hn:n≤100) (GR:FnOk P w K mg base CX0 (n + 2) f fd pFo (spFo n)):FnOk P w K mg base CX0 (n + 3) f fd pFo (spFo (n + 1)):=by
  have GT:FnOk P w K mg base CX0 1 fT fdT pT spTake:=ok_take DT B
  have GW:FnOk P w K mg base CX0 2 fW fdW pW spWorth:=ok_worth DW DT B
  refine D.F.ok scFo (fun vs H Q E h=>?_) (fun cdv A outer s H vs Q E hr h=>?_)
  · obtain ⟨p,l,m,rfl,_⟩:=h
    rfl
  obtain ⟨p,l,m,rfl,pu,nm,m0,mn,q⟩:=h
  have r1:Room 1 _:=hr.mono (by omega)
  have r2:Room 2 _:=hr.mono (by omega)
  refine ⟨_,pss_cons (ps_set (i:=3) scFo.nd rfl (Or.inl rfl) (pe_call GT r1 (by rfl) DT.m DT.F.kp DT.b .nil pass0 (pa_n (pv 0) (pa_c pe_int pa_nil))))
    (pss_cons (ps_if ((pw_or (pt_cmpR op_lt (pv 2) pe_int (nomark _)) (pw_or1 (pt_cmpR op_lt (pv 3) pe_int (nomark _)))).pt) (pss_cons (ps_set (i:=4) scFo.nd rfl (Or.inl rfl) (pe_ix ix_list (pe_lst (pa_c pe_str (pa_c pe_str (pa_c pe_str (pa_c pe_str (pa_c pe_str (pa_c pe_str pa_nil))))))) (pe_op op_mod (pv 3) pe_int) (fun _ _=>rfl)))
    (pss_cons (ps_if ((pw_or (pt_cmpR op_eq (pv 4) pe_str (nomark _)) (pw_or1 (pt_cmpR op_eq (pv 4) pe_str (nomark _)))).pt) (pss_one (ps_ret (pe_tup (pa_n (pv 4) (pa_s (pe_ix ix_list (pv 1) (pe_call GT r1 (by rfl) DT.m DT.F.kp DT.b .nil pass0 (pa_n (pv 0) (pa_f (pe_callB (call_lenK K (by rfl)) (by rfl) B.len PySem.boot_len (pa_n (pv 1) pa_nil)) pa_nil))) (fun _ _=>rfl)) pa_nil))))) pss_nil)
    (pss_cons (ps_if (pt_cmpR op_eq (pv 4) pe_str (nomark _)) (pss_one (ps_ret (pe_tup (pa_n (pv 4) (pa_f (pe_call GT r1 (by rfl) DT.m DT.F.kp DT.b .nil pass0 (pa_n (pv 0) (pa_c pe_int pa_nil))) pa_nil))))) pss_nil)
    (pss_one (ps_ret (pe_ix ix_list (pe_lst (pa_tup (pe_tup (pa_n (pv 4) pa_nil)) (pa_tup (pe_tup (pa_c pe_str (pa_f (pe_call GW r2 (by rfl) DW.m DW.F.kp DW.b .nil pass0 (pa_n (pv 0) pa_nil)) pa_nil))) pa_nil))) (pe_callTy call_int1 (by rfl) B.int boot_int (pa_cons (pe_cmpR op_eq (pv 4) pe_str (nomark _)) pa_nil)) (fun _ _=>rfl))))))) pss_nil)
    (pss_cons (ps_set (i:=4) scFo.nd rfl (Or.inl rfl) (pe_ix ix_list (pe_lst (pa_c pe_str (pa_c pe_str (pa_c pe_str (pa_c pe_str (pa_c pe_str (pa_c pe_str (pa_c pe_str pa_nil)))))))) (pe_call GT r1 (by rfl) DT.m DT.F.kp DT.b .nil pass0 (pa_n (pv 0) (pa_c pe_int pa_nil))) (fun _ _=>rfl)))
    (pss_cons (ps_set (i:=5) scFo.nd rfl (Or.inl rfl) (pe_op op_add pe_int (pe_call GT r1 (by rfl) DT.m DT.F.kp DT.b .nil pass0 (pa_n (pv 0) (pa_b (pe_op op_sub (pv 2) pe_int) pa_nil)))))
    (pss_cons (ps_set (i:=6) scFo.nd rfl (Or.inl rfl) (pe_call GR hr (by rfl) D.m D.F.kp D.b .nil pass0 (pa_n (pv 0) (pa_n (pv 1) (pa_n (pv 5) pa_nil)))))
    (pss_one (ps_ret (pe_tup (pa_n (pv 4) (pa_n (pv 6) (pa_f (pe_call GR hr (by rfl) D.m D.F.kp D.b .nil pass0 (pa_n (pv 0) (pa_n (pv 1) (pa_b (pe_op op_sub (pe_op op_sub (pv 2) pe_int) (pv 5)) pa_nil)))) pa_nil)))))))))),?_⟩
  have big:=line1000
  have dn:¬ ("now":Str)="number":=by decide +kernel
  have fin:∀ {G1:Hp} {xs:List V} {z:Str},But p H G1→Purse G1 p→(∀ G t,Same G1 G→G t=some (.tup xs)→FI G m (.ref t) z)→xs.length≤3→xs.length≤sizeLine∧∀ t,G1 t=none→Q (.ref t) (upd G1 t (.tup xs)):=fun {G1 xs z} b1 pu1 hF hl=>⟨by omega,fun t ht=>q _ z _ (hF _ t (same_new ht _) upd_same) (pu1.same (same_new ht _)) (b1.same (same_new ht _))⟩
  obtain ⟨m',rfl⟩:∃ m',m=m' + 1:=⟨m - 1,by omega⟩
  refine seq_i (asg_i ?_)
  refine ⟨_,rfl,p,12,rfl,pu,by decide,by decide,fun so G so0 so1 puG bG=>?_⟩
  refine gname_i ?_
  dsimp only
  refine seq_i ?_
  refine det_if (Det.or (det_lt rfl) fun _=>det_lt rfl) (fun _=>?_) (fun c=>?_)
  · refine seq_i (asg_i ?_)
    refine ⟨by show 6≤sizeLine; omega,fun lw hlw=>?_⟩
    have sl:=same_new hlw (.lst [V.str "number",V.str "box",V.str "long",V.str "got",V.str "now",V.str "number"])
    obtain ⟨x,hx,mx⟩:=at_drawn (bs:=leafW) (Int.emod_nonneg so (show (6:Int)≠0 by decide)) (show so % 6 < 6 from Int.emod_lt_of_pos so (by decide))
    refine ⟨_,rfl,_,_,rfl,rfl,(by show (0:Int) < 6; decide),lw,_,_,_,rfl,rfl,SqL.of upd_same,hx,gname_i ?_⟩
    dsimp only
    have puL:=puG.same sl
    have bL:=bG.same sl
    generalize upd G lw (.lst [V.str "number",V.str "box",V.str "long",V.str "got",V.str "now",V.str "number"])=GL at puL bL ⊢
    obtain ⟨ns,hns,ns0,ns9,ns6⟩:=nm.but pu bL
    have nlp:=strs_ne puL hns
    refine seq_i ?_
    refine det_if (Det.or (det_eqS rfl) fun _=>det_eqS rfl) (fun c=>?_) (fun c=>?_)
    · refine ⟨_,rfl,_,rfl,_,rfl,_,rfl,l,_,rfl,.inl (SqL.of hns),p,_,rfl,puL,by rw [List.length_map]; omega,by rw [List.length_map]; omega,fun r G1 r0 r1' pu1 b1=>?_⟩
      rw [List.length_map] at r1'
      obtain ⟨y,hy,my⟩:=at_drawn r0 r1'
      refine ⟨l,_,_,_,rfl,rfl,SqL.of (b1 _ _ hns nlp),hy,?_⟩
      have cc:x="box"∨x="long":=by
        rcases Bool.or_eq_true _ _ ▸ c with c | c
        · exact .inl (of_decide_eq_true c)
        · exact .inr (of_decide_eq_true c)
      rcases cc with rfl | rfl
      · exact fin (bL.trans b1) pu1 (fun G t _ e=>.box e (ns6 y my)) (by show 2≤3; decide)
      · exact fin (bL.trans b1) pu1 (fun G t _ e=>.long e (ns6 y my)) (by show 2≤3; decide)
    refine seq_i ?_
    refine det_if (det_eqS rfl) (fun c2=>?_) (fun c2=>?_)
    · refine ⟨_,rfl,_,rfl,p,2,rfl,puL,by decide,by decide,fun r G1 r0 r1' pu1 b1=>?_⟩
      have:=of_decide_eq_true c2
      subst this
      exact fin (bL.trans b1) pu1 (fun G t _ e=>.got e (by omega)) (by show 2≤3; decide)
    refine ⟨_,rfl,⟨by show 1≤sizeLine; omega,fun t1 ht1=>?_⟩⟩
    have s1:=same_new ht1 (.tup [V.str x])
    refine ⟨_,rfl,p,rfl,puL.same s1,fun z G2 z1 z2 pu2 b2=>⟨by show 2≤sizeLine; omega,fun t2 ht2=>⟨by show 2≤sizeLine; omega,fun l3 hl3=>?_⟩⟩⟩
    have s2:=same_new ht2 (.tup [V.str "number",V.int z])
    have s3:=same_new hl3 (.lst [V.ref t1,V.ref t2])
    have h1:=s3 _ _ (s2 _ _ (b2 _ _ (show upd GL t1 (.tup [V.str x]) t1=_ from upd_same) (newp puL ht1)))
    have h2:=s3 _ _ (show upd G2 t2 (.tup [V.str "number",V.int z]) t2=_ from upd_same)
    have pu4:=(pu2.same s2).same s3
    have b4:=(((bL.same s1).trans b2).same s2).same s3
    have h3:upd (upd G2 t2 (.tup [V.str "number",V.int z])) l3 (.lst [V.ref t1,V.ref t2]) l3=_:=upd_same
    generalize upd (upd G2 t2 (.tup [V.str "number",V.int z])) l3 (.lst [V.ref t1,V.ref t2])=G4 at h1 h2 h3 pu4 b4 ⊢
    rcases leaf_ok x mx with rfl | rfl | rfl | rfl | rfl
    · exact ⟨_,rfl,rfl,.inr ⟨_,rfl,l3,_,_,_,rfl,rfl,SqL.of h3,rfl,q _ _ _ (.num h2 ⟨z1,z2⟩) pu4 b4⟩⟩
    · exact absurd c (by decide +kernel)
    · exact absurd c (by decide +kernel)
    · exact absurd c2 (by decide +kernel)
    · exact ⟨_,rfl,rfl,.inr ⟨_,rfl,l3,_,_,_,rfl,rfl,SqL.of h3,rfl,q _ _ _ (.now h1) pu4 b4⟩⟩
  have cm:¬ m' + 1 < 3:=by
    have:=(Bool.or_eq_false_iff.mp c).1
    have:=of_decide_eq_false this
    omega
  refine next_i ?_
  dsimp only
  refine seq_i (asg_i ?_)
  refine ⟨by show 7≤sizeLine; omega,fun lw hlw=>?_⟩
  have sl:=same_new hlw (.lst [V.str "plus",V.str "less",V.str "times",V.str "part",V.str "rest",V.str "below",V.str "same"])
  refine ⟨_,rfl,p,7,rfl,puG.same sl,by decide,by decide,fun r G2 r0 r1' pu2 b2=>?_⟩
  obtain ⟨x,hx,mx⟩:=at_drawn (bs:=sevenW) r0 (show r < 7 from r1')
  refine ⟨lw,_,_,_,rfl,rfl,SqL.of (b2 _ _ upd_same (newp puG hlw)),hx,gname_i ?_⟩
  dsimp only
  have b02:=(bG.same sl).trans b2
  obtain ⟨mk,hmk⟩:∃ mk,marks.lookup x=some mk:=Option.isSome_iff_exists.mp (seven_ok x mx)
  refine seq_i (asg_i ?_)
  refine ⟨_,rfl,_,rfl,_,_,rfl,rfl,p,_,rfl,pu2,by omega,by omega,fun r3 G3 r30 r31 pu3 b3=>⟨_,_,rfl,rfl,gname_i ?_⟩⟩
  dsimp only
  have b03:=b02.trans b3
  obtain ⟨k,rfl⟩:∃ k:Nat,r3=(k:Int):=⟨r3.toNat,by omega⟩
  refine seq_i (asg_i ?_)
  refine ⟨_,rfl,_,rfl,_,rfl,p,l,1 + k,(by rw [Int.natCast_add]; rfl),pu3,nm.but pu b03,by omega,by omega,fun v1 s1 G4 F1 pu4 b4=>gname_i ?_⟩
  dsimp only
  have b04:=b03.trans b4
  refine ⟨_,rfl,_,rfl,_,rfl,_,rfl,_,rfl,_,_,rfl,rfl,_,rfl,_,_,rfl,rfl,p,l,m' - (1 + k),?_,pu4,nm.but pu b04,by omega,by omega,fun v2 s2 G5 F2 pu5 b5=>?_⟩
  · have:((m' + 1:Nat):Int) - 1 - (1 + (k:Int))=((m' - (1 + k):Nat):Int):=by omega
    show [V.ref p,V.ref l,V.int (((m' + 1:Nat):Int) - 1 - (1 + (k:Int)))]=_
    rw [this]
  · exact fin (b04.trans b5) pu5 (fun G t sg e=>.two e hmk ((F1.up (tups_but pu4 b5)).same sg) (F2.same sg) (by omega)) (by show 3≤3; decide)
theorem ok_fo (D:Df K mg "_law_formula" s_law_formula pFo f fd) (DT:Df K mg "_law_take" s_law_take pT fT fdT) (DW:Df K mg "_law_worth" s_law_worth pW fW fdW) (B:Bl mg):∀ n:Nat,n≤100→FnOk P w K mg base CX0 (n + 2) f fd pFo (spFo n)
  | 0,_=>⟨fun vs H Q E h=>(by obtain ⟨p,l,m,rfl,_,_,h1,h2,_⟩:=h; omega),fun A outer s H args us vs Q E a b c d h=>(by obtain ⟨p,l,m,rfl,_,_,h1,h2,_⟩:=h; omega)⟩
  | n + 1,h=>fo_step D DT DW B (by omega) (ok_fo D DT DW B n (by omega))
end
end My
namespace My
open PySem L2
abbrev Rw:=Nat×(Str→List Str)
def rowsC (rs:List Rw):Nat:=(rs.map (·.1)).sum
def rowsL (rs:List Rw) (b:Str):List Str:=rs.flatMap fun r=>r.2 b
inductive LfD (H:Hp):V→Str→Prop where
  | fin {t}:H t=some (.tup [.str "end"])→LfD H (.ref t) "end"
  | three {t k x v s}:H t=some (.tup [.str k,.str x,v])→(k="put"∨k="push"∨k="draw")→x.length≤6→FI H 15 v s→LfD H (.ref t) (Txt.join " " [k,x,s])
  | send {t z x v1 y v2 v3 s1 s2 s3}:H t=some (.tup [.str "send",.int z,.str x,v1,.int y,v2,v3])→Wo z→Wo y→x.length≤6→FI H 15 v1 s1→FI H 15 v2 s2→FI H 15 v3 s3 →
    LfD H (.ref t) (Txt.join " " ["send",Str.ofString (toString z),x,Str.ofString (toString y),s1,s2,s3])
def DI (H:Hp):Nat→V→Rw→Prop
  | 0,_,_=>False
  | n + 1,v,r=>(∃ s,LfD H v s∧r=(1,fun b=>[b++s])) ∨
    (∃ t l x y vs rs,0 < n∧v=.ref t∧H t=some (.tup [.str "pull",.str x,.str y,.ref l])∧x.length≤6∧y.length≤6∧H l=some (.lst vs)∧Paired (fun r v=>DI H n v r) rs vs ∧
      r=(1 + rowsC rs,fun b=>(b++Txt.join " " ["pull",x,y]) :: rowsL rs (b++"  "))) ∨
    (∃ t l1 l2 f s vs1 vs2 rs1 rs2,0 < n∧v=.ref t∧H t=some (.tup [.str "if",f,.ref l1,.ref l2])∧FI H 15 f s∧H l1=some (.lst vs1)∧H l2=some (.lst vs2)∧Paired (fun r v=>DI H n v r) rs1 vs1∧Paired (fun r v=>DI H n v r) rs2 vs2 ∧
      r=(1 + rowsC rs1 + rowsC rs2,fun b=>(b++("if "++s)) :: (rowsL rs1 (b++"  ")++(b++"else") :: rowsL rs2 (b++"  "))))
def Tk (H H':Hp):Prop:=∀ t xs,H t=some (.tup xs)→H' t=some (.tup xs)
theorem Tk.trans {H H1 H2:Hp} (a:Tk H H1) (b:Tk H1 H2):Tk H H2:=fun t xs e=>b _ _ (a _ _ e)
def Nl (H H1 G:Hp):Prop:=∀ a xs,H a=none→H1 a=some (.lst xs)→G a=some (.lst xs)
def OwD (H H1:Hp) (n:Nat) (v:V) (r:Rw):Prop:=∀ G,Tk H1 G→Nl H H1 G→DI G n v r
def OwS (H H1:Hp) (n:Nat) (vs:List V) (rs:List Rw):Prop:=∀ G,Tk H1 G→Nl H H1 G→Paired (fun r v=>DI G n v r) rs vs
theorem LfD.up {H H':Hp} {v:V} {s:Str} (h:LfD H v s) (k:Tk H H'):LfD H' v s:=by
  cases h with
  | fin a=>exact .fin (k _ _ a)
  | three a b c d=>exact .three (k _ _ a) b c (d.up k)
  | send a b c d e1 e2 e3=>exact .send (k _ _ a) b c d (e1.up k) (e2.up k) (e3.up k)
def Bt2 (p q:Addr) (H H':Hp):Prop:=∀ b o,H b=some o→b≠p→b≠q→H' b=some o
theorem Bt2.of {p q:Addr} {H H':Hp} (h:But p H H'):Bt2 p q H H':=fun b o e n _=>h b o e n
theorem Bt2.trans {p q:Addr} {H H1 H2:Hp} (a:Bt2 p q H H1) (b:Bt2 p q H1 H2):Bt2 p q H H2:=fun c o e n m=>b c o (a c o e n m) n m
theorem Bt2.same {p q:Addr} {H H1 H2:Hp} (a:Bt2 p q H H1) (b:Same H1 H2):Bt2 p q H H2:=fun c o e n m=>b c o (a c o e n m)
structure Two (H:Hp) (p q:Addr) (z:Int):Prop where
  pu:Purse H p
  le:H q=some (.lst [.int z])
theorem Two.ne {H:Hp} {p q:Addr} {z:Int} (h:Two H p q z):q≠p:=by
  obtain ⟨⟨x,y,e⟩,e2⟩:=h
  exact ne_of e2 e (fun w=>by cases w)
theorem Two.tk {H H':Hp} {p q:Addr} {z:Int} (h:Two H p q z) (b:Bt2 p q H H'):Tk H H':=fun t xs e=>b _ _ e (fun w=>by
    obtain ⟨⟨x,y,e3⟩,e2⟩:=h
    rw [← w,e] at e3
    cases e3) (fun w=>by
    have e2:=h.le
    rw [← w,e] at e2
    cases e2)
theorem Two.but {H H':Hp} {p q:Addr} {z:Int} (h:Two H p q z) (b:But p H H') (pu:Purse H' p):Two H' p q z:=⟨pu,b _ _ h.le h.ne⟩
theorem Two.same {H H':Hp} {p q:Addr} {z:Int} (h:Two H p q z) (b:Same H H'):Two H' p q z:=⟨h.pu.same b,b _ _ h.le⟩
theorem Two.nm {H H':Hp} {p q l:Addr} {z:Int} (h:Two H p q z) (nm:NmIn H l) (b:Bt2 p q H H'):NmIn H' l:=by
  obtain ⟨ns,e,r⟩:=nm
  refine ⟨ns,b _ _ e (strs_ne h.pu e) (fun w=>?_),r⟩
  have e2:=h.le
  rw [← w,e] at e2
  cases ns with
  | nil=>cases e2
  | cons a s=>cases e2
theorem Two.dm {H H':Hp} {p q:Addr} {z':Int} (b:Bt2 p q H H') (h:Two H' p q z') {a:Addr} (n:H' a=none):H a=none:=by
  cases e:H a with
  | none=>rfl
  | some o =>
    obtain ⟨⟨x,y,e3⟩,e2⟩:=h
    by_cases c:a=p
    · rw [c,e3] at n
      cases n
    by_cases c2:a=q
    · rw [c2,e2] at n
      cases n
    rw [b a o e c c2] at n
    cases n
theorem Two.nn {H:Hp} {p q a:Addr} {z:Int} (h:Two H p q z) (n:H a=none):a≠p∧a≠q:=by
  obtain ⟨⟨x,y,e3⟩,e2⟩:=h
  exact ⟨(ne_of_none e3 n).symm,(ne_of_none e2 n).symm⟩
theorem Nl.back {H H1 H2 G:Hp} {p q:Addr} {z:Int} (tw:Two H p q z) (b:Bt2 p q H1 H2) (nl:Nl H H2 G):Nl H H1 G:=fun a xs ha e=>nl a xs ha (b a _ e (tw.nn ha).1 (tw.nn ha).2)
theorem Nl.pull {H G1 H1 G:Hp} {p q:Addr} {z:Int} (b:Bt2 p q H G1) (tw:Two G1 p q z) (nl:Nl H H1 G):Nl G1 H1 G:=fun a xs ha e=>nl a xs (Two.dm b tw ha) e
theorem psnoc {α β:Type} {R:α→β→Prop} {rs:List α} {vs:List β} {r:α} {v:β} (h:Paired R rs vs) (e:R r v):Paired R (rs++[r]) (vs++[v]):=by
  induction h with
  | nil=>exact .cons e .nil
  | cons a _ ih=>exact .cons a ih
section
variable {P:Program} {w:World} {K:PySem.W.Frag} {mg:Str→Option Value} {base:Heap} {f fT fW fF fE fS:Addr} {fd fdT fdW fdF fdE fdS:FuncData}
seal L2.PS L2.PSs L2.PE L2.PA L2.PT L2.PW L2.PI L2.PG L2.PGs L2.PC
abbrev nE:List Str:=["_law_purse_here","_law_names_here","_law_left","_law_deep","_law_sort","_law_name","_law_one","_law_ones","_law_rank","_law_two"]
abbrev pE:List Str:=["_law_purse_here","_law_names_here","_law_left","_law_deep"]
theorem scE:FnScope nE pE (defScope s_law_deed):=⟨rfl,rfl,rfl,by decide +kernel,rfl,by decide +kernel,by decide +kernel⟩
abbrev nS:List Str:=["_law_purse_here","_law_names_here","_law_left","_law_deep","_law_found","_law_k"]
abbrev pS:List Str:=["_law_purse_here","_law_names_here","_law_left","_law_deep"]
theorem scS:FnScope nS pS (defScope s_law_deeds):=⟨rfl,rfl,rfl,by decide +kernel,rfl,by decide +kernel,by decide +kernel⟩
theorem pick_i {p l q:Addr} {z:Int} {i j:Nat} {σ:St} {G:Hp} {E':XK} {R:VK} (hp:σ[i]?=some (some (.ref p))) (hl:σ[j]?=some (some (.ref l))) (tw:Two G p q z) (nm:NmIn G l)
    (h:∀ (x:Str) (G1:Hp),x.length≤6→Two G1 p q z→NmIn G1 l→Bt2 p q G G1→R (.str x) G1):tOp (rIxL K) (tVar j) (tCall spTake [] E' (tCons (tVar i) (tCons (tCB (rLenK K) (tCons (tVar j) tNil)) tNil))) σ G R:=by
  obtain ⟨ns,e,n0,n9,n6⟩:=nm
  refine ⟨_,hl,_,hp,_,hl,l,_,rfl,.inl (SqL.of e),p,_,rfl,tw.pu,by rw [List.length_map]; omega,by rw [List.length_map]; omega,fun r G1 r0 r1 pu b=>?_⟩
  rw [List.length_map] at r1
  obtain ⟨x,hx,mx⟩:=at_drawn r0 r1
  have e1:=b _ _ e (strs_ne tw.pu e)
  exact ⟨l,_,_,_,rfl,rfl,SqL.of e1,hx,h x G1 (n6 x mx) (tw.but b pu) ⟨ns,e1,n0,n9,n6⟩ (.of b)⟩
def spDe (n:Nat):Sp:=fun vs H Q _=>∃ (p l q:Addr) (d z:Int),vs=[.ref p,.ref l,.ref q,.int d]∧Two H p q z∧NmIn H l∧0 < z∧5 < d + n∧d≤5 ∧
  ∀ (v:V) (r:Rw) (H':Hp) (z':Int),OwD H H' n v r→Two H' p q z'→(r.1:Int) + z'≤z→0≤z'→Bt2 p q H H'→Q v H'
def spDs (n:Nat):Sp:=fun vs H Q _=>∃ (p l q:Addr) (d z:Int),vs=[.ref p,.ref l,.ref q,.int d]∧Two H p q z∧NmIn H l∧0≤z∧5 < d + n∧d≤5 ∧
  ∀ (m:Addr) (vs:List V) (rs:List Rw) (H':Hp) (z':Int),H m=none→H' m=some (.lst vs)→OwS H H' n vs rs→Two H' p q z'→(rowsC rs:Int) + z'≤z→0≤z'→Bt2 p q H H'→Q (.ref m) H'
theorem de_step {n:Nat} (D:Df K mg "_law_deed" s_law_deed pE f fd) (DT:Df K mg "_law_take" s_law_take pT fT fdT) (DW:Df K mg "_law_worth" s_law_worth pW fW fdW) (DF:Df K mg "_law_formula" s_law_formula pFo fF fdF) (DS:Df K mg "_law_deeds" s_law_deeds pS fS fdS) (B:Bl mg) (GS:FnOk P w K mg base CX0 (2 * n + 19) fS fdS pS (spDs n)):FnOk P w K mg base CX0 (2 * n + 20) f fd pE (spDe (n + 1)):=by
  have GT:FnOk P w K mg base CX0 1 fT fdT pT spTake:=ok_take DT B
  have GF:FnOk P w K mg base CX0 17 fF fdF pFo (spFo 15):=ok_fo DF DT DW B 15 (by decide)
  refine D.F.ok scE (fun vs H Q E h=>?_) (fun cdv A outer s H vs Q E hr h=>?_)
  · obtain ⟨p,l,q,d,z,rfl,_⟩:=h
    rfl
  obtain ⟨p,l,q,d,z,rfl,tw,nm,z0,dn,d5,k⟩:=h
  have r1:Room 1 _:=hr.mono (by omega)
  have r17:Room 17 _:=hr.mono (by omega)
  refine ⟨_,pss_cons (ps_set (i:=4) scE.nd rfl (Or.inl rfl) (pe_call GT r1 (by rfl) DT.m DT.F.kp DT.b .nil pass0 (pa_n (pv 0) (pa_c pe_int pa_nil))))
    (pss_cons (ps_asg (pe_op op_sub (pe_ix ix_list (pv 2) pe_int (fun _ _=>rfl)) pe_int) (pg_sub (pv 2) pe_int set_list))
    (pss_cons (ps_set (i:=5) scE.nd rfl (Or.inl rfl) (pe_ix ix_list (pv 1) (pe_call GT r1 (by rfl) DT.m DT.F.kp DT.b .nil pass0 (pa_n (pv 0) (pa_f (pe_callB (call_lenK K (by rfl)) (by rfl) B.len PySem.boot_len (pa_n (pv 1) pa_nil)) pa_nil))) (fun _ _=>rfl)))
    (pss_cons (ps_if (pt_cmpR op_eq (pv 4) pe_int (nomark _)) (pss_one (ps_ret (pe_tup (pa_c pe_str pa_nil)))) pss_nil)
    (pss_cons (ps_if ((pw_and (pt_cmpR op_eq (pv 4) pe_int (nomark _)) (pw_and1 (pt_cmpR op_lt (pv 3) pe_int (nomark _)))).pt) (pss_one (ps_ret (pe_tup (pa_c pe_str (pa_n (pv 5) (pa_s (pe_ix ix_list (pv 1) (pe_call GT r1 (by rfl) DT.m DT.F.kp DT.b .nil pass0 (pa_n (pv 0) (pa_f (pe_callB (call_lenK K (by rfl)) (by rfl) B.len PySem.boot_len (pa_n (pv 1) pa_nil)) pa_nil))) (fun _ _=>rfl)) (pa_f (pe_call GS hr (by rfl) DS.m DS.F.kp DS.b .nil pass0 (pa_n (pv 0) (pa_n (pv 1) (pa_n (pv 2) (pa_b (pe_op op_add (pv 3) pe_int) pa_nil))))) pa_nil))))))) pss_nil)
    (pss_cons (ps_set (i:=6) scE.nd rfl (Or.inl rfl) (pe_call GF r17 (by rfl) DF.m DF.F.kp DF.b .nil pass0 (pa_n (pv 0) (pa_n (pv 1) (pa_s (pe_ix ix_list (pe_lst (pa_c pe_int (pa_c pe_int (pa_c pe_int (pa_c pe_int pa_nil))))) (pe_call GT r1 (by rfl) DT.m DT.F.kp DT.b .nil pass0 (pa_n (pv 0) (pa_c pe_int pa_nil))) (fun _ _=>rfl)) pa_nil)))))
    (pss_cons (ps_if ((pw_and (pt_cmpR op_eq (pv 4) pe_int (nomark _)) (pw_and1 (pt_cmpR op_lt (pv 3) pe_int (nomark _)))).pt) (pss_cons (ps_set (i:=7) scE.nd rfl (Or.inl rfl) (pe_call GS hr (by rfl) DS.m DS.F.kp DS.b .nil pass0 (pa_n (pv 0) (pa_n (pv 1) (pa_n (pv 2) (pa_b (pe_op op_add (pv 3) pe_int) pa_nil))))))
    (pss_one (ps_ret (pe_tup (pa_c pe_str (pa_n (pv 6) (pa_n (pv 7) (pa_f (pe_call GS hr (by rfl) DS.m DS.F.kp DS.b .nil pass0 (pa_n (pv 0) (pa_n (pv 1) (pa_n (pv 2) (pa_b (pe_op op_add (pv 3) pe_int) pa_nil))))) pa_nil)))))))) pss_nil)
    (pss_cons (ps_if (pt_cmpR op_gt (pv 4) pe_int (nomark _)) (pss_cons (ps_set (i:=8) scE.nd rfl (Or.inl rfl) (pe_call GT r1 (by rfl) DT.m DT.F.kp DT.b .nil pass0 (pa_n (pv 0) (pa_c pe_int pa_nil))))
    (pss_cons (ps_set (i:=9) scE.nd rfl (Or.inl rfl) (pe_call GF r17 (by rfl) DF.m DF.F.kp DF.b .nil pass0 (pa_n (pv 0) (pa_n (pv 1) (pa_c pe_int pa_nil)))))
    (pss_one (ps_ret (pe_tup (pa_c pe_str (pa_f (pe_call GT r1 (by rfl) DT.m DT.F.kp DT.b .nil pass0 (pa_n (pv 0) (pa_c pe_int pa_nil))) (pa_n (pv 5) (pa_n (pv 6) (pa_n (pv 8) (pa_n (pv 9) (pa_f (pe_call GF r17 (by rfl) DF.m DF.F.kp DF.b .nil pass0 (pa_n (pv 0) (pa_n (pv 1) (pa_c pe_int pa_nil)))) pa_nil)))))))))))) pss_nil)
    (pss_one (ps_ret (pe_tup (pa_s (pe_ix ix_list (pe_lst (pa_c pe_str (pa_c pe_str (pa_c pe_str pa_nil)))) (pv 4) (fun _ _=>rfl)) (pa_n (pv 5) (pa_n (pv 6) pa_nil))))))))))))),?_⟩
  have big:=line1000
  have fin:∀ {G:Hp} {xs:List V} {r:Rw} {z':Int},Bt2 p q H G→Two G p q z'→(r.1:Int) + z'≤z→0≤z'→(∀ G' t,Tk G G'→Nl H G G'→G' t=some (.tup xs)→DI G' (n + 1) (.ref t) r)→xs.length≤7→xs.length≤sizeLine∧∀ t,G t=none→Q (.ref t) (upd G t (.tup xs)):=fun {G xs r z'} b tw1 hz hz0 hD hl=>⟨by omega,fun t ht=>by
    have sm:=same_new ht (.tup xs)
    exact k (.ref t) r _ z' (fun G' tk nl=>hD G' t (fun a ys e=>tk _ _ (sm _ _ e)) (fun a ys ha e=>nl a ys ha (sm _ _ e)) (tk t xs upd_same)) (tw1.same sm) hz hz0 (b.same sm)⟩
  refine seq_i (asg_i ?_)
  refine ⟨_,rfl,p,8,rfl,tw.pu,by decide,by decide,fun so G1 so0 so1 pu1 b1=>?_⟩
  refine gname_i ?_
  dsimp only
  have tw1:=tw.but b1 pu1
  refine seq_i (asg_i ?_)
  refine ⟨_,rfl,q,_,_,_,rfl,rfl,SqL.of tw1.le,rfl,_,_,rfl,rfl,_,rfl,q,_,_,_,rfl,rfl,tw1.le,rfl,?_⟩
  have tw2:Two (upd G1 q (.lst ([V.int z].set (Int.toNat 0) (V.int (z - 1))))) p q (z - 1):=⟨by
    obtain ⟨x,y,e⟩:=tw1.pu
    exact ⟨x,y,by rw [upd_ne tw1.ne.symm]; exact e⟩,upd_same⟩
  have b2:Bt2 p q H (upd G1 q (.lst ([V.int z].set (Int.toNat 0) (V.int (z - 1))))):=fun b o e np nq=>by
    rw [upd_ne nq]
    exact b1 b o e np
  have nm2:=tw.nm nm b2
  dsimp only
  generalize upd G1 q (.lst ([V.int z].set (Int.toNat 0) (V.int (z - 1))))=G2 at tw2 b2 nm2 ⊢
  refine seq_i (asg_i ?_)
  refine pick_i (i:=0) (j:=1) rfl rfl tw2 nm2 (fun x G3 lx tw3 nm3 b3=>gname_i ?_)
  dsimp only
  have b03:=b2.trans b3
  refine seq_i ?_
  refine det_if (det_eq rfl) (fun _=>?_) (fun _=>?_)
  · exact fin (r:=(1,fun b=>[b++"end"])) b03 tw3 (by show (1:Int) + (z - 1)≤z; omega) (by omega) (fun G' t _ _ e=>.inl ⟨_,.fin e,rfl⟩) (by show 1≤7; decide)
  refine seq_i ?_
  refine det_if (Det.and (det_eq rfl) fun _=>det_lt rfl) (fun c=>?_) (fun _=>?_)
  · have d4:d < 5:=of_decide_eq_true (Bool.and_eq_true _ _ ▸ c).2
    refine ⟨_,rfl,pick_i (i:=0) (j:=1) rfl rfl tw3 nm3 (fun y G4 ly tw4 nm4 b4=>?_)⟩
    have b04:=b03.trans b4
    refine ⟨_,rfl,_,rfl,_,rfl,_,rfl,_,_,rfl,rfl,p,l,q,d + 1,z - 1,rfl,tw4,nm4,by omega,by omega,by omega,fun m vs rs G5 z5 hm hm5 ow tw5 hz hz0 b5=>?_⟩
    refine fin (r:=(1 + rowsC rs,fun b=>(b++Txt.join " " ["pull",x,y]) :: rowsL rs (b++"  "))) (b04.trans b5) tw5 (by show ((1 + rowsC rs:Nat):Int) + z5≤z; omega) hz0 (fun G' t tk nl e=>.inr (.inl ⟨t,m,x,y,vs,rs,by omega,rfl,e,lx,ly,?_,?_,rfl⟩)) (by show 4≤7; decide)
    · exact nl m vs (Two.dm b04 tw4 hm) hm5
    · exact ow G' tk (nl.pull b04 tw4)
  refine next_i ?_
  dsimp only
  refine seq_i (asg_i ?_)
  refine ⟨_,rfl,_,rfl,⟨by show 4≤sizeLine; omega,fun l4 hl4=>?_⟩⟩
  have s4:=same_new hl4 (.lst [V.int 15,V.int 5,V.int 3,V.int 1])
  have tw4:=tw3.same s4
  refine ⟨_,rfl,p,4,rfl,tw4.pu,by decide,by decide,fun r5 G5 r50 r51 pu5 b5=>?_⟩
  obtain ⟨mo,hmo,mo1,mo2⟩:∃ mo:Nat,atI [V.int 15,V.int 5,V.int 3,V.int 1] r5=some (.int mo)∧0 < mo∧mo≤15:=by
    have:r5=0∨r5=1∨r5=2∨r5=3:=by omega
    rcases this with rfl | rfl | rfl | rfl
    · exact ⟨15,rfl,by decide,by decide⟩
    · exact ⟨5,rfl,by decide,by decide⟩
    · exact ⟨3,rfl,by decide,by decide⟩
    · exact ⟨1,rfl,by decide,by decide⟩
  have tw5:=tw4.but b5 pu5
  have b05:Bt2 p q H G5:=(b03.same s4).trans (.of b5)
  refine ⟨l4,_,_,_,rfl,rfl,SqL.of (b5 _ _ upd_same (newp tw3.pu hl4)),hmo,p,l,mo,rfl,tw5.pu,tw.nm nm b05,mo1,mo2,fun v1 s1 G6 F1 pu6 b6=>gname_i ?_⟩
  dsimp only
  have F1:=F1.le mo2
  have tw6:=tw5.but b6 pu6
  have b06:=b05.trans (.of b6)
  have nm6:=tw.nm nm b06
  refine seq_i ?_
  refine det_if (Det.and (det_eq rfl) fun _=>det_lt rfl) (fun c=>?_) (fun _=>?_)
  · have d4:d < 5:=of_decide_eq_true (Bool.and_eq_true _ _ ▸ c).2
    refine seq_i (asg_i ?_)
    refine ⟨_,rfl,_,rfl,_,rfl,_,rfl,_,_,rfl,rfl,p,l,q,d + 1,z - 1,rfl,tw6,nm6,by omega,by omega,by omega,fun m7 vs7 rs7 G7 z7 hm7 hm77 ow7 tw7 hz7 hz70 b7=>gname_i ?_⟩
    dsimp only
    have b07:=b06.trans b7
    refine ⟨_,rfl,_,rfl,_,rfl,_,rfl,_,rfl,_,rfl,_,_,rfl,rfl,p,l,q,d + 1,z7,rfl,tw7,tw.nm nm b07,hz70,by omega,by omega,fun m8 vs8 rs8 G8 z8 hm8 hm88 ow8 tw8 hz8 hz80 b8=>?_⟩
    have b08:=b07.trans b8
    refine fin (r:=(1 + rowsC rs7 + rowsC rs8,fun b=>(b++("if "++s1)) :: (rowsL rs7 (b++"  ")++(b++"else") :: rowsL rs8 (b++"  ")))) b08 tw8 (by show ((1 + rowsC rs7 + rowsC rs8:Nat):Int) + z8≤z; omega) hz80 (fun G' t tk nl e=>.inr (.inr ⟨t,m7,m8,v1,s1,vs7,vs8,rs7,rs8,by omega,rfl,e,?_,?_,?_,?_,?_,rfl⟩)) (by show 4≤7; decide)
    · exact F1.up (((tw6.tk b7).trans (tw7.tk b8)).trans tk)
    · exact nl m7 vs7 (Two.dm b06 tw6 hm7) (b8 _ _ hm77 (tw6.nn hm7).1 (tw6.nn hm7).2)
    · exact nl m8 vs8 (Two.dm b07 tw7 hm8) hm88
    · exact ow7 G' ((tw7.tk b8).trans tk) ((nl.pull b06 tw6).back tw6 b8)
    · exact ow8 G' tk (nl.pull b07 tw7)
  refine seq_i ?_
  refine det_if (det_gt rfl) (fun _=>?_) (fun c=>?_)
  · refine seq_i (asg_i ?_)
    refine ⟨_,rfl,p,10,rfl,tw6.pu,by decide,by decide,fun rk G7 rk0 rk1 pu7 b7=>gname_i ?_⟩
    dsimp only
    have tw7:=tw6.but b7 pu7
    have b07:=b06.trans (.of b7)
    refine seq_i (asg_i ?_)
    refine ⟨_,rfl,_,rfl,p,l,3,rfl,tw7.pu,tw.nm nm b07,by decide,by decide,fun v2 s2 G8 F2 pu8 b8=>gname_i ?_⟩
    dsimp only
    have tw8:=tw7.but b8 pu8
    have b08:=b07.trans (.of b8)
    refine ⟨_,rfl,p,6,rfl,tw8.pu,by decide,by decide,fun to G9 to0 to1 pu9 b9=>?_⟩
    have tw9:=tw8.but b9 pu9
    have b09:=b08.trans (.of b9)
    refine ⟨_,rfl,_,rfl,_,rfl,_,rfl,_,rfl,_,rfl,p,l,3,rfl,tw9.pu,tw.nm nm b09,by decide,by decide,fun v3 s3 G10 F3 pu10 b10=>?_⟩
    have tw10:=tw9.but b10 pu10
    refine fin (r:=(1,fun b=>[b++Txt.join " " ["send",Str.ofString (toString to),x,Str.ofString (toString rk),s1,s2,s3]])) (b09.trans (.of b10)) tw10 (by show (1:Int) + (z - 1)≤z; omega) (by omega) (fun G' t tk nl e=>.inl ⟨_,.send e (by unfold Wo; omega) (by unfold Wo; omega) lx (F1.up ?_) ((F2.le (by decide)).up ?_) ((F3.le (by decide)).up tk),rfl⟩) (by show 7≤7; decide)
    · exact Tk.trans (Tk.trans (Tk.trans (Tk.trans (tups_but tw6.pu b7) (tups_but tw7.pu b8)) (tups_but tw8.pu b9)) (tups_but tw9.pu b10)) tk
    · exact Tk.trans (Tk.trans (tups_but tw8.pu b9) (tups_but tw9.pu b10)) tk
  have so2:so≤2:=by
    have:=of_decide_eq_false c
    omega
  refine next_i ?_
  dsimp only
  refine ⟨by show 3≤sizeLine; omega,fun l7 hl7=>?_⟩
  have s7:=same_new hl7 (.lst [V.str "put",V.str "push",V.str "draw"])
  obtain ⟨kk,hkk,kk3⟩:∃ kk:Str,atI [V.str "put",V.str "push",V.str "draw"] so=some (.str kk)∧(kk="put"∨kk="push"∨kk="draw"):=by
    have:so=0∨so=1∨so=2:=by omega
    rcases this with rfl | rfl | rfl
    · exact ⟨_,rfl,.inl rfl⟩
    · exact ⟨_,rfl,.inr (.inl rfl)⟩
    · exact ⟨_,rfl,.inr (.inr rfl)⟩
  refine ⟨_,rfl,l7,_,_,_,rfl,rfl,SqL.of upd_same,hkk,_,rfl,_,rfl,?_⟩
  exact fin (r:=(1,fun b=>[b++Txt.join " " [kk,x,s1]])) (b06.same s7) (tw6.same s7) (by show (1:Int) + (z - 1)≤z; omega) (by omega) (fun G' t tk nl e=>.inl ⟨_,.three e kk3 lx (F1.up fun a ys e=>tk _ _ (s7 _ _ e)),rfl⟩) (by show 3≤7; decide)
theorem ds_step {n:Nat} (D:Df K mg "_law_deeds" s_law_deeds pS f fd) (DT:Df K mg "_law_take" s_law_take pT fT fdT) (DE:Df K mg "_law_deed" s_law_deed pE fE fdE) (B:Bl mg) (GE:FnOk P w K mg base CX0 (2 * n + 18) fE fdE pE (spDe n)):FnOk P w K mg base CX0 (2 * n + 19) f fd pS (spDs n):=by
  have GT:FnOk P w K mg base CX0 1 fT fdT pT spTake:=ok_take DT B
  refine D.F.ok scS (fun vs H Q E h=>?_) (fun cdv A outer s H vs Q E hr h=>?_)
  · obtain ⟨p,l,q,d,z,rfl,_⟩:=h
    rfl
  obtain ⟨p,l,q,d,z,rfl,tw,nm,z0,dn,d5,k⟩:=h
  have r1:Room 1 _:=hr.mono (by omega)
  refine ⟨_,pss_cons (ps_set (i:=4) scS.nd rfl (Or.inl rfl) (pe_lst pa_nil))
    (pss_cons (ps_for PassesOwn.never rfl (pi_range1 (by rfl) B.range (pa_s (pe_ix ix_list (pe_lst (pa_c pe_int (pa_c pe_int (pa_c pe_int (pa_c pe_int (pa_c pe_int pa_nil)))))) (pe_call GT r1 (by rfl) DT.m DT.F.kp DT.b .nil pass0 (pa_n (pv 0) (pa_c pe_int pa_nil))) (fun _ _=>rfl)) pa_nil)) (pg_name (i:=5) scS.nd rfl (Or.inl rfl)) (pss_one (ps_if (pt_cmpR op_gt (pe_ix ix_list (pv 2) pe_int (fun _ _=>rfl)) pe_int (nomark _)) (pss_one (ps_expr (pe_bm PySem.F.plainAttrs_list PySem.F.slot_list_append PySem.F.type_list_append mt_append (pv 4) (pa_f (pe_call GE hr (by rfl) DE.m DE.F.kp DE.b .nil pass0 (pa_n (pv 0) (pa_n (pv 1) (pa_n (pv 2) (pa_n (pv 3) pa_nil))))) pa_nil)))) pss_nil)))
    (pss_one (ps_ret (pv 4)))),?_⟩
  have big:=line1000
  refine seq_i (asg_i ?_)
  refine ⟨Nat.zero_le _,fun m hm=>gname_i ?_⟩
  dsimp only
  have sm:=same_new hm (.lst [])
  have tw1:=tw.same sm
  have hm1:upd H m (.lst []) m=some (.lst []):=upd_same
  have dm1:∀ a,upd H m (.lst []) a=none→H a=none:=fun a e=>by
    cases h:H a with
    | none=>rfl
    | some o=>rw [sm _ _ h] at e; cases e
  have hH1:∀ a o,upd H m (.lst []) a=some o→a≠m→H a=some o:=fun a o e n=>by
    rw [upd_ne n] at e
    exact e
  generalize upd H m (.lst [])=H1 at sm tw1 hm1 dm1 hH1 ⊢
  refine seq_i ?_
  refine ⟨by show 5≤sizeLine; omega,fun l2 hl2=>?_⟩
  have s2:=same_new hl2 (.lst [V.int 1,V.int 2,V.int 0,V.int 3,V.int 6])
  refine ⟨_,rfl,p,5,rfl,(tw1.same s2).pu,by decide,by decide,fun r3 G3 r30 r31 pu3 b3=>?_⟩
  obtain ⟨c,hc,c6⟩:∃ c:Nat,atI [V.int 1,V.int 2,V.int 0,V.int 3,V.int 6] r3=some (.int c)∧c≤6:=by
    have:r3=0∨r3=1∨r3=2∨r3=3∨r3=4:=by omega
    rcases this with rfl | rfl | rfl | rfl | rfl
    · exact ⟨1,rfl,by decide⟩
    · exact ⟨2,rfl,by decide⟩
    · exact ⟨0,rfl,by decide⟩
    · exact ⟨3,rfl,by decide⟩
    · exact ⟨6,rfl,by decide⟩
  have tw3:=(tw1.same s2).but b3 pu3
  have b13:Bt2 p q H1 G3:=fun b o e np nq=>b3 _ _ (s2 _ _ e) np
  have nmp:=tw.nn hm
  refine ⟨l2,_,_,_,rfl,rfl,SqL.of (b3 _ _ upd_same (newp tw1.pu hl2)),hc,c,rfl,by omega,by omega,?_⟩
  rw [Int.toNat_natCast]
  refine for_range (n:=c) (fun i σ G=>∃ (vs:List V) (rs:List Rw) (z':Int) (v5:Option V),σ=[some (.ref p),some (.ref l),some (.ref q),some (.int d),some (.ref m),v5]∧vs.length≤i∧G m=some (.lst vs)∧OwS H1 G n vs rs∧Two G p q z'∧(rowsC rs:Int) + z'≤z∧0≤z'∧Bt2 p q H G)
    ⟨[],[],z,none,rfl,Nat.le_refl _,b13 _ _ hm1 nmp.1 nmp.2,fun G' _ _=>.nil,tw3,by show (0:Int) + z≤z; omega,z0,fun b o e np nq=>b13 _ _ (sm _ _ e) np nq⟩ ?_ ?_
  · rintro i σ G hi ⟨vs,rs,z',v5,rfl,hlen,hG,ow,twG,hz,hz0,bG⟩
    refine ⟨_,rfl,q,_,_,_,rfl,rfl,SqL.of twG.le,rfl,_,_,rfl,rfl,_,rfl,?_⟩
    refine ite2 (fun cz=>?_) (fun _=>?_)
    · have cz:=dec_t cz
      refine ⟨_,rfl,.inl ⟨rfl,_,SqL.of hG⟩,_,rfl,_,rfl,_,rfl,_,rfl,p,l,q,d,z',rfl,twG,tw.nm nm bG,cz,dn,d5,fun v r G1 z1 ow1 tw1' hz1 hz10 b1=>?_⟩
      have hG1:=b1 _ _ hG nmp.1 nmp.2
      refine ⟨m,vs,v,rfl,rfl,hG1,by omega,?_⟩
      have tk2:Tk G1 (upd G1 m (.lst (vs++[v]))):=fun t xs e=>by
        rw [upd_ne (ne_of e hG1 (fun w=>by cases w))]
        exact e
      have dmG:∀ a,G a=none→H1 a=none:=fun a e=>by
        cases h:H1 a with
        | none=>rfl
        | some o =>
          by_cases ca:a=m
          · rw [ca,hG] at e
            cases e
          · have e1:=hH1 a o h ca
            rw [Two.dm bG twG e] at e1
            cases e1
      refine ⟨vs++[v],rs++[r],z1,_,rfl,by rw [List.length_append]; show _ + 1≤_; omega,upd_same,fun G' tk nl=>?_,⟨purse_upd tw1'.pu nmp.1,by rw [upd_ne nmp.2.symm]; exact tw1'.le⟩,?_,hz10,fun b o e np nq=>?_⟩
      · refine psnoc (ow G' ((twG.tk b1).trans (tk2.trans tk)) fun a xs ha e=>?_) (ow1 G' (tk2.trans tk) fun a xs ha e=>?_)
        · refine nl a xs ha ?_
          rw [upd_ne (ne_of_none hm1 ha).symm]
          exact b1 _ _ e (tw1.nn ha).1 (tw1.nn ha).2
        · refine nl a xs (dmG a ha) ?_
          rw [upd_ne (ne_of_none hG ha).symm]
          exact e
      · have:rowsC (rs++[r])=rowsC rs + r.1:=by
          unfold rowsC
          rw [List.map_append,List.sum_append]
          show _ + (r.1 + 0)=_
          omega
        rw [this]
        omega
      · rw [upd_ne (ne_of_none e hm)]
        exact b1 _ _ (bG _ _ e np nq) np nq
    · exact ⟨vs,rs,z',_,rfl,by omega,hG,ow,twG,hz,hz0,bG⟩
  · rintro σ G ⟨vs,rs,z',v5,rfl,hlen,hG,ow,twG,hz,hz0,bG⟩
    refine ⟨_,rfl,?_⟩
    exact k m vs rs G z' hm hG (fun G' tk nl=>ow G' tk fun a xs ha e=>nl a xs (dm1 a ha) e) twG hz hz0 bG
theorem ok_dsde (DE:Df K mg "_law_deed" s_law_deed pE fE fdE) (DS:Df K mg "_law_deeds" s_law_deeds pS fS fdS) (DT:Df K mg "_law_take" s_law_take pT fT fdT) (DW:Df K mg "_law_worth" s_law_worth pW fW fdW) (DF:Df K mg "_law_formula" s_law_formula pFo fF fdF) (B:Bl mg):∀ n:Nat,FnOk P w K mg base CX0 (2 * n + 18) fE fdE pE (spDe n)∧FnOk P w K mg base CX0 (2 * n + 19) fS fdS pS (spDs n)
  | 0=>by
    have z:FnOk P w K mg base CX0 18 fE fdE pE (spDe 0):=⟨fun vs H Q E h=>(by obtain ⟨p,l,q,d,z,rfl,_,_,_,h1,h2,_⟩:=h; omega),fun A outer s H args us vs Q E a b c d h=>(by obtain ⟨p,l,q,d,z,rfl,_,_,_,h1,h2,_⟩:=h; omega)⟩
    exact ⟨z,ds_step (n:=0) DS DT DE B z⟩
  | n + 1=>by
    have e:=de_step (n:=n) DE DT DW DF DS B (ok_dsde DE DS DT DW DF B n).2
    exact ⟨e,ds_step (n:=n + 1) DS DT DE B e⟩
end
end My
namespace My
open PySem L2
def WD (H:Hp) (v:V) (s:Str):Prop:=LfD H v s∨(∃ t x y o,v=.ref t∧H t=some (.tup [.str "pull",.str x,.str y,o])∧x.length≤6∧y.length≤6∧s=Txt.join " " ["pull",x,y]) ∨
  ∃ t f w o1 o2,v=.ref t∧H t=some (.tup [.str "if",f,o1,o2])∧FI H 15 f w∧s="if "++w
theorem jsz_cons (z x:Str) (ys:List Str):jsz z (x :: ys)=x.length + z.length + jsz z ys:=by
  unfold jsz
  rw [List.map_cons,List.sum_cons,List.length_cons,Nat.succ_mul]
  omega
theorem sp1:(" ":Str).length=1:=by decide
theorem join_le {ys:List Str} {k:Nat} (h:jsz " " ys≤k):(Txt.join " " ys).length≤k:=Nat.le_trans (join_len _ _) h
theorem send_jsz {z y:Int} {x s1 s2 s3:Str} (hz:Wo z) (hy:Wo y) (lx:x.length≤6) (l1:s1.length < 18 * 15) (l2:s2.length < 18 * 15) (l3:s3.length < 18 * 15):jsz " " ["send",Str.ofString (toString z),x,Str.ofString (toString y),s1,s2,s3]≤1000:=by
  have:=shown_len hz
  have:=shown_len hy
  have e:("send":Str).length=4:=by decide
  have e0:jsz " " []=0:=rfl
  simp only [jsz_cons,sp1,e,e0]
  omega
theorem WD.len {H:Hp} {v:V} {s:Str} (h:WD H v s):s.length≤1000:=by
  have e0:jsz " " []=0:=rfl
  rcases h with h | ⟨t,x,y,o,rfl,_,l1,l2,rfl⟩ | ⟨t,f,w,o1,o2,rfl,_,hf,rfl⟩
  · cases h with
    | fin =>
      have:("end":Str).length=3:=by decide
      omega
    | @three t k x v s _ hk lx hf =>
      have:=hf.len
      have hk:k.length≤4:=by rcases hk with rfl | rfl | rfl <;> decide
      refine join_le ?_
      simp only [jsz_cons,sp1,e0]
      omega
    | send _ hz hy lx f1 f2 f3=>exact join_le (send_jsz hz hy lx f1.len f2.len f3.len)
  · refine join_le ?_
    have:("pull":Str).length=4:=by decide
    simp only [jsz_cons,sp1,e0]
    omega
  · have:=hf.len
    have e:("if ":Str).length=3:=by decide
    rw [str_len_app]
    omega
theorem comp_tupC {K:PySem.W.Frag} {n:Nat} {ti:TE} {g:TG} {tc:L2.TT} {te:TE} {σ:St} {H:Hp} {Q:VK} {xs:List V} (PP:Addr→Hp→Prop) (hi:∀ R:VK,(∀ a H1,PP a H1→R (.ref a) H1)→ti σ H R) (hx:∀ a H1,PP a H1→SqT K H1 a xs) (Pv:Addr→Hp→Nat→List V→Hp→Prop) (h0:∀ a H1,PP a H1→Pv a H1 0 [] H1)
    (hl:∀ a H1,PP a H1→∀ i ys G,i≤xs.length→Pv a H1 i ys G→SqT K G a xs∧ys.length < sizeLine)
    (hs:∀ a H1,PP a H1→∀ i x ys G,xs[i]?=some x→Pv a H1 i ys G→g x (List.replicate n none++σ) G fun σ2 H2=>σ2.drop n=σ∧tc σ2 H2 fun b H3=>if b=true then te σ2 H3 fun y H4=>Pv a H1 (i + 1) (ys++[y]) H4 else Pv a H1 (i + 1) ys H3)
    (hd:∀ a H1,PP a H1→∀ ys G,Pv a H1 xs.length ys G→∀ p,G p=none→Q (.ref p) (upd G p (.lst ys))):tComp n (iTup K ti) g tc te σ H Q:=
  hi _ fun a H1 p=>⟨a,rfl,⟨xs,hx a H1 p⟩,comp_tup (Pv a H1) (h0 a H1 p) (hl a H1 p) (hs a H1 p) (hd a H1 p)⟩
theorem comp_listC {K:PySem.W.Frag} {n:Nat} {ti:TE} {g:TG} {tc:L2.TT} {te:TE} {σ:St} {H:Hp} {Q:VK} {xs:List V} (PP:Addr→Hp→Prop) (hi:∀ R:VK,(∀ a H1,PP a H1→R (.ref a) H1)→ti σ H R) (hx:∀ a H1,PP a H1→SqL K H1 a xs) (Pv:Addr→Hp→Nat→List V→Hp→Prop) (h0:∀ a H1,PP a H1→Pv a H1 0 [] H1)
    (hl:∀ a H1,PP a H1→∀ i ys G,i≤xs.length→Pv a H1 i ys G→SqL K G a xs∧ys.length < sizeLine)
    (hs:∀ a H1,PP a H1→∀ i x ys G,xs[i]?=some x→Pv a H1 i ys G→g x (List.replicate n none++σ) G fun σ2 H2=>σ2.drop n=σ∧tc σ2 H2 fun b H3=>if b=true then te σ2 H3 fun y H4=>Pv a H1 (i + 1) (ys++[y]) H4 else Pv a H1 (i + 1) ys H3)
    (hd:∀ a H1,PP a H1→∀ ys G,Pv a H1 xs.length ys G→∀ p,G p=none→Q (.ref p) (upd G p (.lst ys))):tComp n (iList K ti) g tc te σ H Q:=
  hi _ fun a H1 p=>⟨a,rfl,⟨xs,hx a H1 p⟩,comp_list (Pv a H1) (h0 a H1 p) (hl a H1 p) (hs a H1 p) (hd a H1 p)⟩
section
variable {P:Program} {w:World} {K:PySem.W.Frag} {mg:Str→Option Value} {base:Heap} {f fF fW:Addr} {fd fdF fdW:FuncData} {aW:Addr}
seal L2.PS L2.PSs L2.PE L2.PA L2.PT L2.PW L2.PI L2.PG L2.PGs L2.PC
abbrev nDw:List Str:=["deed","kind","formulas"]
abbrev pDw:List Str:=["deed"]
theorem scDw:FnScope nDw pDw (defScope s_deed_words):=⟨rfl,rfl,rfl,by decide +kernel,rfl,by decide +kernel,by decide +kernel⟩
theorem ndDw:((["formula"]:List Str)++nDw).Nodup:=by decide +kernel
def spDw:Sp:=fun vs H Q _=>∃ (v:V) (s:Str),vs=[v]∧WD H v s∧∀ H',Same H H'→Q (.str s) H'
theorem ok_dw (D:Df K mg "deed_words" s_deed_words pDw f fd) (DF:Df K mg "formula_words" s_formula_words pF fF fdF) (B:Bl mg) (hW:mg "WORDS"=some (.ref aW)) (hTab:Tab K aW marks):FnOk P w K mg base CX0 16 f fd pDw spDw:=by
  have GF:FnOk P w K mg base CX0 15 fF fdF pF (spFw 15):=ok_fw DF B hW hTab 15 (by decide)
  refine D.F.ok scDw (fun vs H Q E h=>?_) (fun cdv A outer s H vs Q E r15 h=>?_)
  · obtain ⟨v,s,rfl,_⟩:=h
    rfl
  obtain ⟨v,s,rfl,hD,q⟩:=h
  refine ⟨_,pss_cons (ps_set (i:=1) scDw.nd rfl (Or.inl rfl) (pe_ix ix_tup (pv 0) pe_int (fun _ _=>rfl)))
    (pss_cons (ps_if (pt_cmpR op_eq (pv 1) pe_str (nomark _)) (pss_one (ps_ret pe_str)) pss_nil)
    (pss_cons (ps_if (pt_cmpR op_eq (pv 1) pe_str (nomark _)) (pss_one (ps_ret (pe_op op_add_str pe_str (pe_call GF r15 (by rfl) DF.m DF.F.kp DF.b .nil pass0 (pa_s (pe_ix ix_tup (pv 0) pe_int (fun _ _=>rfl)) pa_nil))))) pss_nil)
    (pss_cons (ps_if (pt_cmpR op_eq (pv 1) pe_str (nomark _)) (pss_one (ps_ret (pe_bm PySem.F.plainAttrs_str PySem.F.slot_str_join PySem.F.type_str_join mt_join pe_str (pa_s (pe_slice sl_tup (pv 0) po_none (po_some pe_int)) pa_nil)))) pss_nil)
    (pss_cons (ps_if (pt_cmpR op_eq (pv 1) pe_str (nomark _)) (pss_cons (ps_comp (i:=2) ["formula"] (CompOk.open (NN:=nDw) (N:=nDw) (sc:=defScope s_deed_words) rfl rfl (by decide +kernel) rfl (by decide +kernel) (by decide +kernel) rfl (by decide +kernel)) rfl scDw.nd rfl (Or.inl rfl) (pi_tup (pe_tup (pa_s (pe_ix ix_tup (pv 0) pe_int (fun _ _=>rfl)) (pa_s (pe_ix ix_tup (pv 0) pe_int (fun _ _=>rfl)) (pa_s (pe_ix ix_tup (pv 0) pe_int (fun _ _=>rfl)) pa_nil))))) (fun _ _ _ _=>pg_name (i:=0) ndDw rfl (Or.inl rfl)) (fun _ _ _ _=>pts_nil) (fun _ _ _ _=>pe_call GF r15 (by rfl) DF.m DF.F.kp DF.b .nil pass0 (pa_n (pv 0) pa_nil)))
    (pss_one (ps_ret (pe_bm PySem.F.plainAttrs_str PySem.F.slot_str_join PySem.F.type_str_join mt_join pe_str (pa_b (pe_op op_cat (pe_lst (pa_c pe_str (pa_f (pe_callTy call_str_int (by rfl) B.str boot_str (pa_s (pe_ix ix_tup (pv 0) pe_int (fun _ _=>rfl)) pa_nil)) (pa_s (pe_ix ix_tup (pv 0) pe_int (fun _ _=>rfl)) (pa_f (pe_callTy call_str_int (by rfl) B.str boot_str (pa_s (pe_ix ix_tup (pv 0) pe_int (fun _ _=>rfl)) pa_nil)) pa_nil))))) (pv 2)) pa_nil))))) pss_nil)
    (pss_one (ps_ret (pe_bm PySem.F.plainAttrs_str PySem.F.slot_str_join PySem.F.type_str_join mt_join pe_str (pa_lst (pe_lst (pa_n (pv 1) (pa_s (pe_ix ix_tup (pv 0) pe_int (fun _ _=>rfl)) (pa_f (pe_call GF r15 (by rfl) DF.m DF.F.kp DF.b .nil pass0 (pa_s (pe_ix ix_tup (pv 0) pe_int (fun _ _=>rfl)) pa_nil)) pa_nil)))) pa_nil)))))))),?_⟩
  have big:=line1000
  have ks:(¬ ("if":Str)="end"∧¬ ("pull":Str)="end"∧¬ ("pull":Str)="if"∧¬ ("send":Str)="end"∧¬ ("send":Str)="if"∧¬ ("send":Str)="pull"):=by decide +kernel
  have k3:∀ k:Str,(k="put"∨k="push"∨k="draw")→¬ k="end"∧¬ k="if"∧¬ k="pull"∧¬ k="send":=by
    intro k h
    rcases h with rfl | rfl | rfl <;> decide +kernel
  rcases hD with hD | ⟨t,x,y,o,rfl,a,lx,ly,rfl⟩ | ⟨t,g,z,o1,o2,rfl,a,hg,rfl⟩
  · cases hD with
    | fin a =>
      refine seq_i (asg_i ⟨_,rfl,_,_,_,_,rfl,rfl,SqT.of a,rfl,gname_i ?_⟩)
      dsimp only
      refine seq_i (take_if (fun Q q=>⟨_,rfl,q⟩) ?_)
      exact q _ (Same.refl _)
    | @three t k x v s a hk lx hf =>
      obtain ⟨n1,n2,n3,n4⟩:=k3 k hk
      refine seq_i (asg_i ⟨_,rfl,_,_,_,_,rfl,rfl,SqT.of a,rfl,gname_i ?_⟩)
      dsimp only
      refine seq_i (skip_if (fun Q q=>⟨_,rfl,q⟩) n1 (next_i ?_))
      dsimp only
      refine seq_i (skip_if (fun Q q=>⟨_,rfl,q⟩) n2 (next_i ?_))
      dsimp only
      refine seq_i (skip_if (fun Q q=>⟨_,rfl,q⟩) n3 (next_i ?_))
      dsimp only
      refine seq_i (skip_if (fun Q q=>⟨_,rfl,q⟩) n4 (next_i ?_))
      dsimp only
      refine ⟨rfl,_,rfl,_,rfl,_,_,_,_,rfl,rfl,SqT.of a,rfl,_,rfl,_,_,_,_,rfl,rfl,SqT.of a,rfl,v,s,rfl,hf,fun H1 g1=>⟨by show 3≤sizeLine; omega,fun l hl=>?_⟩⟩
      have hl1:=hf.len
      have hk4:k.length≤4:=by rcases hk with rfl | rfl | rfl <;> decide
      refine ⟨_,l,[k,x,s],rfl,rfl,.inl (SqL.of upd_same),?_,q _ (g1.trans (same_new hl _))⟩
      have e0:jsz " " []=0:=rfl
      simp only [jsz_cons,sp1,e0]
      omega
    | @send t z x v1 y v2 v3 s1 s2 s3 a hz hy lx f1 f2 f3 =>
      refine seq_i (asg_i ⟨_,rfl,_,_,_,_,rfl,rfl,SqT.of a,rfl,gname_i ?_⟩)
      dsimp only
      refine seq_i (skip_if (fun Q q=>⟨_,rfl,q⟩) ks.2.2.2.1 (next_i ?_))
      dsimp only
      refine seq_i (skip_if (fun Q q=>⟨_,rfl,q⟩) ks.2.2.2.2.1 (next_i ?_))
      dsimp only
      refine seq_i (skip_if (fun Q q=>⟨_,rfl,q⟩) ks.2.2.2.2.2 (next_i ?_))
      dsimp only
      refine seq_i (take_if (fun Q q=>⟨_,rfl,q⟩) ?_)
      refine seq_i (asg_i ?_)
      have each:∀ (i:Nat) (u:V),[v1,v2,v3][i]?=some u→∃ s,[s1,s2,s3][i]?=some s∧FI H 15 u s:=fun i u e=>by
        match i,e with
        | 0,e=>cases e; exact ⟨_,rfl,f1⟩
        | 1,e=>cases e; exact ⟨_,rfl,f2⟩
        | 2,e=>cases e; exact ⟨_,rfl,f3⟩
        | i + 3,e=>simp at e
      refine comp_tupC (K:=K) (xs:=[v1,v2,v3]) (fun tt H0=>Same H H0∧H0 tt=some (.tup [v1,v2,v3])) (fun R hR=>⟨_,rfl,_,_,_,_,rfl,rfl,SqT.of a,rfl,_,rfl,_,_,_,_,rfl,rfl,SqT.of a,rfl,_,rfl,_,_,_,_,rfl,rfl,SqT.of a,rfl,⟨by show 3≤sizeLine; omega,fun tt htt=>hR tt _ ⟨same_new htt _,upd_same⟩⟩⟩) (fun tt H0 h=>SqT.of h.2)
        (fun tt H0 i ys G=>Same H0 G∧ys=([s1,s2,s3].take i).map V.str) (fun tt H0 h=>⟨Same.refl _,rfl⟩) ?_ ?_ ?_
      · rintro tt H0 ⟨s0,ht0⟩ i ys G hi ⟨sg,rfl⟩
        refine ⟨SqT.of (sg _ _ ht0),?_⟩
        rw [List.length_map,List.length_take]
        show min i 3 < sizeLine
        omega
      · rintro tt H0 ⟨s0,ht0⟩ i u ys G hu ⟨sg,rfl⟩
        obtain ⟨s,hs,hf⟩:=each i u hu
        refine gname_i ⟨rfl,?_⟩
        unfold tAll
        refine iteT ?_
        refine ⟨_,rfl,u,s,rfl,hf.same (s0.trans sg),fun H1 g1=>⟨sg.trans g1,?_⟩⟩
        rw [List.take_succ,hs,List.map_append]
        rfl
      · rintro tt H0 ⟨s0,ht0⟩ ys G ⟨sg,rfl⟩ l4 hl4
        refine gname_i ?_
        dsimp only
        have g4:=(s0.trans sg).trans (same_new hl4 (.lst (([s1,s2,s3].take 3).map V.str)))
        have h4:upd G l4 (.lst (([s1,s2,s3].take 3).map V.str)) l4=some (.lst ([s1,s2,s3].map V.str)):=upd_same
        generalize upd G l4 (.lst (([s1,s2,s3].take 3).map V.str))=G4 at g4 h4 ⊢
        refine ⟨rfl,_,rfl,_,_,_,_,rfl,rfl,SqT.of (g4 _ _ a),rfl,_,rfl,wo_log hz,_,rfl,_,_,_,_,rfl,rfl,SqT.of (g4 _ _ a),rfl,_,rfl,_,_,_,_,rfl,rfl,SqT.of (g4 _ _ a),rfl,_,rfl,wo_log hy,⟨by show 4≤sizeLine; omega,fun l5 hl5=>?_⟩⟩
        have s5:=same_new hl5 (.lst [V.str "send",V.str (Str.ofString (toString z)),V.str x,V.str (Str.ofString (toString y))])
        refine ⟨_,rfl,l5,l4,_,_,rfl,rfl,upd_same,s5 _ _ h4,(by show 4 + 3≤sizeLine; omega),fun l6 hl6=>?_⟩
        refine ⟨_,l6,["send",Str.ofString (toString z),x,Str.ofString (toString y),s1,s2,s3],rfl,rfl,.inl (SqL.of upd_same),?_,q _ ((g4.trans s5).trans (same_new hl6 _))⟩
        have:=send_jsz hz hy lx f1.len f2.len f3.len
        omega
  · refine seq_i (asg_i ⟨_,rfl,_,_,_,_,rfl,rfl,SqT.of a,rfl,gname_i ?_⟩)
    dsimp only
    refine seq_i (skip_if (fun Q q=>⟨_,rfl,q⟩) ks.2.1 (next_i ?_))
    dsimp only
    refine seq_i (skip_if (fun Q q=>⟨_,rfl,q⟩) ks.2.2.1 (next_i ?_))
    dsimp only
    refine seq_i (take_if (fun Q q=>⟨_,rfl,q⟩) ?_)
    refine ⟨rfl,_,rfl,_,rfl,t,_,rfl,SqT.of a,(by show ¬ (HT.sIx 4 0 none=0∧HT.sIx 4 4 (some 3)=4); decide),fun t2 ht2=>?_⟩
    refine ⟨_,t2,["pull",x,y],rfl,rfl,.inr (SqT.of upd_same),?_,q _ (same_new ht2 _)⟩
    have e0:jsz " " []=0:=rfl
    have:("pull":Str).length=4:=by decide
    simp only [jsz_cons,sp1,e0]
    omega
  · refine seq_i (asg_i ⟨_,rfl,_,_,_,_,rfl,rfl,SqT.of a,rfl,gname_i ?_⟩)
    dsimp only
    refine seq_i (skip_if (fun Q q=>⟨_,rfl,q⟩) ks.1 (next_i ?_))
    dsimp only
    refine seq_i (take_if (fun Q q=>⟨_,rfl,q⟩) ?_)
    have e:("if ":Str).length=3:=by decide
    have:=hg.len
    exact ⟨_,rfl,_,_,_,_,rfl,rfl,SqT.of a,rfl,g,z,rfl,hg,fun H1 g1=>⟨_,_,rfl,rfl,by omega,q _ g1⟩⟩
theorem rowsL_snoc (rs:List Rw) (r:Rw) (b:Str):rowsL (rs++[r]) b=rowsL rs b++r.2 b:=by
  unfold rowsL
  rw [List.flatMap_append]
  simp
theorem rowsC_snoc (rs:List Rw) (r:Rw):rowsC (rs++[r])=rowsC rs + r.1:=by
  unfold rowsC
  rw [List.map_append,List.sum_append]
  show _ + (r.1 + 0)=_
  omega
theorem rows_len {rs:List Rw} (b:Str) (h:∀ r∈rs,(r.2 b).length≤2 * r.1):(rowsL rs b).length≤2 * rowsC rs:=by
  unfold rowsL rowsC
  induction rs with
  | nil=>exact Nat.le_refl _
  | cons r rs ih =>
    have h1:=h r (List.mem_cons_self ..)
    have h2:=ih fun x hx=>h x (List.mem_cons_of_mem _ hx)
    rw [List.flatMap_cons,List.length_append,List.map_cons,List.sum_cons]
    omega
theorem paired_mem {α β:Type} {R:α→β→Prop} {rs:List α} {vs:List β} (h:Paired R rs vs):∀ r∈rs,∃ v,R r v:=by
  induction h with
  | nil=>intro r hr; cases hr
  | cons a _ ih =>
    intro r hr
    rcases List.mem_cons.mp hr with e | e
    · exact ⟨_,e ▸ a⟩
    · exact ih r e
theorem two2:("  ":Str).length=2:=by decide
theorem DI.lines {H:Hp}:∀ {n:Nat} {v:V} {r:Rw},DI H n v r→∀ b:Str,(r.2 b).length≤2 * r.1∧∀ x∈r.2 b,x.length≤b.length + 2 * n + 1000
  | n + 1,v,r,h=>by
    have els:("else":Str).length=4:=by decide
    have sub:∀ (rs:List Rw) (vs:List V) (b:Str),Paired (fun r v=>DI H n v r) rs vs→(rowsL rs b).length≤2 * rowsC rs∧∀ x∈rowsL rs b,x.length≤b.length + 2 * n + 1000:=fun rs vs b h=>by
      refine ⟨rows_len b fun r hr=>?_,fun x hx=>?_⟩
      · obtain ⟨v,hv⟩:=paired_mem h r hr
        exact (DI.lines hv b).1
      · obtain ⟨r,hr,hx⟩:=List.mem_flatMap.mp hx
        obtain ⟨v,hv⟩:=paired_mem h r hr
        exact (DI.lines hv b).2 x hx
    intro b
    rcases h with ⟨s,hs,rfl⟩ | ⟨t,l,x,y,vs,rs,_,rfl,a,lx,ly,hl,hp,rfl⟩ | ⟨t,l1,l2,f,s,vs1,vs2,rs1,rs2,_,rfl,a,hf,h1,h2,p1,p2,rfl⟩
    · have:=WD.len (.inl hs)
      refine ⟨by show 1≤2; decide,fun x hx=>?_⟩
      rw [List.mem_singleton.mp hx,str_len_app]
      omega
    · have hw:=WD.len (H:=H) (v:=.ref t) (.inr (.inl ⟨t,x,y,_,rfl,a,lx,ly,rfl⟩))
      obtain ⟨c1,c2⟩:=sub rs vs (b++"  ") hp
      refine ⟨by show (rowsL rs _).length + 1≤2 * (1 + rowsC rs); omega,fun z hz=>?_⟩
      rcases List.mem_cons.mp hz with rfl | hz
      · rw [str_len_app]
        omega
      · have:=c2 z hz
        rw [str_len_app,two2] at this
        omega
    · have hw:=WD.len (H:=H) (v:=.ref t) (.inr (.inr ⟨t,f,s,_,_,rfl,a,hf,rfl⟩))
      obtain ⟨c1,c2⟩:=sub rs1 vs1 (b++"  ") p1
      obtain ⟨d1,d2⟩:=sub rs2 vs2 (b++"  ") p2
      refine ⟨?_,fun z hz=>?_⟩
      · show (rowsL rs1 _++(b++"else") :: rowsL rs2 _).length + 1≤2 * (1 + rowsC rs1 + rowsC rs2)
        rw [List.length_append,List.length_cons]
        omega
      · rcases List.mem_cons.mp hz with rfl | hz
        · rw [str_len_app]
          omega
        rcases List.mem_append.mp hz with hz | hz
        · have:=c2 z hz
          rw [str_len_app,two2] at this
          omega
        rcases List.mem_cons.mp hz with rfl | hz
        · rw [str_len_app,els]
          omega
        · have:=d2 z hz
          rw [str_len_app,two2] at this
          omega
theorem rows_ok {H:Hp} {n:Nat} {rs:List Rw} {vs:List V} (h:Paired (fun r v=>DI H n v r) rs vs) (b:Str):(rowsL rs b).length≤2 * rowsC rs∧∀ x∈rowsL rs b,x.length≤b.length + 2 * n + 1000:=by
  refine ⟨rows_len b fun r hr=>?_,fun x hx=>?_⟩
  · obtain ⟨v,hv⟩:=paired_mem h r hr
    exact (DI.lines hv b).1
  · obtain ⟨r,hr,hx⟩:=List.mem_flatMap.mp hx
    obtain ⟨v,hv⟩:=paired_mem h r hr
    exact (DI.lines hv b).2 x hx
theorem DI.tk {H H':Hp} (s:Same H H'):∀ {n:Nat} {v:V} {r:Rw},DI H n v r→DI H' n v r
  | n + 1,v,r,h=>by
    have sub:∀ (rs:List Rw) (vs:List V),Paired (fun r v=>DI H n v r) rs vs→Paired (fun r v=>DI H' n v r) rs vs:=fun rs vs h=>by
      induction h with
      | nil=>exact .nil
      | cons a _ ih=>exact .cons (DI.tk s a) ih
    rcases h with ⟨z,hz,rfl⟩ | ⟨t,l,x,y,vs,rs,n0,rfl,a,lx,ly,hl,hp,rfl⟩ | ⟨t,l1,l2,f,z,vs1,vs2,rs1,rs2,n0,rfl,a,hf,h1,h2,p1,p2,rfl⟩
    · exact .inl ⟨z,hz.up fun _ _ e=>s _ _ e,rfl⟩
    · exact .inr (.inl ⟨t,l,x,y,vs,rs,n0,rfl,s _ _ a,lx,ly,s _ _ hl,sub _ _ hp,rfl⟩)
    · exact .inr (.inr ⟨t,l1,l2,f,z,vs1,vs2,rs1,rs2,n0,rfl,s _ _ a,hf.same s,s _ _ h1,s _ _ h2,sub _ _ p1,sub _ _ p2,rfl⟩)
theorem rows_same {H H':Hp} (s:Same H H') {n:Nat} {rs:List Rw} {vs:List V} (h:Paired (fun r v=>DI H n v r) rs vs):Paired (fun r v=>DI H' n v r) rs vs:=by
  induction h with
  | nil=>exact .nil
  | cons a _ ih=>exact .cons (a.tk s) ih
theorem LfD.kind {H:Hp} {v:V} {s:Str} (h:LfD H v s):∃ t k xs,v=.ref t∧H t=some (.tup (.str k :: xs))∧¬ k="pull"∧¬ k="if":=by
  cases h with
  | fin a=>exact ⟨_,_,_,rfl,a,by decide +kernel,by decide +kernel⟩
  | @three t k x v s a hk _ _ =>
    refine ⟨_,k,_,rfl,a,?_,?_⟩
    · rcases hk with rfl | rfl | rfl <;> decide +kernel
    · rcases hk with rfl | rfl | rfl <;> decide +kernel
  | send a=>exact ⟨_,_,_,rfl,a,by decide +kernel,by decide +kernel⟩
def spDl (n:Nat):Sp:=fun vs H Q _=>∃ (l:Addr) (b:Str) (us:List V) (rs:List Rw),vs=[.ref l,.str b]∧0 < n∧H l=some (.lst us)∧Paired (fun r v=>DI H n v r) rs us∧b.length + 2 * n≤100∧rowsC rs≤100 ∧
  ∀ (m:Addr) (H':Hp),H m=none→H' m=some (.lst ((rowsL rs b).map V.str))→Same H H'→Q (.ref m) H'
abbrev nDl:List Str:=["deeds","blanks","deeper","lines","deed"]
abbrev pDl:List Str:=["deeds","blanks"]
theorem scDl:FnScope nDl pDl (defScope s_deed_lines):=⟨rfl,rfl,rfl,by decide +kernel,rfl,by decide +kernel,by decide +kernel⟩
end
end My
namespace My
open PySem L2
theorem paired_at {α β:Type} {R:α→β→Prop} {rs:List α} {vs:List β} (h:Paired R rs vs):∀ {i:Nat} {v:β},vs[i]?=some v→∃ r,rs[i]?=some r∧R r v:=by
  induction h with
  | nil=>intro i v e; simp at e
  | cons a _ ih =>
    intro i v e
    cases i with
    | zero=>simp at e; subst e; exact ⟨_,rfl,a⟩
    | succ i =>
      rw [List.getElem?_cons_succ] at e
      obtain ⟨r,h1,h2⟩:=ih e
      exact ⟨r,by rw [List.getElem?_cons_succ]; exact h1,h2⟩
theorem paired_len {α β:Type} {R:α→β→Prop} {rs:List α} {vs:List β} (h:Paired R rs vs):rs.length=vs.length:=by
  induction h with
  | nil=>rfl
  | cons _ _ ih=>rw [List.length_cons,List.length_cons,ih]
theorem rows_take (rs:List Rw) (i:Nat):rowsC (rs.take i)≤rowsC rs:=by
  have e:rowsC rs=rowsC (rs.take i) + rowsC (rs.drop i):=by
    conv=>lhs; rw [← List.take_append_drop i rs]
    unfold rowsC
    rw [List.map_append,List.sum_append]
  omega
theorem rows_at {rs:List Rw} {i:Nat} {r:Rw} (h:rs[i]?=some r):rs.take (i + 1)=rs.take i++[r]:=by
  rw [List.take_succ,h]
  rfl
theorem rows_le {rs:List Rw} {i:Nat} {r:Rw} (h:rs[i]?=some r):r.1≤rowsC rs:=by
  have h1:=rows_take rs (i + 1)
  rw [rows_at h,rowsC_snoc] at h1
  omega
theorem take_len {H:Hp} {n:Nat} {rs:List Rw} {vs:List V} (h:Paired (fun r v=>DI H n v r) rs vs) (b:Str) (i:Nat):(rowsL (rs.take i) b).length≤2 * rowsC rs:=by
  have h1:=rows_take rs i
  have h2:=rows_len (rs:=rs.take i) b fun r hr=>by
    obtain ⟨v,hv⟩:=paired_mem h r (List.mem_of_mem_take hr)
    exact (DI.lines hv b).1
  omega
theorem same_upd {H G:Hp} {m:Addr} {o:HO} (s:Same H G) (h:H m=none):Same H (upd G m o):=fun a o e=>by
  rw [upd_ne (ne_of_none e h)]
  exact s _ _ e
section
variable {P:Program} {w:World} {K:PySem.W.Frag} {mg:Str→Option Value} {base:Heap} {f fF fW:Addr} {fd fdF fdW:FuncData} {aW:Addr}
seal L2.PS L2.PSs L2.PE L2.PA L2.PT L2.PW L2.PI L2.PG L2.PGs L2.PC
theorem dl_step {n:Nat} (hn:n≤20) (D:Df K mg "deed_lines" s_deed_lines pDl f fd) (DW:Df K mg "deed_words" s_deed_words pDw fW fdW) (GW:FnOk P w K mg base CX0 16 fW fdW pDw spDw) (B:Bl mg) (GR:FnOk P w K mg base CX0 (n + 17) f fd pDl (spDl n)):FnOk P w K mg base CX0 (n + 18) f fd pDl (spDl (n + 1)):=by
  refine D.F.ok scDl (fun vs H Q E h=>?_) (fun cdv A outer s H vs Q E hr h=>?_)
  · obtain ⟨l,b,us,rs,rfl,_⟩:=h
    rfl
  obtain ⟨l,b,us,rs,rfl,_,hl,hp,hb,hc,q⟩:=h
  have r16:Room 16 _:=hr.mono (by omega)
  refine ⟨_,pss_cons (ps_set (i:=2) scDl.nd rfl (Or.inl rfl) (pe_op op_add_str (pv 1) pe_str))
    (pss_cons (ps_set (i:=3) scDl.nd rfl (Or.inl rfl) (pe_lst pa_nil))
    (pss_cons (ps_for PassesOwn.never rfl (pi_list (pv 0)) (pg_name (i:=4) scDl.nd rfl (Or.inl rfl)) (pss_cons (ps_expr (pe_bm PySem.F.plainAttrs_list PySem.F.slot_list_append PySem.F.type_list_append mt_append (pv 3) (pa_b (pe_op op_add_str (pv 1) (pe_call GW r16 (by rfl) DW.m DW.F.kp DW.b .nil pass0 (pa_n (pv 4) pa_nil))) pa_nil)))
    (pss_one (ps_if (pt_cmpR op_eq (pe_ix ix_tup (pv 4) pe_int (fun _ _=>rfl)) pe_str (nomark _)) (pss_one (ps_expr (pe_bm PySem.F.plainAttrs_list PySem.F.slot_list_extend PySem.F.type_list_extend mt_extend (pv 3) (pa_f (pe_call GR hr (by rfl) D.m D.F.kp D.b .nil pass0 (pa_s (pe_ix ix_tup (pv 4) pe_int (fun _ _=>rfl)) (pa_n (pv 2) pa_nil))) pa_nil)))) (pss_one (ps_if (pt_cmpR op_eq (pe_ix ix_tup (pv 4) pe_int (fun _ _=>rfl)) pe_str (nomark _)) (pss_cons (ps_expr (pe_bm PySem.F.plainAttrs_list PySem.F.slot_list_extend PySem.F.type_list_extend mt_extend (pv 3) (pa_f (pe_call GR hr (by rfl) D.m D.F.kp D.b .nil pass0 (pa_s (pe_ix ix_tup (pv 4) pe_int (fun _ _=>rfl)) (pa_n (pv 2) pa_nil))) pa_nil)))
    (pss_cons (ps_expr (pe_bm PySem.F.plainAttrs_list PySem.F.slot_list_append PySem.F.type_list_append mt_append (pv 3) (pa_b (pe_op op_add_str (pv 1) pe_str) pa_nil)))
    (pss_one (ps_expr (pe_bm PySem.F.plainAttrs_list PySem.F.slot_list_extend PySem.F.type_list_extend mt_extend (pv 3) (pa_f (pe_call GR hr (by rfl) D.m D.F.kp D.b .nil pass0 (pa_s (pe_ix ix_tup (pv 4) pe_int (fun _ _=>rfl)) (pa_n (pv 2) pa_nil))) pa_nil)))))) pss_nil))))))
    (pss_one (ps_ret (pv 3))))),?_⟩
  have big:10000 < sizeLine:=by decide
  have els:("else":Str).length=4:=by decide
  have kpi:¬ ("if":Str)="pull":=by decide +kernel
  refine seq_i (asg_i ⟨_,rfl,_,_,rfl,rfl,by rw [two2]; omega,gname_i ?_⟩)
  dsimp only
  refine seq_i (asg_i ⟨Nat.zero_le _,fun m hm=>gname_i ?_⟩)
  dsimp only
  have sm:=same_new hm (.lst [])
  have hlm:l≠m:=ne_of_none hl hm
  refine seq_i ⟨_,rfl,l,rfl,⟨us,SqL.of (sm _ _ hl)⟩,for_list (xs:=us) (fun i σ G=>∃ v4,σ=[some (.ref l),some (.str b),some (.str (b++"  ")),some (.ref m),v4]∧i≤us.length∧Same H G∧G m=some (.lst ((rowsL (rs.take i) b).map V.str))) ⟨none,rfl,Nat.zero_le _,sm,upd_same⟩ ?_ ?_ ?_⟩
  · rintro i σ G hi ⟨v4,rfl,_,sg,_⟩
    exact SqL.of (sg _ _ hl)
  · rintro i u σ G hu ⟨v4,rfl,hi,sg,hG⟩
    have hil:i < us.length:=(List.getElem?_eq_some_iff.mp hu).1
    obtain ⟨r,hr1,hd⟩:=paired_at hp hu
    have hd0:=hd
    have hd:=hd.tk sg
    have lt:=take_len hp b i
    have rle:=rows_le hr1
    have done:∀ (G':Hp) (v4:Option V) (xs:List V),Same H G'→G' m=some (.lst xs)→xs=(rowsL (rs.take i) b).map V.str++(r.2 b).map V.str→∃ v4',[some (.ref l),some (.str b),some (.str (b++"  ")),some (.ref m),v4]=[some (.ref l),some (.str b),some (.str (b++"  ")),some (.ref m),v4']∧i + 1≤us.length∧Same H G'∧G' m=some (.lst ((rowsL (rs.take (i + 1)) b).map V.str)):=fun G' v4 xs s1 e1 e2=>⟨v4,rfl,hil,s1,by rw [e1,e2,rows_at hr1,rowsL_snoc,List.map_append]⟩
    refine gname_i ?_
    dsimp only
    obtain ⟨sw,hw,first⟩:∃ sw,WD G u sw∧∃ rest,r.2 b=(b++sw) :: rest:=by
      clear done rle hr1 hd0
      rcases hd with ⟨z,hz,rfl⟩ | ⟨t,l,x,y,vs,rs,n0,rfl,a,lx,ly,hl,hp,rfl⟩ | ⟨t,l1,l2,f,z,vs1,vs2,rs1,rs2,n0,rfl,a,hf,h1,h2,p1,p2,rfl⟩
      · exact ⟨z,.inl hz,[],rfl⟩
      · exact ⟨_,.inr (.inl ⟨t,x,y,_,rfl,a,lx,ly,rfl⟩),_,rfl⟩
      · exact ⟨_,.inr (.inr ⟨t,f,z,_,_,rfl,a,hf,rfl⟩),_,rfl⟩
    have lw:=hw.len
    refine seq_i ⟨_,rfl,.inl ⟨rfl,_,SqL.of hG⟩,_,rfl,_,rfl,u,sw,rfl,hw,fun G1 g1=>⟨_,_,rfl,rfl,by omega,m,_,_,rfl,rfl,g1 _ _ hG,by rw [List.length_map]; omega,?_⟩⟩
    dsimp only
    have sg2:Same H (upd G1 m (.lst ((rowsL (rs.take i) b).map V.str++[V.str (b++sw)]))):=same_upd (sg.trans g1) hm
    have hG2:upd G1 m (.lst ((rowsL (rs.take i) b).map V.str++[V.str (b++sw)])) m=some (.lst ((rowsL (rs.take i) b).map V.str++[V.str (b++sw)])):=upd_same
    generalize upd G1 m (.lst ((rowsL (rs.take i) b).map V.str++[V.str (b++sw)]))=G2 at sg2 hG2 ⊢
    obtain ⟨rest,er⟩:=first
    rcases hd0 with ⟨z,hz,e⟩ | ⟨t,l2,x,y,vs2,rs2,n0,rfl,a,lx,ly,hl2,hp2,e⟩ | ⟨t,l1,l2,f,z,vs1,vs2,rs1,rs2,n0,rfl,a,hf,h1,h2,p1,p2,e⟩
    · obtain ⟨t,k,xs,rfl,a,k1,k2⟩:=hz.kind
      have a:=sg2 _ _ a
      have e2:rest=[]:=by
        rw [e] at er
        exact (List.cons.inj er).2.symm
      refine skip_if (fun Q q=>⟨_,rfl,_,_,_,_,rfl,rfl,SqT.of a,atI_nat (j:=0) rfl,q⟩) k1 ?_
      refine skip_if (fun Q q=>⟨_,rfl,_,_,_,_,rfl,rfl,SqT.of a,atI_nat (j:=0) rfl,q⟩) k2 (next_i ?_)
      exact done G2 _ _ sg2 hG2 (by rw [er,e2]; rfl)
    · have e2:rest=rowsL rs2 (b++"  "):=by
        rw [e] at er
        exact (List.cons.inj er).2.symm
      have e3:r.1=1 + rowsC rs2:=by rw [e]
      have a:=sg2 _ _ a
      refine take_if (fun Q q=>⟨_,rfl,_,_,_,_,rfl,rfl,SqT.of a,rfl,q⟩) ?_
      have l2':=(rows_ok hp2 (b++"  ")).1
      refine ⟨_,rfl,.inl ⟨rfl,_,SqL.of hG2⟩,_,rfl,_,_,_,_,rfl,rfl,SqT.of a,rfl,_,rfl,l2,b++"  ",vs2,rs2,rfl,n0,sg2 _ _ hl2,rows_same sg2 hp2,by rw [str_len_app,two2]; omega,by omega,fun m3 G3 hm3 hm33 sg3=>?_⟩
      refine ⟨m,m3,_,_,rfl,rfl,sg3 _ _ hG2,hm33,?_,?_⟩
      · rw [List.length_append,List.length_map,List.length_map]
        show _ + 1 + _≤_
        omega
      · exact done _ _ _ (same_upd (sg2.trans sg3) hm) upd_same (by rw [er,e2]; simp)
    · have e2:rest=rowsL rs1 (b++"  ")++(b++"else") :: rowsL rs2 (b++"  "):=by
        rw [e] at er
        exact (List.cons.inj er).2.symm
      have e3:r.1=1 + rowsC rs1 + rowsC rs2:=by rw [e]
      have l1':=(rows_ok p1 (b++"  ")).1
      have l2':=(rows_ok p2 (b++"  ")).1
      have a2:=sg2 _ _ a
      refine skip_if (fun Q q=>⟨_,rfl,_,_,_,_,rfl,rfl,SqT.of a2,rfl,q⟩) kpi ?_
      refine take_if (fun Q q=>⟨_,rfl,_,_,_,_,rfl,rfl,SqT.of a2,rfl,q⟩) ?_
      refine seq_i ⟨_,rfl,.inl ⟨rfl,_,SqL.of hG2⟩,_,rfl,_,_,_,_,rfl,rfl,SqT.of a2,rfl,_,rfl,l1,b++"  ",vs1,rs1,rfl,n0,sg2 _ _ h1,rows_same sg2 p1,by rw [str_len_app,two2]; omega,by omega,fun m3 G3 hm3 hm33 sg3=>?_⟩
      refine ⟨m,m3,_,_,rfl,rfl,sg3 _ _ hG2,hm33,?_,?_⟩
      · rw [List.length_append,List.length_map,List.length_map]
        show _ + 1 + _≤_
        omega
      dsimp only
      have sg4:Same H (upd G3 m (.lst ((rowsL (rs.take i) b).map V.str++[V.str (b++sw)]++(rowsL rs1 (b++"  ")).map V.str))):=same_upd (sg2.trans sg3) hm
      have hG4:upd G3 m (.lst ((rowsL (rs.take i) b).map V.str++[V.str (b++sw)]++(rowsL rs1 (b++"  ")).map V.str)) m=_:=upd_same
      generalize upd G3 m (.lst ((rowsL (rs.take i) b).map V.str++[V.str (b++sw)]++(rowsL rs1 (b++"  ")).map V.str))=G4 at sg4 hG4 ⊢
      refine seq_i ⟨_,rfl,.inl ⟨rfl,_,SqL.of hG4⟩,_,rfl,_,_,rfl,rfl,by rw [els]; omega,m,_,_,rfl,rfl,hG4,?_,?_⟩
      · rw [List.length_append,List.length_append,List.length_map,List.length_map]
        show _ + 1 + _ < _
        omega
      dsimp only
      have sg5:Same H (upd G4 m (.lst ((rowsL (rs.take i) b).map V.str++[V.str (b++sw)]++(rowsL rs1 (b++"  ")).map V.str++[V.str (b++"else")]))):=same_upd sg4 hm
      have hG5:upd G4 m (.lst ((rowsL (rs.take i) b).map V.str++[V.str (b++sw)]++(rowsL rs1 (b++"  ")).map V.str++[V.str (b++"else")])) m=_:=upd_same
      generalize upd G4 m (.lst ((rowsL (rs.take i) b).map V.str++[V.str (b++sw)]++(rowsL rs1 (b++"  ")).map V.str++[V.str (b++"else")]))=G5 at sg5 hG5 ⊢
      refine ⟨_,rfl,.inl ⟨rfl,_,SqL.of hG5⟩,_,rfl,_,_,_,_,rfl,rfl,SqT.of (sg5 _ _ a),rfl,_,rfl,l2,b++"  ",vs2,rs2,rfl,n0,sg5 _ _ h2,rows_same sg5 p2,by rw [str_len_app,two2]; omega,by omega,fun m6 G6 hm6 hm66 sg6=>?_⟩
      refine ⟨m,m6,_,_,rfl,rfl,sg6 _ _ hG5,hm66,?_,?_⟩
      · rw [List.length_append,List.length_append,List.length_append,List.length_map,List.length_map,List.length_map]
        show _ + 1 + _ + 1 + _≤_
        omega
      · exact done _ _ _ (same_upd (sg5.trans sg6) hm) upd_same (by rw [er,e2]; simp)
  · rintro σ G ⟨v4,rfl,hi,sg,hG⟩
    refine ⟨_,rfl,?_⟩
    rw [← paired_len hp,List.take_length] at hG
    exact q m G hm hG sg
theorem ok_dl (D:Df K mg "deed_lines" s_deed_lines pDl f fd) (DW:Df K mg "deed_words" s_deed_words pDw fW fdW) (GW:FnOk P w K mg base CX0 16 fW fdW pDw spDw) (B:Bl mg):∀ n:Nat,n≤20→FnOk P w K mg base CX0 (n + 17) f fd pDl (spDl n)
  | 0,_=>⟨fun vs H Q E h=>(by obtain ⟨l,b,us,rs,rfl,h,_⟩:=h; omega),fun A outer s H args us vs Q E a b c d h=>(by obtain ⟨l,b,us,rs,rfl,h,_⟩:=h; omega)⟩
  | n + 1,h=>dl_step (by omega) D DW GW B (ok_dl D DW GW B n (by omega))
end
end My
namespace My
open PySem L2
section
variable {P:Program} {w:World} {K:PySem.W.Frag} {mg:Str→Option Value} {base:Heap} {f fF fS fE:Addr} {fd fdF fdS fdE:FuncData}
seal L2.PS L2.PSs L2.PE L2.PA L2.PT L2.PW L2.PI L2.PG L2.PGs L2.PC
abbrev nEl:List Str:=["_law_deed_here","_law_ahead","_law_words_here","_law_found"]
abbrev pEl:List Str:=["_law_deed_here","_law_ahead"]
theorem scEl:FnScope nEl pEl (defScope s_law_deed_lines):=⟨rfl,rfl,rfl,by decide +kernel,rfl,by decide +kernel,by decide +kernel⟩
abbrev nSl:List Str:=["_law_deeds_here","_law_ahead","_law_found","_law_deed_here"]
abbrev pSl:List Str:=["_law_deeds_here","_law_ahead"]
theorem scSl:FnScope nSl pSl (defScope s_law_deeds_lines):=⟨rfl,rfl,rfl,by decide +kernel,rfl,by decide +kernel,by decide +kernel⟩
def spEl (n:Nat):Sp:=fun vs H Q _=>∃ (v:V) (b:Str) (r:Rw),vs=[v,.str b]∧DI H n v r∧b.length + 2 * n≤100∧r.1≤100 ∧
  ∀ (m:Addr) (H':Hp),H m=none→H' m=some (.lst ((r.2 b).map V.str))→Same H H'→Q (.ref m) H'
theorem el_step {n:Nat} (D:Df K mg "_law_deed_lines" s_law_deed_lines pEl f fd) (DS:Df K mg "_law_deeds_lines" s_law_deeds_lines pSl fS fdS) (DF:Df K mg "_law_words" s_law_words pLw fF fdF) (B:Bl mg) (GS:FnOk P w K mg base CX0 (2 * n + 17) fS fdS pSl (spDl n)):FnOk P w K mg base CX0 (2 * n + 18) f fd pEl (spEl (n + 1)):=by
  have GF:FnOk P w K mg base CX0 15 fF fdF pLw (spFw 15):=ok_lw DF B 15 (by decide)
  refine D.F.ok scEl (fun vs H Q E h=>?_) (fun cdv A outer s H vs Q E hr h=>?_)
  · obtain ⟨v,b,r,rfl,_⟩:=h
    rfl
  obtain ⟨v,b,r,rfl,hD,hb,hc,q⟩:=h
  have r15:Room 15 _:=hr.mono (by omega)
  refine ⟨_,pss_cons (ps_if (pt_cmpR op_eq (pe_ix ix_tup (pv 0) pe_int (fun _ _=>rfl)) pe_str (nomark _)) (pss_one (ps_ret (pe_lst (pa_b (pe_op op_add_str (pv 1) pe_str) pa_nil)))) pss_nil)
    (pss_cons (ps_if (pt_cmpR op_eq (pe_ix ix_tup (pv 0) pe_int (fun _ _=>rfl)) pe_str (nomark _)) (pss_cons (ps_set (i:=2) scEl.nd rfl (Or.inl rfl) (pe_lst (pa_c pe_str (pa_f (pe_callTy call_str_int (by rfl) B.str boot_str (pa_s (pe_ix ix_tup (pv 0) pe_int (fun _ _=>rfl)) pa_nil)) (pa_s (pe_ix ix_tup (pv 0) pe_int (fun _ _=>rfl)) (pa_f (pe_callTy call_str_int (by rfl) B.str boot_str (pa_s (pe_ix ix_tup (pv 0) pe_int (fun _ _=>rfl)) pa_nil)) pa_nil))))))
    (pss_cons (ps_set (i:=2) scEl.nd rfl (Or.inl rfl) (pe_op op_cat (pv 2) (pe_lst (pa_f (pe_call GF r15 (by rfl) DF.m DF.F.kp DF.b .nil pass0 (pa_s (pe_ix ix_tup (pv 0) pe_int (fun _ _=>rfl)) pa_nil)) (pa_f (pe_call GF r15 (by rfl) DF.m DF.F.kp DF.b .nil pass0 (pa_s (pe_ix ix_tup (pv 0) pe_int (fun _ _=>rfl)) pa_nil)) (pa_f (pe_call GF r15 (by rfl) DF.m DF.F.kp DF.b .nil pass0 (pa_s (pe_ix ix_tup (pv 0) pe_int (fun _ _=>rfl)) pa_nil)) pa_nil))))))
    (pss_one (ps_ret (pe_lst (pa_b (pe_op op_add_str (pv 1) (pe_bm PySem.F.plainAttrs_str PySem.F.slot_str_join PySem.F.type_str_join mt_join pe_str (pa_n (pv 2) pa_nil))) pa_nil)))))) pss_nil)
    (pss_cons (ps_if (pt_cmpR op_eq (pe_ix ix_tup (pv 0) pe_int (fun _ _=>rfl)) pe_str (nomark _)) (pss_cons (ps_set (i:=3) scEl.nd rfl (Or.inl rfl) (pe_lst (pa_b (pe_op op_add_str (pv 1) (pe_bm PySem.F.plainAttrs_str PySem.F.slot_str_join PySem.F.type_str_join mt_join pe_str (pa_s (pe_slice sl_tup (pv 0) po_none (po_some pe_int)) pa_nil))) pa_nil)))
    (pss_one (ps_ret (pe_op op_cat (pv 3) (pe_call GS hr (by rfl) DS.m DS.F.kp DS.b .nil pass0 (pa_s (pe_ix ix_tup (pv 0) pe_int (fun _ _=>rfl)) (pa_b (pe_op op_add_str (pv 1) pe_str) pa_nil))))))) pss_nil)
    (pss_cons (ps_if (pt_cmpR op_eq (pe_ix ix_tup (pv 0) pe_int (fun _ _=>rfl)) pe_str (nomark _)) (pss_cons (ps_set (i:=3) scEl.nd rfl (Or.inl rfl) (pe_op op_cat (pe_lst (pa_b (pe_op op_add_str (pe_op op_add_str (pv 1) pe_str) (pe_call GF r15 (by rfl) DF.m DF.F.kp DF.b .nil pass0 (pa_s (pe_ix ix_tup (pv 0) pe_int (fun _ _=>rfl)) pa_nil))) pa_nil)) (pe_call GS hr (by rfl) DS.m DS.F.kp DS.b .nil pass0 (pa_s (pe_ix ix_tup (pv 0) pe_int (fun _ _=>rfl)) (pa_b (pe_op op_add_str (pv 1) pe_str) pa_nil)))))
    (pss_one (ps_ret (pe_op op_cat (pe_op op_cat (pv 3) (pe_lst (pa_b (pe_op op_add_str (pv 1) pe_str) pa_nil))) (pe_call GS hr (by rfl) DS.m DS.F.kp DS.b .nil pass0 (pa_s (pe_ix ix_tup (pv 0) pe_int (fun _ _=>rfl)) (pa_b (pe_op op_add_str (pv 1) pe_str) pa_nil))))))) pss_nil)
    (pss_one (ps_ret (pe_lst (pa_b (pe_op op_add_str (pe_op op_add_str (pe_op op_add_str (pe_op op_add_str (pe_op op_add_str (pv 1) (pe_ix ix_tup (pv 0) pe_int (fun _ _=>rfl))) pe_str) (pe_ix ix_tup (pv 0) pe_int (fun _ _=>rfl))) pe_str) (pe_call GF r15 (by rfl) DF.m DF.F.kp DF.b .nil pass0 (pa_s (pe_ix ix_tup (pv 0) pe_int (fun _ _=>rfl)) pa_nil))) pa_nil))))))),?_⟩
  have big:10000 < sizeLine:=by decide
  have ks:(¬ ("if":Str)="end"∧¬ ("if":Str)="send"∧¬ ("if":Str)="pull"∧¬ ("pull":Str)="end"∧¬ ("pull":Str)="send"∧¬ ("send":Str)="end"):=by decide +kernel
  have k3:∀ k:Str,(k="put"∨k="push"∨k="draw")→¬ k="end"∧¬ k="if"∧¬ k="pull"∧¬ k="send":=by
    intro k h
    rcases h with rfl | rfl | rfl <;> decide +kernel
  have e0:jsz " " []=0:=rfl
  have l3:("end":Str).length=3:=by decide
  have l4:("pull":Str).length=4:=by decide
  have li:("if ":Str).length=3:=by decide
  have le:("else":Str).length=4:=by decide
  rcases hD with ⟨z,hz,rfl⟩ | ⟨t,l2,x,y,vs2,rs2,n0,rfl,a,lx,ly,hl2,hp2,rfl⟩ | ⟨t,l1,l2,g,z,vs1,vs2,rs1,rs2,n0,rfl,a,hf,h1,h2,p1,p2,rfl⟩
  · have one:∀ (G:Hp) (x:Str),Same H G→x=b++z→1≤sizeLine∧∀ m,G m=none→Q (.ref m) (upd G m (.lst [V.str x])):=fun G x sg e=>⟨by omega,fun m hm=>q m _ (sg.free hm) (by rw [e]; exact upd_same) (sg.trans (same_new hm _))⟩
    cases hz with
    | fin a =>
      refine seq_i (take_if (fun Q q=>⟨_,rfl,_,_,_,_,rfl,rfl,SqT.of a,rfl,q⟩) ?_)
      exact ⟨_,rfl,_,_,rfl,rfl,by omega,one H _ (Same.refl _) rfl⟩
    | @three t k x v s a hk lx hf =>
      obtain ⟨n1,n2,n3,n4⟩:=k3 k hk
      have hk4:k.length≤4:=by rcases hk with rfl | rfl | rfl <;> decide
      have:=hf.len
      refine seq_i (skip_if (fun Q q=>⟨_,rfl,_,_,_,_,rfl,rfl,SqT.of a,rfl,q⟩) n1 (next_i ?_))
      dsimp only
      refine seq_i (skip_if (fun Q q=>⟨_,rfl,_,_,_,_,rfl,rfl,SqT.of a,rfl,q⟩) n4 (next_i ?_))
      dsimp only
      refine seq_i (skip_if (fun Q q=>⟨_,rfl,_,_,_,_,rfl,rfl,SqT.of a,rfl,q⟩) n3 (next_i ?_))
      dsimp only
      refine seq_i (skip_if (fun Q q=>⟨_,rfl,_,_,_,_,rfl,rfl,SqT.of a,rfl,q⟩) n2 (next_i ?_))
      dsimp only
      refine ⟨_,rfl,_,rfl,_,_,_,_,rfl,rfl,SqT.of a,rfl,_,_,rfl,rfl,by omega,_,_,rfl,rfl,by rw [str_len_app,sp1]; omega,_,rfl,_,_,_,_,rfl,rfl,SqT.of a,rfl,_,_,rfl,rfl,by rw [str_len_app,str_len_app,sp1]; omega,_,_,rfl,rfl,by rw [str_len_app,str_len_app,str_len_app,sp1]; omega,_,rfl,_,_,_,_,rfl,rfl,SqT.of a,rfl,v,s,rfl,hf,fun H1 g1=>⟨_,_,rfl,rfl,by rw [str_len_app,str_len_app,str_len_app,str_len_app,sp1]; omega,one H1 _ g1 ?_⟩⟩
      show _=b++(((k++" ")++x)++" "++s)
      simp only [str_assoc]
    | @send t z x v1 y v2 v3 s1 s2 s3 a hz hy lx f1 f2 f3 =>
      refine seq_i (skip_if (fun Q q=>⟨_,rfl,_,_,_,_,rfl,rfl,SqT.of a,rfl,q⟩) ks.2.2.2.2.2 (next_i ?_))
      dsimp only
      refine seq_i (take_if (fun Q q=>⟨_,rfl,_,_,_,_,rfl,rfl,SqT.of a,rfl,q⟩) ?_)
      refine seq_i (asg_i ?_)
      refine ⟨_,rfl,_,_,_,_,rfl,rfl,SqT.of a,rfl,_,rfl,wo_log hz,_,rfl,_,_,_,_,rfl,rfl,SqT.of a,rfl,_,rfl,_,_,_,_,rfl,rfl,SqT.of a,rfl,_,rfl,wo_log hy,⟨by show 4≤sizeLine; omega,fun l5 hl5=>gname_i ?_⟩⟩
      dsimp only
      have s5:=same_new hl5 (.lst [V.str "send",V.str (Str.ofString (toString z)),V.str x,V.str (Str.ofString (toString y))])
      have h5:upd H l5 (.lst [V.str "send",V.str (Str.ofString (toString z)),V.str x,V.str (Str.ofString (toString y))]) l5=_:=upd_same
      generalize upd H l5 (.lst [V.str "send",V.str (Str.ofString (toString z)),V.str x,V.str (Str.ofString (toString y))])=G5 at s5 h5 ⊢
      refine seq_i (asg_i ?_)
      refine ⟨_,rfl,_,rfl,_,_,_,_,rfl,rfl,SqT.of (s5 _ _ a),rfl,v1,s1,rfl,f1.same s5,fun G6 s6=>?_⟩
      have s56:=s5.trans s6
      refine ⟨_,rfl,_,_,_,_,rfl,rfl,SqT.of (s56 _ _ a),rfl,v2,s2,rfl,f2.same s56,fun G7 s7=>?_⟩
      have s57:=s56.trans s7
      refine ⟨_,rfl,_,_,_,_,rfl,rfl,SqT.of (s57 _ _ a),rfl,v3,s3,rfl,f3.same s57,fun G8 s8=>⟨by show 3≤sizeLine; omega,fun l9 hl9=>?_⟩⟩
      have s9:=same_new hl9 (.lst [V.str s1,V.str s2,V.str s3])
      have h59:=s9 _ _ (s8 _ _ (s7 _ _ (s6 _ _ h5)))
      refine ⟨l5,l9,_,_,rfl,rfl,h59,upd_same,(by show 4 + 3≤sizeLine; omega),fun l10 hl10=>gname_i ?_⟩
      dsimp only
      have js:=send_jsz hz hy lx f1.len f2.len f3.len
      have jl:=join_len " " ["send",Str.ofString (toString z),x,Str.ofString (toString y),s1,s2,s3]
      refine ⟨_,rfl,rfl,_,rfl,_,l10,["send",Str.ofString (toString z),x,Str.ofString (toString y),s1,s2,s3],rfl,rfl,.inl (SqL.of upd_same),by omega,_,_,rfl,rfl,by omega,one _ _ (((s57.trans s8).trans s9).trans (same_new hl10 _)) rfl⟩
  · refine seq_i (skip_if (fun Q q=>⟨_,rfl,_,_,_,_,rfl,rfl,SqT.of a,rfl,q⟩) ks.2.2.2.1 (next_i ?_))
    dsimp only
    refine seq_i (skip_if (fun Q q=>⟨_,rfl,_,_,_,_,rfl,rfl,SqT.of a,rfl,q⟩) ks.2.2.2.2.1 (next_i ?_))
    dsimp only
    refine seq_i (take_if (fun Q q=>⟨_,rfl,_,_,_,_,rfl,rfl,SqT.of a,rfl,q⟩) ?_)
    refine seq_i (asg_i ?_)
    have js:jsz " " ["pull",x,y]≤100:=by
      simp only [jsz_cons,sp1,e0]
      omega
    have jl:=join_len " " ["pull",x,y]
    refine ⟨_,rfl,rfl,_,rfl,_,rfl,t,_,rfl,SqT.of a,(by show ¬ (HT.sIx 4 0 none=0∧HT.sIx 4 4 (some 3)=4); decide),fun t2 ht2=>⟨_,t2,["pull",x,y],rfl,rfl,.inr (SqT.of upd_same),by omega,_,_,rfl,rfl,by omega,⟨by show 1≤sizeLine; omega,fun l3 hl3=>gname_i ?_⟩⟩⟩
    dsimp only
    have s3:=(same_new ht2 (.tup (cutV [V.str "pull",V.str x,V.str y,V.ref l2] none (some 3)))).trans (same_new hl3 (.lst [V.str (b++Txt.join " " ["pull",x,y])]))
    have h3:upd (upd H t2 (.tup (cutV [V.str "pull",V.str x,V.str y,V.ref l2] none (some 3)))) l3 (.lst [V.str (b++Txt.join " " ["pull",x,y])]) l3=_:=upd_same
    generalize upd (upd H t2 (.tup (cutV [V.str "pull",V.str x,V.str y,V.ref l2] none (some 3)))) l3 (.lst [V.str (b++Txt.join " " ["pull",x,y])])=G3 at s3 h3 ⊢
    have l2':=(rows_ok hp2 (b++"  ")).1
    have hc':1 + rowsC rs2≤100:=hc
    refine ⟨_,rfl,_,rfl,_,_,_,_,rfl,rfl,SqT.of (s3 _ _ a),rfl,_,rfl,_,_,rfl,rfl,by rw [two2]; omega,l2,b++"  ",vs2,rs2,rfl,n0,s3 _ _ hl2,rows_same s3 hp2,by rw [str_len_app,two2]; omega,by omega,fun m4 G4 hm4 h4 s4=>?_⟩
    refine ⟨l3,m4,_,_,rfl,rfl,s4 _ _ h3,h4,?_,fun m5 hm5=>q m5 _ ((s3.trans s4).free hm5) upd_same ((s3.trans s4).trans (same_new hm5 _))⟩
    rw [List.length_map]
    show 1 + _≤_
    omega
  · refine seq_i (skip_if (fun Q q=>⟨_,rfl,_,_,_,_,rfl,rfl,SqT.of a,rfl,q⟩) ks.1 (next_i ?_))
    dsimp only
    refine seq_i (skip_if (fun Q q=>⟨_,rfl,_,_,_,_,rfl,rfl,SqT.of a,rfl,q⟩) ks.2.1 (next_i ?_))
    dsimp only
    refine seq_i (skip_if (fun Q q=>⟨_,rfl,_,_,_,_,rfl,rfl,SqT.of a,rfl,q⟩) ks.2.2.1 (next_i ?_))
    dsimp only
    refine seq_i (take_if (fun Q q=>⟨_,rfl,_,_,_,_,rfl,rfl,SqT.of a,rfl,q⟩) ?_)
    have hfl:=hf.len
    have l1':=(rows_ok p1 (b++"  ")).1
    have l2':=(rows_ok p2 (b++"  ")).1
    have hc':1 + rowsC rs1 + rowsC rs2≤100:=hc
    refine seq_i (asg_i ?_)
    refine ⟨_,rfl,_,_,rfl,rfl,by omega,_,rfl,_,_,_,_,rfl,rfl,SqT.of a,rfl,g,z,rfl,hf,fun G1 s1=>⟨_,_,rfl,rfl,by rw [str_len_app]; omega,⟨by show 1≤sizeLine; omega,fun l3 hl3=>?_⟩⟩⟩
    have s3:=s1.trans (same_new hl3 (.lst [V.str (b++"if "++z)]))
    have h3:upd G1 l3 (.lst [V.str (b++"if "++z)]) l3=_:=upd_same
    generalize upd G1 l3 (.lst [V.str (b++"if "++z)])=G3 at s3 h3 ⊢
    refine ⟨_,rfl,_,_,_,_,rfl,rfl,SqT.of (s3 _ _ a),rfl,_,rfl,_,_,rfl,rfl,by rw [two2]; omega,l1,b++"  ",vs1,rs1,rfl,n0,s3 _ _ h1,rows_same s3 p1,by rw [str_len_app,two2]; omega,by omega,fun m4 G4 hm4 h4 s4=>?_⟩
    refine ⟨l3,m4,_,_,rfl,rfl,s4 _ _ h3,h4,(by rw [List.length_map]; show 1 + _≤_; omega),fun m5 hm5=>gname_i ?_⟩
    dsimp only
    have s5:=(s3.trans s4).trans (same_new hm5 (.lst ([V.str (b++"if "++z)]++(rowsL rs1 (b++"  ")).map V.str)))
    have h5:upd G4 m5 (.lst ([V.str (b++"if "++z)]++(rowsL rs1 (b++"  ")).map V.str)) m5=_:=upd_same
    generalize upd G4 m5 (.lst ([V.str (b++"if "++z)]++(rowsL rs1 (b++"  ")).map V.str))=G5 at s5 h5 ⊢
    refine ⟨_,rfl,_,rfl,_,_,rfl,rfl,by rw [le]; omega,⟨by show 1≤sizeLine; omega,fun l6 hl6=>?_⟩⟩
    have s6:=same_new hl6 (.lst [V.str (b++"else")])
    refine ⟨m5,l6,_,_,rfl,rfl,s6 _ _ h5,upd_same,?_,fun m7 hm7=>?_⟩
    · rw [List.length_append,List.length_map]
      show 1 + _ + 1≤_
      omega
    have s7:=(s5.trans s6).trans (same_new hm7 (.lst ([V.str (b++"if "++z)]++(rowsL rs1 (b++"  ")).map V.str++[V.str (b++"else")])))
    have h7:upd (upd G5 l6 (.lst [V.str (b++"else")])) m7 (.lst ([V.str (b++"if "++z)]++(rowsL rs1 (b++"  ")).map V.str++[V.str (b++"else")])) m7=_:=upd_same
    generalize upd (upd G5 l6 (.lst [V.str (b++"else")])) m7 (.lst ([V.str (b++"if "++z)]++(rowsL rs1 (b++"  ")).map V.str++[V.str (b++"else")]))=G7 at s7 h7 ⊢
    refine ⟨_,rfl,_,_,_,_,rfl,rfl,SqT.of (s7 _ _ a),rfl,_,rfl,_,_,rfl,rfl,by rw [two2]; omega,l2,b++"  ",vs2,rs2,rfl,n0,s7 _ _ h2,rows_same s7 p2,by rw [str_len_app,two2]; omega,by omega,fun m8 G8 hm8 h8 s8=>?_⟩
    refine ⟨m7,m8,_,_,rfl,rfl,s8 _ _ h7,h8,?_,fun m9 hm9=>q m9 _ ((s7.trans s8).free hm9) ?_ ((s7.trans s8).trans (same_new hm9 _))⟩
    · rw [List.length_append,List.length_append,List.length_map,List.length_map]
      show 1 + _ + 1 + _≤_
      omega
    · rw [upd_same]
      simp [str_assoc]
theorem sl_step {n:Nat} (D:Df K mg "_law_deeds_lines" s_law_deeds_lines pSl f fd) (DE:Df K mg "_law_deed_lines" s_law_deed_lines pEl fE fdE) (B:Bl mg) (GE:FnOk P w K mg base CX0 (2 * n + 16) fE fdE pEl (spEl n)):FnOk P w K mg base CX0 (2 * n + 17) f fd pSl (spDl n):=by
  refine D.F.ok scSl (fun vs H Q E h=>?_) (fun cdv A outer s H vs Q E hr h=>?_)
  · obtain ⟨l,b,us,rs,rfl,_⟩:=h
    rfl
  obtain ⟨l,b,us,rs,rfl,_,hl,hp,hb,hc,q⟩:=h
  refine ⟨_,pss_cons (ps_set (i:=2) scSl.nd rfl (Or.inl rfl) (pe_lst pa_nil))
    (pss_cons (ps_for PassesOwn.never rfl (pi_list (pv 0)) (pg_name (i:=3) scSl.nd rfl (Or.inl rfl)) (pss_one (ps_set (i:=2) scSl.nd rfl (Or.inl rfl) (pe_op op_cat (pv 2) (pe_call GE hr (by rfl) DE.m DE.F.kp DE.b .nil pass0 (pa_n (pv 3) (pa_n (pv 1) pa_nil)))))))
    (pss_one (ps_ret (pv 2)))),?_⟩
  have big:10000 < sizeLine:=by decide
  refine seq_i (asg_i ⟨Nat.zero_le _,fun m hm=>gname_i ?_⟩)
  dsimp only
  have sm:=same_new hm (.lst [])
  refine seq_i ⟨_,rfl,l,rfl,⟨us,SqL.of (sm _ _ hl)⟩,for_list (xs:=us) (fun i σ G=>∃ m v4,σ=[some (.ref l),some (.str b),some (.ref m),v4]∧H m=none∧i≤us.length∧Same H G∧G m=some (.lst ((rowsL (rs.take i) b).map V.str))) ⟨m,none,rfl,hm,Nat.zero_le _,sm,upd_same⟩ ?_ ?_ ?_⟩
  · rintro i σ G hi ⟨m,v4,rfl,_,_,sg,_⟩
    exact SqL.of (sg _ _ hl)
  · rintro i u σ G hu ⟨m,v4,rfl,hm,hi,sg,hG⟩
    have hil:i < us.length:=(List.getElem?_eq_some_iff.mp hu).1
    obtain ⟨r,hr1,hd⟩:=paired_at hp hu
    have lt:=take_len hp b i
    have rle:=rows_le hr1
    have rl:=(hd.lines b).1
    refine gname_i (asg_i ?_)
    dsimp only
    refine ⟨_,rfl,_,rfl,_,rfl,u,b,r,rfl,hd.tk sg,hb,by omega,fun m1 G1 hm1 h1 s1=>?_⟩
    refine ⟨m,m1,_,_,rfl,rfl,s1 _ _ hG,h1,(by rw [List.length_map,List.length_map]; omega),fun m2 hm2=>gname_i ?_⟩
    have s2:=(sg.trans s1).trans (same_new hm2 (.lst ((rowsL (rs.take i) b).map V.str++(r.2 b).map V.str)))
    exact ⟨m2,_,rfl,(sg.trans s1).free hm2,hil,s2,by rw [upd_same,rows_at hr1,rowsL_snoc,List.map_append]⟩
  · rintro σ G ⟨m,v4,rfl,hm,hi,sg,hG⟩
    refine ⟨_,rfl,?_⟩
    rw [← paired_len hp,List.take_length] at hG
    exact q m G hm hG sg
theorem ok_slel (DE:Df K mg "_law_deed_lines" s_law_deed_lines pEl fE fdE) (DS:Df K mg "_law_deeds_lines" s_law_deeds_lines pSl fS fdS) (DF:Df K mg "_law_words" s_law_words pLw fF fdF) (B:Bl mg):∀ n:Nat,FnOk P w K mg base CX0 (2 * n + 16) fE fdE pEl (spEl n)∧FnOk P w K mg base CX0 (2 * n + 17) fS fdS pSl (spDl n)
  | 0=>by
    have z:FnOk P w K mg base CX0 16 fE fdE pEl (spEl 0):=⟨fun vs H Q E h=>(by obtain ⟨v,b,r,rfl,h,_⟩:=h; exact h.elim),fun A outer s H args us vs Q E a b c d h=>(by obtain ⟨v,b,r,rfl,h,_⟩:=h; exact h.elim)⟩
    exact ⟨z,sl_step (n:=0) DS DE B z⟩
  | n + 1=>by
    have e:=el_step (n:=n) DE DS DF B (ok_slel DE DS DF B n).2
    exact ⟨e,sl_step (n:=n + 1) DS DE B e⟩
end
end My
namespace My
open PySem L2
structure Mc where
  nm:Str
  bx:List (Str×Int)
  qs:List Str
  dr:List Int
  hr:List (Str×List Rw)
abbrev shw (z:Int):Str:=Str.ofString (toString z)
def boxL (q:Str×Int):Str:="  box "++q.1++" "++shw q.2
def queL (x:Str):Str:="  queue "++x
def drawL (ns:List Int):List Str:=if ns.isEmpty then [] else ["  draws "++Txt.join " " (ns.map shw)]
def hearL (h:Str×List Rw):List Str:=("  on "++h.1) :: rowsL h.2 "    "
def Mc.lines (M:Mc):List Str:=["machine "++M.nm]++M.bx.map boxL++M.qs.map queL++drawL M.dr++M.hr.flatMap hearL
structure McOk (M:Mc):Prop where
  nm:M.nm.length≤6
  lb:M.bx.length≤9
  bx:∀ q∈M.bx,q.1.length≤6∧Wo q.2
  lq:M.qs.length≤9
  qs:∀ x∈M.qs,x.length≤6
  ld:M.dr.length≤20
  dr:∀ z∈M.dr,Wo z
  lh:M.hr.length≤9
  hr:∀ h∈M.hr,h.1.length≤6∧rowsC h.2≤20
def BxI (H:Hp) (q:Str×Int) (v:V):Prop:=∃ t,v=.ref t∧H t=some (.tup [.str q.1,.int q.2])
def HrI (H:Hp) (h:Str×List Rw) (v:V):Prop:=∃ t l us,v=.ref t∧H t=some (.tup [.str h.1,.ref l])∧H l=some (.lst us)∧Paired (fun r v=>DI H 5 v r) h.2 us
def MI (H:Hp) (M:Mc) (v:V):Prop:=∃ t lb lq ld lh bs hs,v=.ref t∧H t=some (.tup [.str M.nm,.ref lb,.ref lq,.ref ld,.ref lh])∧H lb=some (.lst bs)∧Paired (BxI H) M.bx bs∧H lq=some (.lst (M.qs.map V.str))∧H ld=some (.lst (M.dr.map V.int))∧H lh=some (.lst hs)∧Paired (HrI H) M.hr hs
theorem paired_imp {α β:Type} {R S:α→β→Prop} {rs:List α} {vs:List β} (h:Paired R rs vs) (f:∀ a b,R a b→S a b):Paired S rs vs:=by
  induction h with
  | nil=>exact .nil
  | cons a _ ih=>exact .cons (f _ _ a) ih
theorem BxI.same {H H':Hp} (s:Same H H') {q:Str×Int} {v:V} (h:BxI H q v):BxI H' q v:=by
  obtain ⟨t,e,h⟩:=h
  exact ⟨t,e,s _ _ h⟩
theorem HrI.same {H H':Hp} (s:Same H H') {q:Str×List Rw} {v:V} (h:HrI H q v):HrI H' q v:=by
  obtain ⟨t,l,us,e,h1,h2,h3⟩:=h
  exact ⟨t,l,us,e,s _ _ h1,s _ _ h2,rows_same s h3⟩
theorem MI.same {H H':Hp} (s:Same H H') {M:Mc} {v:V} (h:MI H M v):MI H' M v:=by
  obtain ⟨t,lb,lq,ld,lh,bs,hs,e,a,h1,h2,h3,h4,h5,h6⟩:=h
  exact ⟨t,lb,lq,ld,lh,bs,hs,e,s _ _ a,s _ _ h1,paired_imp h2 fun _ _=>BxI.same s,s _ _ h3,s _ _ h4,s _ _ h5,paired_imp h6 fun _ _=>HrI.same s⟩
theorem flat_le {α:Type} {f:α→List Str} {k:Nat}:∀ {xs:List α},(∀ x∈xs,(f x).length≤k)→(xs.flatMap f).length≤xs.length * k
  | [],_=>Nat.zero_le _
  | x :: xs,h=>by
    have h1:=h x (List.mem_cons_self ..)
    have h2:=flat_le (xs:=xs) fun y hy=>h y (List.mem_cons_of_mem _ hy)
    rw [List.flatMap_cons,List.length_append,List.length_cons,Nat.succ_mul]
    omega
theorem empty_app (x:Str):Str.empty++x=x:=by
  show (⟨#[]++x.cps⟩:Str)=x
  rw [Array.empty_append]
theorem ifS_join {t:L2.TT} {a b:TS} {D:Ends} {σ:St} {H:Hp} (R:Hp→Prop) (k:∀ H',R H'→D.nx σ H') (h:(∀ H',R H'→D.nx σ H')→tIfS t a b D σ H):tIfS t a b D σ H:=h k
theorem join_ints {ns:List Int} (l:ns.length≤20) (h:∀ z∈ns,Wo z):jsz " " (ns.map shw)≤360:=by
  have:=jsz_le (z:=" ") (k:=17) (ys:=ns.map shw) fun x hx=>by
    obtain ⟨z,hz,rfl⟩:=List.mem_map.mp hx
    exact shown_len (h z hz)
  rw [sp1,List.length_map] at this
  have:=Nat.mul_le_mul_right 18 l
  omega
section
variable {P:Program} {w:World} {K:PySem.W.Frag} {mg:Str→Option Value} {base:Heap} {f fD fM:Addr} {fd fdD fdM:FuncData}
seal L2.PS L2.PSs L2.PE L2.PA L2.PT L2.PW L2.PI L2.PG L2.PGs L2.PC
abbrev nMl:List Str:=["machine","lines","name","worth","sign","deeds"]
abbrev pMl:List Str:=["machine"]
theorem scMl:FnScope nMl pMl (defScope s_machine_lines):=⟨rfl,rfl,rfl,by decide +kernel,rfl,by decide +kernel,by decide +kernel⟩
theorem ndMl:((["draw"]:List Str)++nMl).Nodup:=by decide +kernel
def spMl:Sp:=fun vs H Q _=>∃ (v:V) (M:Mc),vs=[v]∧MI H M v∧McOk M∧∀ (m:Addr) (H':Hp),H m=none→H' m=some (.lst (M.lines.map V.str))→Same H H'→Q (.ref m) H'
theorem ok_ml (D:Df K mg "machine_lines" s_machine_lines pMl f fd) (DD:Df K mg "deed_lines" s_deed_lines pDl fD fdD) (GD:FnOk P w K mg base CX0 22 fD fdD pDl (spDl 5)) (B:Bl mg):FnOk P w K mg base CX0 23 f fd pMl spMl:=by
  refine D.F.ok scMl (fun vs H Q E h=>?_) (fun cdv A outer s H vs Q E r22 h=>?_)
  · obtain ⟨v,M,rfl,_⟩:=h
    rfl
  obtain ⟨v,M,rfl,hM,ok,q⟩:=h
  refine ⟨_,pss_cons (ps_set (i:=1) scMl.nd rfl (Or.inl rfl) (pe_lst (pa_b (pe_op op_add_str pe_str (pe_ix ix_tup (pv 0) pe_int (fun _ _=>rfl))) pa_nil)))
    (pss_cons (ps_for PassesOwn.never rfl (pi_list (pe_ix ix_tup (pv 0) pe_int (fun _ _=>rfl))) (pg_tup rfl (pgs_cons (pg_name (i:=2) scMl.nd rfl (Or.inl rfl)) (pgs_cons (pg_name (i:=3) scMl.nd rfl (Or.inl rfl)) pgs_nil))) (pss_one (ps_expr (pe_bm PySem.F.plainAttrs_list PySem.F.slot_list_append PySem.F.type_list_append mt_append (pv 1) (pa_cons (pe_fstr (pj_str (pj_val (pv 2) (pj_str (pj_val (pv 3) pj_nil))))) pa_nil)))))
    (pss_cons (ps_for PassesOwn.never rfl (pi_list (pe_ix ix_tup (pv 0) pe_int (fun _ _=>rfl))) (pg_name (i:=2) scMl.nd rfl (Or.inl rfl)) (pss_one (ps_expr (pe_bm PySem.F.plainAttrs_list PySem.F.slot_list_append PySem.F.type_list_append mt_append (pv 1) (pa_cons (pe_fstr (pj_str (pj_val (pv 2) pj_nil))) pa_nil)))))
    (pss_cons (ps_if (pt_truth (pe_ix ix_tup (pv 0) pe_int (fun _ _=>rfl)) (fun _=>rfl)) (pss_one (ps_expr (pe_bm PySem.F.plainAttrs_list PySem.F.slot_list_append PySem.F.type_list_append mt_append (pv 1) (pa_f (pe_bm PySem.F.plainAttrs_str PySem.F.slot_str_join PySem.F.type_str_join mt_join pe_str (pa_b (pe_op op_cat (pe_lst (pa_c pe_str pa_nil)) (pe_comp ["draw"] (CompOk.open (NN:=nMl) (N:=nMl) (sc:=defScope s_machine_lines) rfl rfl (by decide +kernel) rfl (by decide +kernel) (by decide +kernel) rfl (by decide +kernel)) rfl (pi_list (pe_ix ix_tup (pv 0) pe_int (fun _ _=>rfl))) (fun _ _ _ _=>pg_name (i:=0) ndMl rfl (Or.inl rfl)) (fun _ _ _ _=>pts_nil) (fun _ _ _ _=>pe_callTy call_str_int (by rfl) B.str boot_str (pa_n (pv 0) pa_nil)))) pa_nil)) pa_nil)))) pss_nil)
    (pss_cons (ps_for PassesOwn.never rfl (pi_list (pe_ix ix_tup (pv 0) pe_int (fun _ _=>rfl))) (pg_tup rfl (pgs_cons (pg_name (i:=4) scMl.nd rfl (Or.inl rfl)) (pgs_cons (pg_name (i:=5) scMl.nd rfl (Or.inl rfl)) pgs_nil))) (pss_cons (ps_expr (pe_bm PySem.F.plainAttrs_list PySem.F.slot_list_append PySem.F.type_list_append mt_append (pv 1) (pa_cons (pe_fstr (pj_str (pj_val (pv 4) pj_nil))) pa_nil)))
    (pss_one (ps_expr (pe_bm PySem.F.plainAttrs_list PySem.F.slot_list_extend PySem.F.type_list_extend mt_extend (pv 1) (pa_f (pe_call GD r22 (by rfl) DD.m DD.F.kp DD.b .nil pass0 (pa_n (pv 5) (pa_c pe_str pa_nil))) pa_nil))))))
    (pss_one (ps_ret (pv 1))))))),?_⟩
  have big:10000 < sizeLine:=by decide
  obtain ⟨t,lb,lq,ld,lh,bs,hs,rfl,a,h1,p1,h3,h4,h5,p6⟩:=hM
  have lm:("machine ":Str).length=8:=by decide
  have nm:=ok.nm
  refine seq_i (asg_i ⟨_,rfl,_,_,_,_,rfl,rfl,SqT.of a,rfl,_,_,rfl,rfl,by omega,⟨by show 1≤sizeLine; omega,fun m hm=>gname_i ?_⟩⟩)
  dsimp only
  have sm:=same_new hm (.lst [V.str ("machine "++M.nm)])
  have hm0:upd H m (.lst [V.str ("machine "++M.nm)]) m=some (.lst ([("machine ":Str)++M.nm].map V.str)):=upd_same
  generalize upd H m (.lst [V.str ("machine "++M.nm)])=G0 at sm hm0 ⊢
  have lb9:=ok.lb
  have lq9:=ok.lq
  have e1:("  box ":Str).length=6:=by decide
  have e2:("  queue ":Str).length=8:=by decide
  have e3:("  on ":Str).length=5:=by decide
  have e4:("    ":Str).length=4:=by decide
  have e5:("  draws":Str).length=7:=by decide
  have ee:Str.empty.length=0:=by decide
  refine seq_i ⟨_,rfl,_,_,_,_,rfl,rfl,SqT.of (sm _ _ a),rfl,lb,rfl,⟨bs,SqL.of (sm _ _ h1)⟩,for_list (xs:=bs) (fun i σ G=>∃ u1 u2,σ=[some (.ref t),some (.ref m),u1,u2,none,none]∧Same H G∧G m=some (.lst (([("machine ":Str)++M.nm]++(M.bx.take i).map boxL).map V.str))) ⟨none,none,rfl,sm,hm0⟩ ?_ ?_ ?_⟩
  · rintro i σ G hi ⟨u1,u2,rfl,sg,_⟩
    exact SqL.of (sg _ _ h1)
  · rintro i u σ G hu ⟨u1,u2,rfl,sg,hG⟩
    obtain ⟨x,hx,tb,rfl,hb⟩:=paired_at p1 hu
    obtain ⟨ox,oz⟩:=ok.bx x (List.mem_of_getElem? hx)
    have sl:(shw x.2).length≤17:=shown_len oz
    refine ⟨tb,_,rfl,SqT.of (sg _ _ hb),rfl,_,_,rfl,gname_i ⟨_,_,rfl,gname_i ⟨rfl,?_⟩⟩⟩
    dsimp only
    refine ⟨_,rfl,.inl ⟨rfl,_,SqL.of hG⟩,?_⟩
    refine ⟨by rw [empty_app]; omega,_,rfl,x.1,.inl rfl,by omega,by rw [empty_app,str_len_app]; omega,by rw [empty_app,str_len_app,str_len_app,sp1]; omega,_,rfl,shw x.2,.inr ⟨x.2,rfl,wo_log oz,rfl⟩,by omega,by rw [empty_app,str_len_app,str_len_app,str_len_app,sp1]; omega,by rw [empty_app,str_len_app,str_len_app,str_len_app,sp1]; omega,?_⟩
    refine ⟨m,_,_,rfl,rfl,hG,by rw [List.length_map,List.length_append,List.length_map,List.length_take]; show 1 + min _ _ < _; omega,?_⟩
    refine ⟨_,_,rfl,same_upd sg hm,?_⟩
    rw [upd_same,List.take_succ,hx,empty_app]
    simp [boxL]
  rintro σ G1 ⟨u1,u2,rfl,sg1,hG1⟩
  rw [← paired_len p1,List.take_length] at hG1
  refine seq_i ⟨_,rfl,_,_,_,_,rfl,rfl,SqT.of (sg1 _ _ a),rfl,lq,rfl,⟨_,SqL.of (sg1 _ _ h3)⟩,for_list (xs:=M.qs.map V.str) (fun i σ G=>∃ u1,σ=[some (.ref t),some (.ref m),u1,u2,none,none]∧Same H G∧G m=some (.lst (([("machine ":Str)++M.nm]++M.bx.map boxL++(M.qs.take i).map queL).map V.str))) ⟨u1,rfl,sg1,by rw [hG1]; simp⟩ ?_ ?_ ?_⟩
  · rintro i σ G hi ⟨u1,rfl,sg,_⟩
    exact SqL.of (sg _ _ h3)
  · rintro i u σ G hu ⟨u1,rfl,sg,hG⟩
    obtain ⟨x,hx,rfl⟩:∃ x,M.qs[i]?=some x∧u=.str x:=by
      rw [List.getElem?_map] at hu
      obtain ⟨x,h1,h2⟩:=Option.map_eq_some_iff.mp hu
      exact ⟨x,h1,h2.symm⟩
    have ox:=ok.qs x (List.mem_of_getElem? hx)
    refine gname_i ?_
    dsimp only
    refine ⟨_,rfl,.inl ⟨rfl,_,SqL.of hG⟩,?_⟩
    refine ⟨by rw [empty_app]; omega,_,rfl,x,.inl rfl,by omega,by rw [empty_app,str_len_app]; omega,by rw [empty_app,str_len_app]; omega,?_⟩
    refine ⟨m,_,_,rfl,rfl,hG,by rw [List.length_map,List.length_append,List.length_append,List.length_map,List.length_map,List.length_take]; show 1 + _ + min _ _ < _; omega,?_⟩
    refine ⟨_,rfl,same_upd sg hm,?_⟩
    rw [upd_same,List.take_succ,hx,empty_app]
    simp [queL]
  rintro σ G2 ⟨u1,rfl,sg2,hG2⟩
  rw [List.length_map,List.take_length] at hG2
  have ld20:=ok.ld
  dsimp only
  refine seq_i (ifS_join (fun G3=>Same H G3∧G3 m=some (.lst (([("machine ":Str)++M.nm]++M.bx.map boxL++M.qs.map queL++drawL M.dr).map V.str))) ?_ ?_)
  · rintro G3 ⟨sg3,hG3⟩
    dsimp only
    have ldr:(drawL M.dr).length≤1:=by
      unfold drawL
      split <;> simp
    refine seq_i ⟨_,rfl,_,_,_,_,rfl,rfl,SqT.of (sg3 _ _ a),rfl,lh,rfl,⟨hs,SqL.of (sg3 _ _ h5)⟩,for_list (xs:=hs) (fun i σ G=>∃ u3 u4,σ=[some (.ref t),some (.ref m),u1,u2,u3,u4]∧i≤hs.length∧Same H G∧G m=some (.lst (([("machine ":Str)++M.nm]++M.bx.map boxL++M.qs.map queL++drawL M.dr++(M.hr.take i).flatMap hearL).map V.str))) ⟨none,none,rfl,Nat.zero_le _,sg3,by rw [hG3]; simp⟩ ?_ ?_ ?_⟩
    · rintro i σ G hi ⟨u3,u4,rfl,_,sg,_⟩
      exact SqL.of (sg _ _ h5)
    · rintro i u σ G hu ⟨u3,u4,rfl,hi,sg,hG⟩
      have hil:i < hs.length:=(List.getElem?_eq_some_iff.mp hu).1
      obtain ⟨x,hx,th,l,us,rfl,ht,hl,hp⟩:=paired_at p6 hu
      obtain ⟨ox,oc⟩:=ok.hr x (List.mem_of_getElem? hx)
      have lh9:=ok.lh
      have lfl:((M.hr.take i).flatMap hearL).length≤9 * 41:=by
        have z:=flat_le (f:=hearL) (k:=41) (xs:=M.hr.take i) fun y hy=>by
          obtain ⟨j,hj⟩:=List.mem_iff_getElem?.mp (List.mem_of_mem_take hy)
          have hjl:j < hs.length:=by
            rw [← paired_len p6]
            exact (List.getElem?_eq_some_iff.mp hj).1
          obtain ⟨y',hy',_,_,us',_,_,_,hp'⟩:=paired_at p6 (List.getElem?_eq_getElem hjl)
          rw [hj] at hy'
          cases hy'
          have z1:=(rows_ok hp' "    ").1
          have z2:=(ok.hr y (List.mem_of_getElem? hj)).2
          show _ + 1≤41
          omega
        have z3:(M.hr.take i).length≤9:=by
          rw [List.length_take]
          omega
        have z4:=Nat.mul_le_mul_right 41 z3
        omega
      have rl:=(rows_ok hp "    ").1
      refine ⟨th,_,rfl,SqT.of (sg _ _ ht),rfl,_,_,rfl,gname_i ⟨_,_,rfl,gname_i ⟨rfl,?_⟩⟩⟩
      dsimp only
      refine seq_i ⟨_,rfl,.inl ⟨rfl,_,SqL.of hG⟩,?_⟩
      refine ⟨by rw [empty_app]; omega,_,rfl,x.1,.inl rfl,by omega,by rw [empty_app,str_len_app]; omega,by rw [empty_app,str_len_app]; omega,?_⟩
      refine ⟨m,_,_,rfl,rfl,hG,by rw [List.length_map,List.length_append,List.length_append,List.length_append,List.length_append,List.length_map,List.length_map]; show 1 + _ + _ + _ + _ < _; omega,?_⟩
      dsimp only
      rw [empty_app]
      generalize hA:([("machine ":Str)++M.nm]++M.bx.map boxL++M.qs.map queL++drawL M.dr++(M.hr.take i).flatMap hearL).map V.str=As at hG ⊢
      have lA:As.length≤400:=by
        rw [← hA,List.length_map,List.length_append,List.length_append,List.length_append,List.length_append,List.length_map,List.length_map]
        show 1 + _ + _ + _ + _≤_
        omega
      have sg5:Same H (upd G m (.lst (As++[V.str ("  on "++x.1)]))):=same_upd sg hm
      have hG5:upd G m (.lst (As++[V.str ("  on "++x.1)])) m=_:=upd_same
      generalize upd G m (.lst (As++[V.str ("  on "++x.1)]))=G5 at sg5 hG5 ⊢
      refine ⟨_,rfl,.inl ⟨rfl,_,SqL.of hG5⟩,_,rfl,l,"    ",us,x.2,rfl,by decide,sg5 _ _ hl,rows_same sg5 hp,by rw [e4]; omega,by omega,fun m6 G6 hm6 h6 sg6=>?_⟩
      refine ⟨m,m6,_,_,rfl,rfl,sg6 _ _ hG5,h6,by rw [List.length_append,List.length_map]; show _ + 1 + _≤_; omega,?_⟩
      refine ⟨_,_,rfl,hil,same_upd (sg5.trans sg6) hm,?_⟩
      rw [upd_same,List.take_succ,hx,← hA]
      simp [hearL]
    · rintro σ G ⟨u3,u4,rfl,hi,sg,hG⟩
      refine ⟨_,rfl,?_⟩
      rw [← paired_len p6,List.take_length] at hG
      exact q m G hm hG sg
  · intro hk
    refine ⟨_,rfl,_,_,_,_,rfl,rfl,SqT.of (sg2 _ _ a),rfl,_,.inl ⟨_,SqL.of (sg2 _ _ h4),rfl⟩,?_⟩
    cases hdr:M.dr with
    | nil =>
      refine iteF (hk G2 ⟨sg2,?_⟩)
      rw [hG2,hdr]
      simp [drawL]
    | cons n ns =>
      refine iteT ?_
      rw [hdr] at h4
      refine ⟨_,rfl,.inl ⟨rfl,_,SqL.of hG2⟩,rfl,⟨by show 1≤sizeLine; omega,fun l5 hl5=>?_⟩⟩
      have s5:=same_new hl5 (.lst [V.str "  draws"])
      have h5:upd G2 l5 (.lst [V.str "  draws"]) l5=_:=upd_same
      generalize upd G2 l5 (.lst [V.str "  draws"])=G5 at s5 h5 ⊢
      have s25:=sg2.trans s5
      refine comp_listC (K:=K) (xs:=(n :: ns).map V.int) (fun a' H1=>a'=ld∧H1=G5) (fun R hR=>⟨_,rfl,_,_,_,_,rfl,rfl,SqT.of (s25 _ _ a),rfl,hR ld G5 ⟨rfl,rfl⟩⟩) (fun a' H1 h=>by rw [h.1,h.2]; exact SqL.of (s25 _ _ h4))
        (fun a' H1 i ys G=>G=G5∧ys=(((n :: ns).take i).map shw).map V.str) (fun a' H1 h=>⟨h.2,rfl⟩) ?_ ?_ ?_
      · rintro a' H1 ⟨rfl,rfl⟩ i ys G hi ⟨rfl,rfl⟩
        refine ⟨SqL.of (s25 _ _ h4),?_⟩
        rw [List.length_map] at hi
        rw [hdr] at ld20
        rw [List.length_map,List.length_map,List.length_take]
        omega
      · rintro a' H1 ⟨rfl,rfl⟩ i u ys G hu ⟨rfl,rfl⟩
        obtain ⟨z,hz,rfl⟩:∃ z,(n :: ns)[i]?=some z∧u=.int z:=by
          rw [List.getElem?_map] at hu
          obtain ⟨x,h1,h2⟩:=Option.map_eq_some_iff.mp hu
          exact ⟨x,h1,h2.symm⟩
        have oz:=ok.dr z (by rw [hdr]; exact List.mem_of_getElem? hz)
        refine gname_i ⟨rfl,?_⟩
        unfold tAll
        refine iteT ?_
        refine ⟨_,rfl,_,rfl,wo_log oz,rfl,?_⟩
        rw [List.take_succ,hz,List.map_append,List.map_append]
        rfl
      · rintro a' H1 ⟨rfl,rfl⟩ ys G ⟨rfl,rfl⟩ l6 hl6
        rw [List.length_map,List.take_length]
        have s6:=same_new hl6 (.lst (((n :: ns).map shw).map V.str))
        have ji:=join_ints ok.ld ok.dr
        rw [hdr] at ji ld20
        have jn:jsz " " ("  draws" :: (n :: ns).map shw)≤500:=by
          rw [jsz_cons,e5,sp1]
          omega
        have jl:=join_len " " ("  draws" :: (n :: ns).map shw)
        refine ⟨l5,l6,_,_,rfl,rfl,s6 _ _ h5,upd_same,?_,fun l7 hl7=>?_⟩
        · rw [List.length_map,List.length_map]
          show 1 + _≤_
          omega
        have s7:=same_new hl7 (.lst ([V.str "  draws"]++((n :: ns).map shw).map V.str))
        refine ⟨_,l7,"  draws" :: (n :: ns).map shw,rfl,rfl,.inl (SqL.of upd_same),by omega,m,_,_,rfl,rfl,s7 _ _ (s6 _ _ (s5 _ _ hG2)),?_,?_⟩
        · rw [List.length_map,List.length_append,List.length_append,List.length_map,List.length_map]
          show 1 + _ + _ < _
          omega
        · refine hk _ ⟨same_upd ((s25.trans s6).trans s7) hm,?_⟩
          rw [upd_same,hdr]
          have e6:("  draws":Str)++" "="  draws ":=by decide +kernel
          have e7:Txt.join " " ("  draws" :: (n :: ns).map shw)="  draws "++Txt.join " " ((n :: ns).map shw):=by
            rw [List.map_cons,join_cons,e6]
          rw [e7]
          simp [drawL]
abbrev nMt:List Str:=["machines","lines","machine"]
abbrev pMt:List Str:=["machines"]
theorem scMt:FnScope nMt pMt (defScope s_model_text):=⟨rfl,rfl,rfl,by decide +kernel,rfl,by decide +kernel,by decide +kernel⟩
abbrev MsIn (H:Hp) (Ms:List Mc) (ms:List V):Prop:=Paired (fun M v=>MI H M v∧McOk M) Ms ms
def textOf (Ms:List Mc):Str:=Txt.join "\n" (Ms.flatMap Mc.lines)
theorem MI.lines {H:Hp} {M:Mc} {v:V} (h:MI H M v) (ok:McOk M):M.lines.length≤400∧∀ x∈M.lines,x.length≤2000:=by
  obtain ⟨t,lb,lq,ld,lh,bs,hs,e,a,h1,p1,h3,h4,h5,p6⟩:=h
  have rowsH:∀ y∈M.hr,(hearL y).length≤41∧∀ x∈hearL y,x.length≤2000:=fun y hy=>by
    obtain ⟨v,_,_,us,_,_,_,hp⟩:=paired_mem p6 y hy
    obtain ⟨z1,z2⟩:=rows_ok hp "    "
    obtain ⟨z3,z4⟩:=ok.hr y hy
    have e3:("  on ":Str).length=5:=by decide
    have e4:("    ":Str).length=4:=by decide
    refine ⟨by show _ + 1≤41; omega,fun x hx=>?_⟩
    rcases List.mem_cons.mp hx with rfl | hx
    · rw [str_len_app]
      omega
    · have:=z2 x hx
      omega
  have ldr:(drawL M.dr).length≤1:=by
    unfold drawL
    split <;> simp
  have fl:=flat_le (f:=hearL) (k:=41) (xs:=M.hr) fun y hy=>(rowsH y hy).1
  have fl2:=Nat.mul_le_mul_right 41 ok.lh
  have l1:=ok.lb
  have l2:=ok.lq
  refine ⟨?_,fun x hx=>?_⟩
  · unfold Mc.lines
    rw [List.length_append,List.length_append,List.length_append,List.length_append,List.length_map,List.length_map]
    show 1 + _ + _ + _ + _≤_
    omega
  · unfold Mc.lines at hx
    rcases List.mem_append.mp hx with hx | hx
    · rcases List.mem_append.mp hx with hx | hx
      · rcases List.mem_append.mp hx with hx | hx
        · rcases List.mem_append.mp hx with hx | hx
          · rw [List.mem_singleton.mp hx,str_len_app]
            have:=ok.nm
            have:("machine ":Str).length=8:=by decide
            omega
          · obtain ⟨y,hy,rfl⟩:=List.mem_map.mp hx
            obtain ⟨o1,o2⟩:=ok.bx y hy
            have:(shw y.2).length≤17:=shown_len o2
            have:("  box ":Str).length=6:=by decide
            unfold boxL
            rw [str_len_app,str_len_app,str_len_app,sp1]
            omega
        · obtain ⟨y,hy,rfl⟩:=List.mem_map.mp hx
          have:=ok.qs y hy
          have:("  queue ":Str).length=8:=by decide
          unfold queL
          rw [str_len_app]
          omega
      · unfold drawL at hx
        split at hx
        · cases hx
        · rw [List.mem_singleton.mp hx,str_len_app]
          have:=join_ints ok.ld ok.dr
          have:=join_len " " (M.dr.map shw)
          have:("  draws ":Str).length=8:=by decide
          omega
    · obtain ⟨y,hy,hx⟩:=List.mem_flatMap.mp hx
      exact (rowsH y hy).2 x hx
theorem ms_bound {H:Hp} {Ms:List Mc} {ms:List V} (h:MsIn H Ms ms) (l:Ms.length≤6):(Ms.flatMap Mc.lines).length≤2400∧jsz "\n" (Ms.flatMap Mc.lines)≤16777216:=by
  have each:∀ M∈Ms,M.lines.length≤400∧∀ x∈M.lines,x.length≤2000:=fun M hM=>by
    obtain ⟨v,h1,h2⟩:=paired_mem h M hM
    exact h1.lines h2
  have z:=flat_le (f:=Mc.lines) (k:=400) (xs:=Ms) fun M hM=>(each M hM).1
  have z2:=Nat.mul_le_mul_right 400 l
  have z3:(Ms.flatMap Mc.lines).length≤2400:=by omega
  refine ⟨z3,?_⟩
  have z4:=jsz_le (z:="\n") (k:=2000) (ys:=Ms.flatMap Mc.lines) fun x hx=>by
    obtain ⟨M,hM,hx⟩:=List.mem_flatMap.mp hx
    exact (each M hM).2 x hx
  have e:("\n":Str).length=1:=by decide
  rw [e] at z4
  have z5:=Nat.mul_le_mul_right (2000 + 1) z3
  omega
def spMt:Sp:=fun vs H Q _=>∃ (l:Addr) (ms:List V) (Ms:List Mc),vs=[.ref l]∧H l=some (.lst ms)∧MsIn H Ms ms∧Ms.length≤6∧∀ H',Same H H'→Q (.str (textOf Ms)) H'
theorem ok_mt (D:Df K mg "model_text" s_model_text pMt f fd) (DM:Df K mg "machine_lines" s_machine_lines pMl fM fdM) (GM:FnOk P w K mg base CX0 23 fM fdM pMl spMl) (B:Bl mg):FnOk P w K mg base CX0 24 f fd pMt spMt:=by
  refine D.F.ok scMt (fun vs H Q E h=>?_) (fun cdv A outer s H vs Q E hr h=>?_)
  · obtain ⟨l,ms,Ms,rfl,_⟩:=h
    rfl
  obtain ⟨l,ms,Ms,rfl,hl,hM,l6,q⟩:=h
  refine ⟨_,pss_cons (ps_set (i:=1) scMt.nd rfl (Or.inl rfl) (pe_lst pa_nil))
    (pss_cons (ps_for PassesOwn.never rfl (pi_list (pv 0)) (pg_name (i:=2) scMt.nd rfl (Or.inl rfl)) (pss_one (ps_expr (pe_bm PySem.F.plainAttrs_list PySem.F.slot_list_extend PySem.F.type_list_extend mt_extend (pv 1) (pa_f (pe_call GM hr (by rfl) DM.m DM.F.kp DM.b .nil pass0 (pa_n (pv 2) pa_nil)) pa_nil)))))
    (pss_one (ps_ret (pe_bm PySem.F.plainAttrs_str PySem.F.slot_str_join PySem.F.type_str_join mt_join pe_str (pa_n (pv 1) pa_nil))))),?_⟩
  have big:10000 < sizeLine:=by decide
  obtain ⟨b1,b2⟩:=ms_bound hM l6
  refine seq_i (asg_i ⟨Nat.zero_le _,fun m hm=>gname_i ?_⟩)
  dsimp only
  have sm:=same_new hm (.lst [])
  refine seq_i ⟨_,rfl,l,rfl,⟨ms,SqL.of (sm _ _ hl)⟩,for_list (xs:=ms) (fun i σ G=>∃ u2,σ=[some (.ref l),some (.ref m),u2]∧Same H G∧G m=some (.lst (((Ms.take i).flatMap Mc.lines).map V.str))) ⟨none,rfl,sm,upd_same⟩ ?_ ?_ ?_⟩
  · rintro i σ G hi ⟨u2,rfl,sg,_⟩
    exact SqL.of (sg _ _ hl)
  · rintro i u σ G hu ⟨u2,rfl,sg,hG⟩
    obtain ⟨M,hx,hM1,ok⟩:=paired_at hM hu
    have lM:=(hM1.lines ok).1
    have lT:((Ms.take i).flatMap Mc.lines).length≤2400:=by
      have e:(Ms.flatMap Mc.lines).length=((Ms.take i).flatMap Mc.lines).length + ((Ms.drop i).flatMap Mc.lines).length:=by
        conv=>lhs; rw [← List.take_append_drop i Ms]
        rw [List.flatMap_append,List.length_append]
      omega
    refine gname_i ?_
    dsimp only
    refine ⟨_,rfl,.inl ⟨rfl,_,SqL.of hG⟩,_,rfl,u,M,rfl,hM1.same sg,ok,fun m1 G1 hm1 h1 s1=>?_⟩
    refine ⟨m,m1,_,_,rfl,rfl,s1 _ _ hG,h1,by rw [List.length_map,List.length_map]; omega,?_⟩
    refine ⟨_,rfl,same_upd (sg.trans s1) hm,?_⟩
    rw [upd_same,List.take_succ,hx]
    simp
  · rintro σ G ⟨u2,rfl,sg,hG⟩
    rw [← paired_len hM,List.take_length] at hG
    exact ⟨rfl,_,rfl,_,m,_,rfl,rfl,.inl (SqL.of hG),b2,q _ sg⟩
end
end My
namespace My
open PySem L2
section
variable {P:Program} {w:World} {K:PySem.W.Frag} {mg:Str→Option Value} {base:Heap} {f fS:Addr} {fd fdS:FuncData}
seal L2.PS L2.PSs L2.PE L2.PA L2.PT L2.PW L2.PI L2.PG L2.PGs L2.PC
abbrev nLl:List Str:=["_law_machines_here","_law_found","_law_name","_law_boxes","_law_queues","_law_draws","_law_hears","_law_box","_law_worth_here","_law_queue","_law_sign","_law_deeds_here"]
abbrev pLl:List Str:=["_law_machines_here"]
theorem scLl:FnScope nLl pLl (defScope s_law_lines):=⟨rfl,rfl,rfl,by decide +kernel,rfl,by decide +kernel,by decide +kernel⟩
theorem ndLl:((["_law_draw"]:List Str)++nLl).Nodup:=by decide +kernel
def spLl:Sp:=fun vs H Q _=>∃ (l:Addr) (ms:List V) (Ms:List Mc),vs=[.ref l]∧H l=some (.lst ms)∧MsIn H Ms ms∧Ms.length≤6∧∀ (m:Addr) (H':Hp),H m=none→H' m=some (.lst ((Ms.flatMap Mc.lines).map V.str))→Same H H'→Q (.ref m) H'
theorem ok_ll (D:Df K mg "_law_lines" s_law_lines pLl f fd) (DS:Df K mg "_law_deeds_lines" s_law_deeds_lines pSl fS fdS) (GS:FnOk P w K mg base CX0 27 fS fdS pSl (spDl 5)) (B:Bl mg):FnOk P w K mg base CX0 28 f fd pLl spLl:=by
  refine D.F.ok scLl (fun vs H Q E h=>?_) (fun cdv A outer s H vs Q E r27 h=>?_)
  · obtain ⟨l,ms,Ms,rfl,_⟩:=h
    rfl
  obtain ⟨l,ms,Ms,rfl,hl,hMs,l6,q⟩:=h
  have h50:=hu50 r27
  refine ⟨_,pss_cons (ps_set (i:=1) scLl.nd rfl (Or.inl rfl) (pe_lst pa_nil))
    (pss_cons (ps_for PassesOwn.never rfl (pi_list (pv 0)) (pg_tup rfl (pgs_cons (pg_name (i:=2) scLl.nd rfl (Or.inl rfl)) (pgs_cons (pg_name (i:=3) scLl.nd rfl (Or.inl rfl)) (pgs_cons (pg_name (i:=4) scLl.nd rfl (Or.inl rfl)) (pgs_cons (pg_name (i:=5) scLl.nd rfl (Or.inl rfl)) (pgs_cons (pg_name (i:=6) scLl.nd rfl (Or.inl rfl)) pgs_nil)))))) (pss_cons (ps_expr (pe_bm PySem.F.plainAttrs_list PySem.F.slot_list_append PySem.F.type_list_append mt_append (pv 1) (pa_b (pe_op op_add_str pe_str (pv 2)) pa_nil)))
    (pss_cons (ps_for PassesOwn.never rfl (pi_list (pv 3)) (pg_tup rfl (pgs_cons (pg_name (i:=7) scLl.nd rfl (Or.inl rfl)) (pgs_cons (pg_name (i:=8) scLl.nd rfl (Or.inl rfl)) pgs_nil))) (pss_one (ps_expr (pe_bm PySem.F.plainAttrs_list PySem.F.slot_list_append PySem.F.type_list_append mt_append (pv 1) (pa_b (pe_op op_add_str (pe_op op_add_str (pe_op op_add_str pe_str (pv 7)) pe_str) (pe_callTy call_str_int (by rfl) B.str boot_str (pa_n (pv 8) pa_nil))) pa_nil)))))
    (pss_cons (ps_for PassesOwn.never rfl (pi_list (pv 4)) (pg_name (i:=9) scLl.nd rfl (Or.inl rfl)) (pss_one (ps_expr (pe_bm PySem.F.plainAttrs_list PySem.F.slot_list_append PySem.F.type_list_append mt_append (pv 1) (pa_b (pe_op op_add_str pe_str (pv 9)) pa_nil)))))
    (pss_cons (ps_if (pt_cmpR (op_neL h50) (pv 5) (pe_lst pa_nil) (nomark _)) (pss_one (ps_expr (pe_bm PySem.F.plainAttrs_list PySem.F.slot_list_append PySem.F.type_list_append mt_append (pv 1) (pa_b (pe_op op_add_str pe_str (pe_bm PySem.F.plainAttrs_str PySem.F.slot_str_join PySem.F.type_str_join mt_join pe_str (pa_cons (pe_comp ["_law_draw"] (CompOk.open (NN:=nLl) (N:=nLl) (sc:=defScope s_law_lines) rfl rfl (by decide +kernel) rfl (by decide +kernel) (by decide +kernel) rfl (by decide +kernel)) rfl (pi_list (pv 5)) (fun _ _ _ _=>pg_name (i:=0) ndLl rfl (Or.inl rfl)) (fun _ _ _ _=>pts_nil) (fun _ _ _ _=>pe_callTy call_str_int (by rfl) B.str boot_str (pa_n (pv 0) pa_nil))) pa_nil))) pa_nil)))) pss_nil)
    (pss_one (ps_for PassesOwn.never rfl (pi_list (pv 6)) (pg_tup rfl (pgs_cons (pg_name (i:=10) scLl.nd rfl (Or.inl rfl)) (pgs_cons (pg_name (i:=11) scLl.nd rfl (Or.inl rfl)) pgs_nil))) (pss_one (ps_set (i:=1) scLl.nd rfl (Or.inl rfl) (pe_op op_cat (pe_op op_cat (pv 1) (pe_lst (pa_b (pe_op op_add_str pe_str (pv 10)) pa_nil))) (pe_call GS r27 (by rfl) DS.m DS.F.kp DS.b .nil pass0 (pa_n (pv 11) (pa_c pe_str pa_nil)))))))))))))
    (pss_one (ps_ret (pv 1)))),?_⟩
  have big:10000 < sizeLine:=by decide
  obtain ⟨b1,b2⟩:=ms_bound hMs l6
  have lm:("machine ":Str).length=8:=by decide
  have e1:("  box ":Str).length=6:=by decide
  have e2:("  queue ":Str).length=8:=by decide
  have e3:("  on ":Str).length=5:=by decide
  have e4:("    ":Str).length=4:=by decide
  have e5:("  draws ":Str).length=8:=by decide
  refine seq_i (asg_i ⟨Nat.zero_le _,fun m hm=>gname_i ?_⟩)
  dsimp only
  have sm:=same_new hm (.lst [])
  refine seq_i ⟨_,rfl,l,rfl,⟨ms,SqL.of (sm _ _ hl)⟩,for_list (xs:=ms) (fun i σ G=>∃ m u2 u3 u4 u5 u6 u7 u8 u9 u10 u11,σ=[some (.ref l),some (.ref m),u2,u3,u4,u5,u6,u7,u8,u9,u10,u11]∧H m=none∧Same H G∧G m=some (.lst (((Ms.take i).flatMap Mc.lines).map V.str))) ⟨m,none,none,none,none,none,none,none,none,none,none,rfl,hm,sm,upd_same⟩ ?_ ?_ ?_⟩
  · rintro i σ G hi ⟨m,u2,u3,u4,u5,u6,u7,u8,u9,u10,u11,rfl,hm,sg,_⟩
    exact SqL.of (sg _ _ hl)
  · rintro i0 u0 σ G hu0 ⟨m,u2,u3,u4,u5,u6,u7,u8,u9,u10,u11,rfl,hm,sg,hG⟩
    obtain ⟨M,hx0,hM1,ok⟩:=paired_at hMs hu0
    obtain ⟨t,lb,lq,ld,lh,bs,hs,rfl,a,h1,p1,h3,h4,h5,p6⟩:=hM1
    have lT:((Ms.take i0).flatMap Mc.lines).length≤2400:=by
      have e:(Ms.flatMap Mc.lines).length=((Ms.take i0).flatMap Mc.lines).length + ((Ms.drop i0).flatMap Mc.lines).length:=by
        conv=>lhs; rw [← List.take_append_drop i0 Ms]
        rw [List.flatMap_append,List.length_append]
      omega
    have nm:=ok.nm
    have lb9:=ok.lb
    have lq9:=ok.lq
    have ld20:=ok.ld
    refine ⟨t,_,rfl,SqT.of (sg _ _ a),rfl,_,_,rfl,gname_i ⟨_,_,rfl,gname_i ⟨_,_,rfl,gname_i ⟨_,_,rfl,gname_i ⟨_,_,rfl,gname_i ⟨rfl,?_⟩⟩⟩⟩⟩⟩
    dsimp only
    have step:(Ms.take (i0 + 1)).flatMap Mc.lines=(Ms.take i0).flatMap Mc.lines++M.lines:=by
      rw [List.take_succ,hx0]
      simp
    generalize hAs:(Ms.take i0).flatMap Mc.lines=As at hG lT step
    refine seq_i ⟨_,rfl,.inl ⟨rfl,_,SqL.of hG⟩,_,rfl,_,_,rfl,rfl,by omega,m,_,_,rfl,rfl,hG,by rw [List.length_map]; omega,?_⟩
    dsimp only
    have sg0:Same H (upd G m (.lst (As.map V.str++[V.str ("machine "++M.nm)]))):=same_upd sg hm
    have hG0:upd G m (.lst (As.map V.str++[V.str ("machine "++M.nm)])) m=some (.lst ((As++[("machine ":Str)++M.nm]).map V.str)):=by rw [upd_same,List.map_append]; rfl
    generalize upd G m (.lst (As.map V.str++[V.str ("machine "++M.nm)]))=G0 at sg0 hG0 ⊢
    refine seq_i ⟨_,rfl,lb,rfl,⟨bs,SqL.of (sg0 _ _ h1)⟩,for_list (xs:=bs) (fun i σ G=>∃ u7 u8,σ=[some (.ref l),some (.ref m),some (.str M.nm),some (.ref lb),some (.ref lq),some (.ref ld),some (.ref lh),u7,u8,u9,u10,u11]∧Same H G∧G m=some (.lst ((As++[("machine ":Str)++M.nm]++(M.bx.take i).map boxL).map V.str))) ⟨u7,u8,rfl,sg0,by rw [hG0]; simp⟩ ?_ ?_ ?_⟩
    · rintro i σ G hi ⟨u7,u8,rfl,sg,_⟩
      exact SqL.of (sg _ _ h1)
    · rintro i u σ G hu ⟨u7,u8,rfl,sg,hG⟩
      obtain ⟨x,hx,tb,rfl,hb⟩:=paired_at p1 hu
      obtain ⟨ox,oz⟩:=ok.bx x (List.mem_of_getElem? hx)
      have sl:=shown_len oz
      refine ⟨tb,_,rfl,SqT.of (sg _ _ hb),rfl,_,_,rfl,gname_i ⟨_,_,rfl,gname_i ⟨rfl,?_⟩⟩⟩
      dsimp only
      refine ⟨_,rfl,.inl ⟨rfl,_,SqL.of hG⟩,_,rfl,_,_,rfl,rfl,by omega,_,_,rfl,rfl,by rw [str_len_app,sp1]; omega,_,rfl,_,rfl,wo_log oz,_,_,rfl,rfl,by rw [str_len_app,str_len_app,sp1]; omega,?_⟩
      refine ⟨m,_,_,rfl,rfl,hG,by rw [List.length_map,List.length_append,List.length_append,List.length_map,List.length_take]; show _ + 1 + min _ _ < _; omega,?_⟩
      refine ⟨_,_,rfl,same_upd sg hm,?_⟩
      rw [upd_same,List.take_succ,hx]
      simp [boxL,shw]
    rintro σ G1 ⟨u7,u8,rfl,sg1,hG1⟩
    rw [← paired_len p1,List.take_length] at hG1
    dsimp only
    refine seq_i ⟨_,rfl,lq,rfl,⟨_,SqL.of (sg1 _ _ h3)⟩,for_list (xs:=M.qs.map V.str) (fun i σ G=>∃ u9,σ=[some (.ref l),some (.ref m),some (.str M.nm),some (.ref lb),some (.ref lq),some (.ref ld),some (.ref lh),u7,u8,u9,u10,u11]∧Same H G∧G m=some (.lst ((As++[("machine ":Str)++M.nm]++M.bx.map boxL++(M.qs.take i).map queL).map V.str))) ⟨u9,rfl,sg1,by rw [hG1]; simp⟩ ?_ ?_ ?_⟩
    · rintro i σ G hi ⟨u9,rfl,sg,_⟩
      exact SqL.of (sg _ _ h3)
    · rintro i u σ G hu ⟨u9,rfl,sg,hG⟩
      obtain ⟨x,hx,rfl⟩:∃ x,M.qs[i]?=some x∧u=.str x:=by
        rw [List.getElem?_map] at hu
        obtain ⟨x,h1,h2⟩:=Option.map_eq_some_iff.mp hu
        exact ⟨x,h1,h2.symm⟩
      have ox:=ok.qs x (List.mem_of_getElem? hx)
      refine gname_i ?_
      dsimp only
      refine ⟨_,rfl,.inl ⟨rfl,_,SqL.of hG⟩,_,rfl,_,_,rfl,rfl,by omega,?_⟩
      refine ⟨m,_,_,rfl,rfl,hG,by rw [List.length_map,List.length_append,List.length_append,List.length_append,List.length_map,List.length_map,List.length_take]; show _ + 1 + _ + min _ _ < _; omega,?_⟩
      refine ⟨_,rfl,same_upd sg hm,?_⟩
      rw [upd_same,List.take_succ,hx]
      simp [queL]
    rintro σ G2 ⟨u9,rfl,sg2,hG2⟩
    rw [List.length_map,List.take_length] at hG2
    dsimp only
    refine seq_i (ifS_join (fun G3=>Same H G3∧G3 m=some (.lst ((As++[("machine ":Str)++M.nm]++M.bx.map boxL++M.qs.map queL++drawL M.dr).map V.str))) ?_ ?_)
    · rintro G3 ⟨sg3,hG3⟩
      dsimp only
      have ldr:(drawL M.dr).length≤1:=by
        unfold drawL
        split <;> simp
      refine ⟨_,rfl,lh,rfl,⟨hs,SqL.of (sg3 _ _ h5)⟩,for_list (xs:=hs) (fun i σ G=>∃ m u10 u11,σ=[some (.ref l),some (.ref m),some (.str M.nm),some (.ref lb),some (.ref lq),some (.ref ld),some (.ref lh),u7,u8,u9,u10,u11]∧H m=none∧i≤hs.length∧Same H G∧G m=some (.lst ((As++[("machine ":Str)++M.nm]++M.bx.map boxL++M.qs.map queL++drawL M.dr++(M.hr.take i).flatMap hearL).map V.str))) ⟨m,u10,u11,rfl,hm,Nat.zero_le _,sg3,by rw [hG3]; simp⟩ ?_ ?_ ?_⟩
      · rintro i σ G hi ⟨m,u10,u11,rfl,_,_,sg,_⟩
        exact SqL.of (sg _ _ h5)
      · rintro i u σ G hu ⟨m,u10,u11,rfl,hm,hi,sg,hG⟩
        have hil:i < hs.length:=(List.getElem?_eq_some_iff.mp hu).1
        obtain ⟨x,hx,th,lx,us,rfl,ht,hlx,hp⟩:=paired_at p6 hu
        obtain ⟨ox,oc⟩:=ok.hr x (List.mem_of_getElem? hx)
        have lh9:=ok.lh
        have lfl:((M.hr.take i).flatMap hearL).length≤9 * 41:=by
          have z:=flat_le (f:=hearL) (k:=41) (xs:=M.hr.take i) fun y hy=>by
            obtain ⟨v,_,_,us',_,_,_,hp'⟩:=paired_mem p6 y (List.mem_of_mem_take hy)
            have z1:=(rows_ok hp' "    ").1
            have z2:=(ok.hr y (List.mem_of_mem_take hy)).2
            show _ + 1≤41
            omega
          have z3:(M.hr.take i).length≤9:=by
            rw [List.length_take]
            omega
          have z4:=Nat.mul_le_mul_right 41 z3
          omega
        have rl:=(rows_ok hp "    ").1
        refine ⟨th,_,rfl,SqT.of (sg _ _ ht),rfl,_,_,rfl,gname_i ⟨_,_,rfl,gname_i ⟨rfl,asg_i ?_⟩⟩⟩
        dsimp only
        generalize hA:(As++[("machine ":Str)++M.nm]++M.bx.map boxL++M.qs.map queL++drawL M.dr++(M.hr.take i).flatMap hearL).map V.str=Bs at hG
        have lA:Bs.length≤3000:=by
          rw [← hA,List.length_map,List.length_append,List.length_append,List.length_append,List.length_append,List.length_append,List.length_map,List.length_map]
          show _ + 1 + _ + _ + _ + _≤_
          omega
        refine ⟨_,rfl,_,rfl,_,_,rfl,rfl,by omega,⟨by show 1≤sizeLine; omega,fun l4 hl4=>?_⟩⟩
        have s4:=same_new hl4 (.lst [V.str ("  on "++x.1)])
        refine ⟨m,l4,_,_,rfl,rfl,s4 _ _ hG,upd_same,by show _ + 1≤_; omega,fun m5 hm5=>?_⟩
        have s5:=(sg.trans s4).trans (same_new hm5 (.lst (Bs++[V.str ("  on "++x.1)])))
        have h55:upd (upd G l4 (.lst [V.str ("  on "++x.1)])) m5 (.lst (Bs++[V.str ("  on "++x.1)])) m5=_:=upd_same
        generalize upd (upd G l4 (.lst [V.str ("  on "++x.1)])) m5 (.lst (Bs++[V.str ("  on "++x.1)]))=G5 at s5 h55 ⊢
        refine ⟨_,rfl,lx,"    ",us,x.2,rfl,by decide,s5 _ _ hlx,rows_same s5 hp,by rw [e4]; omega,by omega,fun m6 G6 hm6 h6 sg6=>?_⟩
        refine ⟨m5,m6,_,_,rfl,rfl,sg6 _ _ h55,h6,by rw [List.length_append,List.length_map]; show _ + 1 + _≤_; omega,fun m7 hm7=>gname_i ?_⟩
        refine ⟨m7,_,_,rfl,(s5.trans sg6).free hm7,hil,(s5.trans sg6).trans (same_new hm7 _),?_⟩
        rw [upd_same,List.take_succ,hx,← hA]
        simp [hearL]
      · rintro σ G ⟨m,u10,u11,rfl,hm,hi,sg,hG⟩
        refine ⟨m,_,_,_,_,_,_,_,_,_,_,rfl,hm,sg,?_⟩
        rw [← paired_len p6,List.take_length] at hG
        rw [hG,step]
        simp [Mc.lines]
    · intro hk
      refine ⟨_,rfl,⟨Nat.zero_le _,fun l0 hl0=>?_⟩⟩
      have s0:=same_new hl0 (.lst [])
      refine ⟨ld,l0,_,rfl,rfl,s0 _ _ (sg2 _ _ h4),upd_same,_,rfl,?_⟩
      have s20:=sg2.trans s0
      have hG20:=s0 _ _ hG2
      generalize upd G2 l0 (.lst [])=G5 at s20 hG20 ⊢
      cases hdr:M.dr with
      | nil =>
        refine iteF (hk G5 ⟨s20,?_⟩)
        rw [hG20,hdr]
        simp [drawL]
      | cons n ns =>
        refine iteT ?_
        rw [hdr] at h4
        refine ⟨_,rfl,.inl ⟨rfl,_,SqL.of hG20⟩,rfl,?_⟩
        refine comp_listC (K:=K) (xs:=(n :: ns).map V.int) (fun a' H1=>a'=ld∧H1=G5) (fun R hR=>⟨_,rfl,hR ld G5 ⟨rfl,rfl⟩⟩) (fun a' H1 h=>by rw [h.1,h.2]; exact SqL.of (s20 _ _ h4))
          (fun a' H1 i ys G=>G=G5∧ys=(((n :: ns).take i).map shw).map V.str) (fun a' H1 h=>⟨h.2,rfl⟩) ?_ ?_ ?_
        · rintro a' H1 ⟨rfl,rfl⟩ i ys G hi ⟨rfl,rfl⟩
          refine ⟨SqL.of (s20 _ _ h4),?_⟩
          rw [List.length_map] at hi
          rw [hdr] at ld20
          rw [List.length_map,List.length_map,List.length_take]
          omega
        · rintro a' H1 ⟨rfl,rfl⟩ i u ys G hu ⟨rfl,rfl⟩
          obtain ⟨z,hz,rfl⟩:∃ z,(n :: ns)[i]?=some z∧u=.int z:=by
            rw [List.getElem?_map] at hu
            obtain ⟨x,h1,h2⟩:=Option.map_eq_some_iff.mp hu
            exact ⟨x,h1,h2.symm⟩
          have oz:=ok.dr z (by rw [hdr]; exact List.mem_of_getElem? hz)
          refine gname_i ⟨rfl,?_⟩
          unfold tAll
          refine iteT ?_
          refine ⟨_,rfl,_,rfl,wo_log oz,rfl,?_⟩
          rw [List.take_succ,hz,List.map_append,List.map_append]
          rfl
        · rintro a' H1 ⟨rfl,rfl⟩ ys G ⟨rfl,rfl⟩ l6' hl6
          rw [List.length_map,List.take_length]
          have s6:=same_new hl6 (.lst (((n :: ns).map shw).map V.str))
          have ji:=join_ints ok.ld ok.dr
          rw [hdr] at ji ld20
          have jl:=join_len " " ((n :: ns).map shw)
          refine ⟨_,l6',(n :: ns).map shw,rfl,rfl,.inl (SqL.of upd_same),by omega,_,_,rfl,rfl,by omega,m,_,_,rfl,rfl,s6 _ _ hG20,?_,?_⟩
          · rw [List.length_map,List.length_append,List.length_append,List.length_append,List.length_map,List.length_map]
            show _ + 1 + _ + _ < _
            omega
          · refine hk _ ⟨same_upd (s20.trans s6) hm,?_⟩
            rw [upd_same,hdr]
            simp [drawL]
  · rintro σ G ⟨m,u2,u3,u4,u5,u6,u7,u8,u9,u10,u11,rfl,hm,sg,hG⟩
    rw [← paired_len hMs,List.take_length] at hG
    exact ⟨_,rfl,q m G hm hG sg⟩
end
end My
namespace My
open PySem L2
def Wp (p:Addr) (H:Hp):Hp:=fun a=>if a=p then none else H a
theorem wp_some {p a:Addr} {H:Hp} {o:HO} (h:H a=some o) (n:a≠p):Wp p H a=some o:=by
  unfold Wp
  rw [if_neg n]
  exact h
theorem wp_of {p a:Addr} {H:Hp} {o:HO} (h:Wp p H a=some o):a≠p∧H a=some o:=by
  unfold Wp at h
  by_cases c:a=p
  · rw [if_pos c] at h
    cases h
  · rw [if_neg c] at h
    exact ⟨c,h⟩
theorem But.wp {p:Addr} {H H':Hp} (b:But p H H'):Same (Wp p H) (Wp p H'):=fun a o e=>by
  obtain ⟨n,h⟩:=wp_of e
  exact wp_some (b _ _ h n) n
theorem wp_same (p:Addr) (H:Hp):Same (Wp p H) H:=fun a o e=>(wp_of e).2
theorem strs_of {xs:List V} {ss:List Str} (h:∀ v∈xs,v∈ss.map V.str):∃ qs:List Str,xs=qs.map V.str∧∀ x∈qs,x∈ss:=by
  induction xs with
  | nil=>exact ⟨[],rfl,fun x hx=>by cases hx⟩
  | cons v xs ih =>
    obtain ⟨qs,e,h2⟩:=ih fun u hu=>h u (List.mem_cons_of_mem _ hu)
    obtain ⟨x,hx,rfl⟩:=List.mem_map.mp (h v (List.mem_cons_self ..))
    refine ⟨x :: qs,by rw [e]; rfl,fun y hy=>?_⟩
    rcases List.mem_cons.mp hy with rfl | hy
    · exact hx
    · exact h2 y hy
theorem comp_listD {K:PySem.W.Frag} {n:Nat} {ti:TE} {g:TG} {tc:L2.TT} {te:TE} {σ:St} {H:Hp} {Q:VK} (PP:Addr→List V→Hp→Prop) (hi:∀ R:VK,(∀ a xs H1,PP a xs H1→R (.ref a) H1)→ti σ H R) (hx:∀ a xs H1,PP a xs H1→SqL K H1 a xs) (Pv:Addr→List V→Hp→Nat→List V→Hp→Prop) (h0:∀ a xs H1,PP a xs H1→Pv a xs H1 0 [] H1)
    (hl:∀ a xs H1,PP a xs H1→∀ i ys G,i≤xs.length→Pv a xs H1 i ys G→SqL K G a xs∧ys.length < sizeLine)
    (hs:∀ a xs H1,PP a xs H1→∀ i x ys G,xs[i]?=some x→Pv a xs H1 i ys G→g x (List.replicate n none++σ) G fun σ2 H2=>σ2.drop n=σ∧tc σ2 H2 fun b H3=>if b=true then te σ2 H3 fun y H4=>Pv a xs H1 (i + 1) (ys++[y]) H4 else Pv a xs H1 (i + 1) ys H3)
    (hd:∀ a xs H1,PP a xs H1→∀ ys G,Pv a xs H1 xs.length ys G→∀ p,G p=none→Q (.ref p) (upd G p (.lst ys))):tComp n (iList K ti) g tc te σ H Q:=
  hi _ fun a xs H1 p=>⟨a,rfl,⟨xs,hx a xs H1 p⟩,comp_list (Pv a xs H1) (h0 a xs H1 p) (hl a xs H1 p) (hs a xs H1 p) (hd a xs H1 p)⟩
section
variable {P:Program} {w:World} {K:PySem.W.Frag} {mg:Str→Option Value} {base:Heap} {f fT fW fN fS:Addr} {fd fdT fdW fdN fdS:FuncData}
seal L2.PS L2.PSs L2.PE L2.PA L2.PT L2.PW L2.PI L2.PG L2.PGs L2.PC
abbrev nMa:List Str:=["_law_purse_here","_law_name","_law_names_here","_law_boxes","_law_queues","_law_draws","_law_hears","_law_sign"]
abbrev pMa:List Str:=["_law_purse_here","_law_name"]
theorem scMa:FnScope nMa pMa (defScope s_law_machine):=⟨rfl,rfl,rfl,by decide +kernel,rfl,by decide +kernel,by decide +kernel⟩
theorem ndMa:((["_law_box"]:List Str)++nMa).Nodup:=by decide +kernel
theorem ndMa2:((["_law_k"]:List Str)++nMa).Nodup:=by decide +kernel
def spMa:Sp:=fun vs H Q _=>∃ (p:Addr) (nm:Str),vs=[.ref p,.str nm]∧Purse H p∧nm.length≤6∧∀ (v:V) (M:Mc) (H':Hp),MI (Wp p H') M v→McOk M→Purse H' p→But p H H'→Q v H'
theorem ok_ma (D:Df K mg "_law_machine" s_law_machine pMa f fd) (DT:Df K mg "_law_take" s_law_take pT fT fdT) (DW:Df K mg "_law_worth" s_law_worth pW fW fdW) (DN:Df K mg "_law_names" s_law_names pN fN fdN) (DS:Df K mg "_law_deeds" s_law_deeds pS fS fdS) (GS:FnOk P w K mg base CX0 29 fS fdS pS (spDs 5)) (B:Bl mg):FnOk P w K mg base CX0 30 f fd pMa spMa:=by
  have GT:FnOk P w K mg base CX0 1 fT fdT pT spTake:=ok_take DT B
  have GW:FnOk P w K mg base CX0 2 fW fdW pW spWorth:=ok_worth DW DT B
  have GN:FnOk P w K mg base CX0 2 fN fdN pN spNames:=ok_names DN DT B
  refine D.F.ok scMa (fun vs H Q E h=>?_) (fun cdv A outer s H vs Q E r29 h=>?_)
  · obtain ⟨p,nm,rfl,_⟩:=h
    rfl
  obtain ⟨p,nm,rfl,pu,lnm,q⟩:=h
  have r1:Room 1 _:=r29.mono (by decide)
  have r2:Room 2 _:=r29.mono (by decide)
  refine ⟨_,pss_cons (ps_set (i:=2) scMa.nd rfl (Or.inl rfl) (pe_call GN r2 (by rfl) DN.m DN.F.kp DN.b .nil pass0 (pa_n (pv 0) (pa_c pe_int pa_nil))))
    (pss_cons (ps_comp (i:=3) ["_law_box"] (CompOk.open (NN:=nMa) (N:=nMa) (sc:=defScope s_law_machine) rfl rfl (by decide +kernel) rfl (by decide +kernel) (by decide +kernel) rfl (by decide +kernel)) rfl scMa.nd rfl (Or.inl rfl) (pi_list (pe_slice sl_list (pv 2) po_none (po_some (pe_call GT r1 (by rfl) DT.m DT.F.kp DT.b .nil pass0 (pa_n (pv 0) (pa_c pe_int pa_nil)))))) (fun _ _ _ _=>pg_name (i:=0) ndMa rfl (Or.inl rfl)) (fun _ _ _ _=>pts_nil) (fun _ _ _ _=>pe_tup (pa_n (pv 0) (pa_f (pe_call GW r2 (by rfl) DW.m DW.F.kp DW.b .nil pass0 (pa_n (pv 1) pa_nil)) pa_nil))))
    (pss_cons (ps_set (i:=4) scMa.nd rfl (Or.inl rfl) (pe_slice sl_list (pv 2) (po_some pe_int) (po_some (pe_op op_add pe_int (pe_call GT r1 (by rfl) DT.m DT.F.kp DT.b .nil pass0 (pa_n (pv 0) (pa_c pe_int pa_nil)))))))
    (pss_cons (ps_comp (i:=5) ["_law_k"] (CompOk.open (NN:=nMa) (N:=nMa) (sc:=defScope s_law_machine) rfl rfl (by decide +kernel) rfl (by decide +kernel) (by decide +kernel) rfl (by decide +kernel)) rfl scMa.nd rfl (Or.inl rfl) (pi_range1 (by rfl) B.range (pa_s (pe_ix ix_list (pe_lst (pa_c pe_int (pa_c pe_int (pa_c pe_int (pa_c pe_int pa_nil))))) (pe_call GT r1 (by rfl) DT.m DT.F.kp DT.b .nil pass0 (pa_n (pv 0) (pa_c pe_int pa_nil))) (fun _ _=>rfl)) pa_nil)) (fun _ _ _ _=>pg_name (i:=0) ndMa2 rfl (Or.inl rfl)) (fun _ _ _ _=>pts_nil) (fun _ _ _ _=>pe_callB call_abs (by rfl) B.abs boot_abs (pa_f (pe_call GW r2 (by rfl) DW.m DW.F.kp DW.b .nil pass0 (pa_n (pv 1) pa_nil)) pa_nil)))
    (pss_cons (ps_set (i:=6) scMa.nd rfl (Or.inl rfl) (pe_lst pa_nil))
    (pss_cons (ps_for PassesOwn.never rfl (pi_list (pe_call GN r2 (by rfl) DN.m DN.F.kp DN.b .nil pass0 (pa_n (pv 0) (pa_f (pe_call GT r1 (by rfl) DT.m DT.F.kp DT.b .nil pass0 (pa_n (pv 0) (pa_c pe_int pa_nil))) pa_nil)))) (pg_name (i:=7) scMa.nd rfl (Or.inl rfl)) (pss_one (ps_expr (pe_bm PySem.F.plainAttrs_list PySem.F.slot_list_append PySem.F.type_list_append mt_append (pv 6) (pa_tup (pe_tup (pa_n (pv 7) (pa_f (pe_call GS r29 (by rfl) DS.m DS.F.kp DS.b .nil pass0 (pa_n (pv 0) (pa_n (pv 2) (pa_lst (pe_lst (pa_c pe_int pa_nil)) (pa_c pe_int pa_nil))))) pa_nil))) pa_nil) (hs:=star_tup)))))
    (pss_one (ps_ret (pe_tup (pa_n (pv 1) (pa_n (pv 3) (pa_n (pv 4) (pa_n (pv 5) (pa_n (pv 6) pa_nil))))))))))))),?_⟩
  have big:10000 < sizeLine:=by decide
  refine seq_i (asg_i ⟨_,rfl,p,9,rfl,pu,by decide,by decide,fun ln ss G1 hln h1 lss ss6 pu1 b1=>gname_i ?_⟩)
  dsimp only
  have ss9:ss.length=9:=by omega
  have nlp:ln≠p:=newp pu hln
  -- the boxes
  refine seq_i (asg_i (comp_listD (K:=K) (fun a' xs G=>∃ qs:List Str,xs=qs.map V.str∧(∀ x∈qs,x∈ss)∧qs.length≤9∧G a'=some (.lst xs)∧a'≠p∧Purse G p∧But p G1 G)
    (fun R hR=>⟨_,rfl,_,rfl,p,7,rfl,pu1,by decide,by decide,fun r G r0 r1 puG bG=>⟨r,rfl,ln,_,rfl,SqL.of (bG _ _ h1 nlp),fun l2 hl2=>?_⟩⟩) (fun a' xs G h=>by obtain ⟨qs,_,_,_,h,_⟩:=h; exact SqL.of h)
    (fun a' xs H1 i ys G=>∃ bx:List (Str×Int),Paired (BxI (Wp p G)) bx ys∧bx.length=i∧(∀ q∈bx,q.1.length≤6∧Wo q.2)∧Purse G p∧But p H1 G) ?_ ?_ ?_ ?_))
  · obtain ⟨qs,e,hq⟩:=strs_of (xs:=cutV (ss.map V.str) none (some r)) (ss:=ss) fun v hv=>cut_mem hv
    have cl:=cutV_length (ss.map V.str) none (some r)
    have s2:=same_new hl2 (.lst (cutV (ss.map V.str) none (some r)))
    refine hR l2 _ _ ⟨qs,e,hq,?_,upd_same,newp puG hl2,puG.same s2,bG.same s2⟩
    rw [e,List.length_map,List.length_map] at cl
    omega
  · rintro a' xs G2 ⟨qs,rfl,hq,lq,ha,np,pu2,b2⟩
    exact ⟨[],.nil,rfl,(fun q hq=>by cases hq),pu2,But.refl _ _⟩
  · rintro a' xs G2 ⟨qs,rfl,hq,lq,ha,np,pu2,b2⟩ i ys G hi ⟨bx,pb,lb,ob,puG,bG⟩
    refine ⟨SqL.of (bG _ _ ha np),?_⟩
    have:=paired_len pb
    rw [List.length_map] at hi
    omega
  · rintro a' xs G2 ⟨qs,rfl,hq,lq,ha,np,pu2,b2⟩ i u ys G hu ⟨bx,pb,lb,ob,puG,bG⟩
    obtain ⟨x,hx,rfl⟩:∃ x,qs[i]?=some x∧u=.str x:=by
      rw [List.getElem?_map] at hu
      obtain ⟨x,h1,h2⟩:=Option.map_eq_some_iff.mp hu
      exact ⟨x,h1,h2.symm⟩
    refine gname_i ⟨rfl,?_⟩
    unfold tAll
    refine iteT ?_
    refine ⟨_,rfl,_,rfl,p,rfl,puG,fun z G3 z1 z2 pu3 b3=>⟨by show 2≤sizeLine; omega,fun t ht=>?_⟩⟩
    have st:=same_new ht (.tup [V.str x,V.int z])
    refine ⟨bx++[(x,z)],psnoc (paired_imp pb fun _ _ h=>h.same (b3.same st).wp) ⟨t,rfl,wp_some upd_same (newp pu3 ht)⟩,by rw [List.length_append,lb]; rfl,fun y hy=>?_,pu3.same st,(bG.trans b3).same st⟩
    rcases List.mem_append.mp hy with hy | hy
    · exact ob y hy
    · rw [List.mem_singleton.mp hy]
      exact ⟨ss6 x (hq x (List.mem_of_getElem? hx)),z1,z2⟩
  rintro a' xs G2 ⟨qs0,rfl,hq0,lq0,ha,np,pu2,b2⟩ ys G3 ⟨bx,pb,lbx,ob,pu3,b3⟩ lb hlb
  rw [List.length_map] at lbx
  refine gname_i ?_
  dsimp only
  have sb:=same_new hlb (.lst ys)
  have nb:=newp pu3 hlb
  have hb4:upd G3 lb (.lst ys) lb=some (.lst ys):=upd_same
  have b04:But p H (upd G3 lb (.lst ys)):=((b1.trans b2).trans b3).same sb
  have h14:upd G3 lb (.lst ys) ln=_:=sb _ _ (b3 _ _ (b2 _ _ h1 nlp) nlp)
  have pu4:=pu3.same sb
  have pb4:Paired (BxI (Wp p (upd G3 lb (.lst ys)))) bx ys:=paired_imp pb fun _ _ h=>h.same ((But.refl p G3).same sb).wp
  generalize upd G3 lb (.lst ys)=G4 at hb4 b04 h14 pu4 pb4 ⊢
  -- the queues
  refine seq_i (asg_i ⟨_,rfl,_,rfl,_,rfl,p,4,rfl,pu4,by decide,by decide,fun r5 G5 r50 r51 pu5 b5=>⟨_,_,rfl,rfl,_,rfl,ln,_,rfl,SqL.of (b5 _ _ h14 nlp),fun lq hlq=>gname_i ?_⟩⟩)
  dsimp only
  obtain ⟨qs,eq,hq⟩:=strs_of (xs:=cutV (ss.map V.str) (some 6) (some (6 + r5))) (ss:=ss) fun v hv=>cut_mem hv
  have clq:=cutV_length (ss.map V.str) (some 6) (some (6 + r5))
  rw [eq,List.length_map,List.length_map] at clq
  rw [eq]
  have sq:=same_new hlq (.lst (qs.map V.str))
  have nq:=newp pu5 hlq
  have hq6:upd G5 lq (.lst (qs.map V.str)) lq=some (.lst (qs.map V.str)):=upd_same
  have b46:But p G4 (upd G5 lq (.lst (qs.map V.str))):=b5.same sq
  have pu6:=pu5.same sq
  generalize upd G5 lq (.lst (qs.map V.str))=G6 at hq6 b46 pu6 ⊢
  -- the draws
  refine seq_i (asg_i (comp_rngT (fun m G=>m≤20∧Purse G p∧But p G6 G) (fun R hR=>⟨by show 4≤sizeLine; omega,fun l7 hl7=>?_⟩) (fun m G h=>by omega) (fun m G7 i ys G=>∃ ns:List Int,ys=ns.map V.int∧ns.length=i∧(∀ x∈ns,Wo x)∧Purse G p∧But p G7 G) ?_ ?_ ?_ ?_))
  · have s7:=same_new hl7 (.lst [V.int 0,V.int 1,V.int 3,V.int 20])
    refine ⟨_,rfl,p,4,rfl,pu6.same s7,by decide,by decide,fun r8 G8 r80 r81 pu8 b8=>?_⟩
    obtain ⟨c,hc,c20⟩:∃ c:Nat,atI [V.int 0,V.int 1,V.int 3,V.int 20] r8=some (.int c)∧c≤20:=by
      have:r8=0∨r8=1∨r8=2∨r8=3:=by omega
      rcases this with rfl | rfl | rfl | rfl
      · exact ⟨0,rfl,by decide⟩
      · exact ⟨1,rfl,by decide⟩
      · exact ⟨3,rfl,by decide⟩
      · exact ⟨20,rfl,by decide⟩
    exact ⟨l7,_,_,_,rfl,rfl,SqL.of (b8 _ _ upd_same (newp pu6 hl7)),hc,hR c G8 ⟨c20,pu8,fun b o e n=>b8 _ _ (s7 _ _ e) n⟩⟩
  · rintro m G7 ⟨_,pu7,b7⟩
    exact ⟨[],rfl,rfl,(fun x hx=>by cases hx),pu7,But.refl _ _⟩
  · rintro m G7 ⟨_,pu7,b7⟩ i ys G hi ⟨ns,rfl,ln2,_⟩
    rw [List.length_map]
    omega
  · rintro m G7 ⟨_,pu7,b7⟩ i ys G hi ⟨ns,rfl,ln2,wn,puG,bG⟩
    refine gname_i ⟨rfl,?_⟩
    unfold tAll
    refine iteT ?_
    refine ⟨_,rfl,p,rfl,puG,fun z G8 z1 z2 pu8 b8=>⟨_,rfl,ns++[if z < 0 then -z else z],by rw [List.map_append]; rfl,by rw [List.length_append,ln2]; rfl,fun x hx=>?_,pu8,bG.trans b8⟩⟩
    rcases List.mem_append.mp hx with hx | hx
    · exact wn x hx
    · rw [List.mem_singleton.mp hx]
      unfold Wo
      split <;> omega
  rintro m G7 ⟨m20,pu7,b67⟩ ys' G8 ⟨ns,rfl,lns,wns,pu8,b78⟩ ld hld
  refine gname_i ?_
  dsimp only
  have sd:=same_new hld (.lst (ns.map V.int))
  have nd:=newp pu8 hld
  have hd9:upd G8 ld (.lst (ns.map V.int)) ld=some (.lst (ns.map V.int)):=upd_same
  have b69:But p G6 (upd G8 ld (.lst (ns.map V.int))):=(b67.trans b78).same sd
  have pu9:=pu8.same sd
  generalize upd G8 ld (.lst (ns.map V.int))=G9 at hd9 b69 pu9 ⊢
  have b49:=b46.trans b69
  have b09:=b04.trans b49
  -- the hears
  refine seq_i (asg_i ⟨Nat.zero_le _,fun h hh=>gname_i ?_⟩)
  dsimp only
  have sh:=same_new hh (.lst [])
  have nh:=newp pu9 hh
  have hh10:upd G9 h (.lst []) h=some (.lst []):=upd_same
  have pu10:=pu9.same sh
  have hfree:∀ a,upd G9 h (.lst []) a=none→G9 a=none:=fun a e=>by
    cases e2:G9 a with
    | none=>rfl
    | some o=>rw [sh _ _ e2] at e; cases e
  generalize upd G9 h (.lst [])=G10 at sh hh10 pu10 hfree ⊢
  refine seq_i ⟨_,rfl,_,rfl,p,5,rfl,pu10,by decide,by decide,fun r11 G11 r110 r111 pu11 b11=>⟨p,r11,rfl,pu11,r110,by omega,fun l12 ss2 G12 hl12 h12 ls12 ss26 pu12 b12=>⟨l12,rfl,⟨_,SqL.of h12⟩,?_⟩⟩⟩
  have h1212:G12 h=some (.lst []):=b12 _ _ (b11 _ _ hh10 nh) nh
  have k12:∀ a o,G9 a=some o→a≠p→G12 a=some o:=fun a o e n=>b12 _ _ (b11 _ _ (sh _ _ e) n) n
  have n9:∀ a o,G9 a=some o→a≠h:=fun a o e=>ne_of_none e hh
  have nl12:l12≠h:=(ne_of_none (b11 _ _ hh10 nh) hl12).symm
  have np12:l12≠p:=newp pu11 hl12
  have ln9:=b49 _ _ h14 nlp
  refine for_list (xs:=ss2.map V.str) (fun i σ G=>∃ (hr:List (Str×List Rw)) (hs:List V) (u7:Option V),σ=[some (.ref p),some (.str nm),some (.ref ln),some (.ref lb),some (.ref lq),some (.ref ld),some (.ref h),u7]∧i≤ss2.length∧G h=some (.lst hs)∧Paired (HrI (Wp h (Wp p G))) hr hs∧hr.length=i∧(∀ x∈hr,x.1.length≤6∧rowsC x.2≤20)∧Purse G p∧Bt2 p h G12 G)
    ⟨[],[],none,rfl,Nat.zero_le _,h1212,.nil,rfl,(fun x hx=>by cases hx),pu12,fun b o e _ _=>e⟩ ?_ ?_ ?_
  · rintro i σ G hi ⟨hr,hs,u7,rfl,_,hG,_,_,_,puG,bG⟩
    exact SqL.of (bG _ _ h12 np12 nl12)
  · rintro i u σ G hu ⟨hr,hs,u7,rfl,hi,hG,pH,lhr,oh,puG,bG⟩
    obtain ⟨x,hx,rfl⟩:∃ x,ss2[i]?=some x∧u=.str x:=by
      rw [List.getElem?_map] at hu
      obtain ⟨x,h1,h2⟩:=Option.map_eq_some_iff.mp hu
      exact ⟨x,h1,h2.symm⟩
    have hil:i < ss2.length:=(List.getElem?_eq_some_iff.mp hx).1
    have lhs:=paired_len pH
    refine gname_i ?_
    dsimp only
    refine ⟨_,rfl,.inl ⟨rfl,_,SqL.of hG⟩,_,rfl,_,rfl,_,rfl,⟨by show 1≤sizeLine; omega,fun qq hqq=>?_⟩⟩
    have sq':=same_new hqq (.lst [V.int 20])
    have hGk:=sq' _ _ hG
    have puk:=puG.same sq'
    have hqk:upd G qq (.lst [V.int 20]) qq=some (.lst [V.int 20]):=upd_same
    have lnk:upd G qq (.lst [V.int 20]) ln=_:=sq' _ _ (bG _ _ (k12 _ _ ln9 nlp) nlp (n9 _ _ ln9))
    generalize upd G qq (.lst [V.int 20])=Gk at sq' hGk puk hqk lnk ⊢
    have twk:Two Gk p qq 20:=⟨puk,hqk⟩
    have nhq:h≠qq:=ne_of_none hG hqq
    refine ⟨p,ln,qq,1,20,rfl,twk,⟨ss,lnk,by omega,by omega,ss6⟩,by decide,by decide,by decide,fun m vs rs G' z' hm hm' ow tw' hz hz0 b'=>⟨by show 2≤sizeLine; omega,fun t ht=>?_⟩⟩
    have hG':=b' _ _ hGk nh nhq
    have nth:t≠h:=(ne_of_none hG' ht).symm
    have ntp:t≠p:=newp tw'.pu ht
    have st:=same_new ht (.tup [V.str x,V.ref m])
    have htt:upd G' t (.tup [V.str x,V.ref m]) t=some (.tup [V.str x,V.ref m]):=upd_same
    have hGt:=st _ _ hG'
    have put:=tw'.pu.same st
    generalize upd G' t (.tup [V.str x,V.ref m])=Gt at st htt hGt put ⊢
    refine ⟨h,hs,_,rfl,rfl,hGt,by omega,?_⟩
    have up:∀ a o,Gt a=some o→a≠p→a≠h→Wp h (Wp p (upd Gt h (.lst (hs++[V.ref t])))) a=some o:=fun a o e n1 n2=>wp_some (wp_some (by rw [upd_ne n2]; exact e) n1) n2
    have smW:Same (Wp h (Wp p G)) (Wp h (Wp p (upd Gt h (.lst (hs++[V.ref t]))))):=fun a o e=>by
      obtain ⟨n2,e⟩:=wp_of e
      obtain ⟨n1,e⟩:=wp_of e
      exact up _ _ (st _ _ (b' _ _ (sq' _ _ e) n1 (ne_of_none e hqq))) n1 n2
    refine ⟨hr++[(x,rs)],hs++[.ref t],_,rfl,hil,upd_same,psnoc (paired_imp pH fun _ _ hh=>hh.same smW) ⟨t,m,vs,rfl,up _ _ htt ntp nth,?_,?_⟩,by rw [List.length_append,lhr]; rfl,fun y hy=>?_,purse_upd put nh,fun b o e n1 n2=>?_⟩
    · exact up _ _ (st _ _ hm') (newp puk hm) ((ne_of_none hGk hm).symm)
    · refine ow _ (fun a xs e=>?_) (fun a xs ha e=>?_)
      · refine up _ _ (st _ _ e) (fun w=>?_) (fun w=>?_)
        · obtain ⟨x1,y1,e1⟩:=tw'.pu
          rw [← w,e] at e1
          cases e1
        · rw [w,hG'] at e
          cases e
      · exact up _ _ (st _ _ e) (newp puk ha) ((ne_of_none hGk ha).symm)
    · rcases List.mem_append.mp hy with hy | hy
      · exact oh y hy
      · rw [List.mem_singleton.mp hy]
        refine ⟨ss26 x (List.mem_of_getElem? hx),?_⟩
        show rowsC rs≤20
        omega
    · rw [upd_ne n2]
      have e1:=bG _ _ e n1 n2
      exact st _ _ (b' _ _ (sq' _ _ e1) n1 (ne_of_none e1 hqq))
  · rintro σ G ⟨hr,hs,u7,rfl,hi,hG,pH,lhr,oh,puG,bG⟩
    have k9:∀ a o,G9 a=some o→a≠p→G a=some o:=fun a o e n=>bG _ _ (k12 _ _ e n) n (n9 _ _ e)
    have b4G:But p G4 G:=fun a o e n=>k9 _ _ (b49 _ _ e n) n
    have b0G:But p H G:=b04.trans b4G
    refine ⟨_,rfl,_,rfl,_,rfl,_,rfl,_,rfl,⟨by show 5≤sizeLine; omega,fun t ht=>?_⟩⟩
    have st:=same_new ht (.tup [V.str nm,V.ref lb,V.ref lq,V.ref ld,V.ref h])
    have up:∀ a o,G a=some o→a≠p→Wp p (upd G t (.tup [V.str nm,V.ref lb,V.ref lq,V.ref ld,V.ref h])) a=some o:=fun a o e n=>wp_some (st _ _ e) n
    have sG:Same (Wp p G) (Wp p (upd G t (.tup [V.str nm,V.ref lb,V.ref lq,V.ref ld,V.ref h]))):=fun a o e=>up _ _ (wp_of e).2 (wp_of e).1
    refine q (.ref t) ⟨nm,bx,qs,ns,hr⟩ _ ⟨t,lb,lq,ld,h,ys,hs,rfl,wp_some upd_same (newp puG ht),up _ _ (b4G _ _ hb4 nb) nb,?_,up _ _ (k9 _ _ (b69 _ _ hq6 nq) nq) nq,up _ _ (k9 _ _ hd9 nd) nd,up _ _ hG nh,?_⟩ ?_ (puG.same st) (b0G.same st)
    · exact paired_imp pb4 fun _ _ hh=>(hh.same b4G.wp).same sG
    · exact paired_imp pH fun _ _ hh=>(hh.same (wp_same h _)).same sG
    · exact ⟨lnm,by show bx.length≤9; omega,ob,by show qs.length≤9; omega,fun x hx=>ss6 x (hq x hx),by show ns.length≤20; omega,wns,by show hr.length≤9; rw [List.length_map] at lhr; omega,oh⟩
end
end My
namespace My
open PySem L2
theorem kit_ss {K:PySem.W.Frag}:PySem.W.kitOne K (.type "str") (.type "str")=some true:=by rfl
def bareM (M:Mc):Mc:={M with dr:=[],hr:=[]}
section
variable {P:Program} {w:World} {K:PySem.W.Frag} {mg:Str→Option Value} {base:Heap} {f fT fN fM fP fMs fMt fLl:Addr} {fd fdT fdN fdM fdP fdMs fdMt fdLl:FuncData}
seal L2.PS L2.PSs L2.PE L2.PA L2.PT L2.PW L2.PI L2.PG L2.PGs L2.PC
abbrev nMs:List Str:=["_law_purse_here"]
abbrev pMs:List Str:=["_law_purse_here"]
theorem scMs:FnScope nMs pMs (defScope s_law_machines):=⟨rfl,rfl,rfl,by decide +kernel,rfl,by decide +kernel,by decide +kernel⟩
theorem ndMs:((["_law_name"]:List Str)++nMs).Nodup:=by decide +kernel
def spMs:Sp:=fun vs H Q _=>∃ (p:Addr),vs=[.ref p]∧Purse H p∧∀ (l:Addr) (ms:List V) (Ms:List Mc) (H':Hp),H' l=some (.lst ms)→MsIn H' Ms ms→Ms.length≤6→Q (.ref l) H'
theorem ok_ms (D:Df K mg "_law_machines" s_law_machines pMs f fd) (DT:Df K mg "_law_take" s_law_take pT fT fdT) (DN:Df K mg "_law_names" s_law_names pN fN fdN) (DM:Df K mg "_law_machine" s_law_machine pMa fM fdM) (GM:FnOk P w K mg base CX0 30 fM fdM pMa spMa) (B:Bl mg):FnOk P w K mg base CX0 31 f fd pMs spMs:=by
  have GT:FnOk P w K mg base CX0 1 fT fdT pT spTake:=ok_take DT B
  have GN:FnOk P w K mg base CX0 2 fN fdN pN spNames:=ok_names DN DT B
  refine D.F.ok scMs (fun vs H Q E h=>?_) (fun cdv A outer s H vs Q E r30 h=>?_)
  · obtain ⟨p,rfl,_⟩:=h
    rfl
  obtain ⟨p,rfl,pu,q⟩:=h
  have r1:Room 1 _:=r30.mono (by decide)
  have r2:Room 2 _:=r30.mono (by decide)
  refine ⟨_,pss_one (ps_ret (pe_comp ["_law_name"] (CompOk.open (NN:=nMs) (N:=nMs) (sc:=defScope s_law_machines) rfl rfl (by decide +kernel) rfl (by decide +kernel) (by decide +kernel) rfl (by decide +kernel)) rfl (pi_list (pe_call GN r2 (by rfl) DN.m DN.F.kp DN.b .nil pass0 (pa_n (pv 0) (pa_b (pe_op op_add pe_int (pe_call GT r1 (by rfl) DT.m DT.F.kp DT.b .nil pass0 (pa_n (pv 0) (pa_c pe_int pa_nil)))) pa_nil)))) (fun _ _ _ _=>pg_name (i:=0) ndMs rfl (Or.inl rfl)) (fun _ _ _ _=>pts_nil) (fun _ _ _ _=>pe_call GM r30 (by rfl) DM.m DM.F.kp DM.b .nil pass0 (pa_n (pv 1) (pa_n (pv 0) pa_nil))))),?_⟩
  have big:10000 < sizeLine:=by decide
  refine comp_listD (K:=K) (fun a' xs G=>∃ ss:List Str,xs=ss.map V.str∧(∀ x∈ss,x.length≤6)∧ss.length≤6∧G a'=some (.lst xs)∧a'≠p∧Purse G p)
    (fun R hR=>⟨_,rfl,_,rfl,p,6,rfl,pu,by decide,by decide,fun r G r0 r1 puG bG=>⟨_,_,rfl,rfl,p,1 + r,rfl,puG,by omega,by omega,fun l ss G1 hl h1 ls ss6 pu1 b1=>hR l _ G1 ⟨ss,rfl,ss6,by omega,h1,newp puG hl,pu1⟩⟩⟩) (fun a' xs G h=>by obtain ⟨qs,_,_,_,h,_⟩:=h; exact SqL.of h)
    (fun a' xs H1 i ys G=>∃ Ms:List Mc,Paired (fun M v=>MI (Wp p G) M v∧McOk M) Ms ys∧Ms.length=i∧Purse G p∧But p H1 G) ?_ ?_ ?_ ?_
  · rintro a' xs G2 ⟨ss,rfl,ss6,ls,ha,np,pu2⟩
    exact ⟨[],.nil,rfl,pu2,But.refl _ _⟩
  · rintro a' xs G2 ⟨ss,rfl,ss6,ls,ha,np,pu2⟩ i ys G hi ⟨Ms,pM,lM,puG,bG⟩
    refine ⟨SqL.of (bG _ _ ha np),?_⟩
    have:=paired_len pM
    rw [List.length_map] at hi
    omega
  · rintro a' xs G2 ⟨ss,rfl,ss6,ls,ha,np,pu2⟩ i u ys G hu ⟨Ms,pM,lM,puG,bG⟩
    obtain ⟨x,hx,rfl⟩:∃ x,ss[i]?=some x∧u=.str x:=by
      rw [List.getElem?_map] at hu
      obtain ⟨x,h1,h2⟩:=Option.map_eq_some_iff.mp hu
      exact ⟨x,h1,h2.symm⟩
    refine gname_i ⟨rfl,?_⟩
    unfold tAll
    refine iteT ?_
    refine ⟨_,rfl,_,rfl,p,x,rfl,puG,ss6 x (List.mem_of_getElem? hx),fun v M G3 hM ok pu3 b3=>?_⟩
    exact ⟨Ms++[M],psnoc (paired_imp pM fun _ _ h=>⟨h.1.same b3.wp,h.2⟩) ⟨hM,ok⟩,by rw [List.length_append,lM]; rfl,pu3,bG.trans b3⟩
  · rintro a' xs G2 ⟨ss,rfl,ss6,ls,ha,np,pu2⟩ ys G ⟨Ms,pM,lM,puG,bG⟩ l hl
    rw [List.length_map] at lM
    have sl:=same_new hl (.lst ys)
    exact q l ys Ms _ upd_same (paired_imp pM fun _ _ h=>⟨(h.1.same (wp_same p G)).same sl,h.2⟩) (by omega)
abbrev nL:List Str:=["_law_script","_law_purse_here","_law_machines_here","_law_found","_law_bare"]
abbrev pL:List Str:=["_law_script"]
theorem scL:FnScope nL pL (defScope s_law):=⟨rfl,rfl,rfl,by decide +kernel,rfl,by decide +kernel,by decide +kernel⟩
theorem ndL:((["_law_name","_law_boxes","_law_queues","_law_draws","_law_hears"]:List Str)++nL).Nodup:=by decide +kernel
def spLaw (K:PySem.W.Frag):Sp:=fun vs H Q _=>∃ (a:Addr) (ns:List Int),vs=[.ref a]∧SqL K H a (ns.map V.int)∧ns.length≤63∧(∀ x∈ns,Builtin.Int.intBits x≤1048576)∧∀ H',Q (.bl true) H'
theorem ok_law (D:Df K mg "law" s_law pL f fd) (DP:Df K mg "_law_purse" s_law_purse pP fP fdP) (DMs:Df K mg "_law_machines" s_law_machines pMs fMs fdMs) (GMs:FnOk P w K mg base CX0 31 fMs fdMs pMs spMs) (DMt:Df K mg "model_text" s_model_text pMt fMt fdMt) (GMt:FnOk P w K mg base CX0 24 fMt fdMt pMt spMt) (DLl:Df K mg "_law_lines" s_law_lines pLl fLl fdLl) (GLl:FnOk P w K mg base CX0 28 fLl fdLl pLl spLl) (B:Bl mg):FnOk P w K mg base CX0 32 f fd pL (spLaw K):=by
  have GP:FnOk P w K mg base CX0 1 fP fdP pP (spPurse K):=ok_purse DP B
  refine D.F.ok scL (fun vs H Q E h=>?_) (fun cdv A outer s H vs Q E r31 h=>?_)
  · obtain ⟨a,ns,rfl,_⟩:=h
    rfl
  obtain ⟨a,ns,rfl,hS,hlen,hbits,q⟩:=h
  have r1:Room 1 _:=r31.mono (by decide)
  have r24:Room 24 _:=r31.mono (by decide)
  have r28:Room 28 _:=r31.mono (by decide)
  refine ⟨_,pss_cons (ps_set (i:=1) scL.nd rfl (Or.inl rfl) (pe_call GP r1 (by rfl) DP.m DP.F.kp DP.b .nil pass0 (pa_n (pv 0) pa_nil)))
    (pss_cons (ps_set (i:=2) scL.nd rfl (Or.inl rfl) (pe_call GMs r31 (by rfl) DMs.m DMs.F.kp DMs.b .nil pass0 (pa_n (pv 1) pa_nil)))
    (pss_cons (ps_set (i:=3) scL.nd rfl (Or.inl rfl) (pe_call GMt r24 (by rfl) DMt.m DMt.F.kp DMt.b .nil pass0 (pa_n (pv 2) pa_nil)))
    (pss_cons (ps_if ((pw_or (pt_not (pt_val (pe_callB call_isinst (by rfl) B.isi boot_isi (pa_n (pv 3) (pa_n (pe_bltn (v:=.ty "str") (by rfl) B.str boot_str rfl) pa_nil))))) (pw_or1 (pt_cmpR op_ne (pv 3) (pe_bm PySem.F.plainAttrs_str PySem.F.slot_str_join PySem.F.type_str_join mt_join pe_str (pa_f (pe_call GLl r28 (by rfl) DLl.m DLl.F.kp DLl.b .nil pass0 (pa_n (pv 2) pa_nil)) pa_nil)) (nomark _)))).pt) (pss_one (ps_ret pe_bl)) pss_nil)
    (pss_cons (ps_comp (i:=4) ["_law_name","_law_boxes","_law_queues","_law_draws","_law_hears"] (CompOk.open (NN:=nL) (N:=nL) (sc:=defScope s_law) rfl rfl (by decide +kernel) rfl (by decide +kernel) (by decide +kernel) rfl (by decide +kernel)) rfl scL.nd rfl (Or.inl rfl) (pi_list (pv 2)) (fun _ _ _ _=>pg_tupK (n:=5) K (by rfl) rfl (pgs_cons (pg_name (i:=0) ndL rfl (Or.inl rfl)) (pgs_cons (pg_name (i:=1) ndL rfl (Or.inl rfl)) (pgs_cons (pg_name (i:=2) ndL rfl (Or.inl rfl)) (pgs_cons (pg_name (i:=3) ndL rfl (Or.inl rfl)) (pgs_cons (pg_name (i:=4) ndL rfl (Or.inl rfl)) pgs_nil)))))) (fun _ _ _ _=>pts_nil) (fun _ _ _ _=>pe_tup (pa_n (pv 0) (pa_n (pv 1) (pa_n (pv 2) (pa_lst (pe_lst pa_nil) (pa_lst (pe_lst pa_nil) pa_nil)))))))
    (pss_one (ps_ret (pe_cmpR op_eq (pe_call GMt r24 (by rfl) DMt.m DMt.F.kp DMt.b .nil pass0 (pa_n (pv 4) pa_nil)) (pe_bm PySem.F.plainAttrs_str PySem.F.slot_str_join PySem.F.type_str_join mt_join pe_str (pa_f (pe_call GLl r28 (by rfl) DLl.m DLl.F.kp DLl.b .nil pass0 (pa_n (pv 4) pa_nil)) pa_nil)) (nomark _)))))))),?_⟩
  have big:10000 < sizeLine:=by decide
  refine seq_i (asg_i ⟨_,rfl,a,ns,rfl,hS,hlen,hbits,fun p G1 hp pu s1=>gname_i ?_⟩)
  dsimp only
  refine seq_i (asg_i ⟨_,rfl,p,rfl,pu,fun l ms Ms G2 hl hMs l6=>gname_i ?_⟩)
  dsimp only
  obtain ⟨b1,b2⟩:=ms_bound hMs l6
  refine seq_i (asg_i ⟨_,rfl,l,ms,Ms,rfl,hl,hMs,l6,fun G3 s3=>gname_i ?_⟩)
  dsimp only
  have hMs3:MsIn G3 Ms ms:=paired_imp hMs fun _ _ h=>⟨h.1.same s3,h.2⟩
  refine seq_i ?_
  refine ⟨_,rfl,_,"str",_,true,rfl,.str _,kit_ss,_,rfl,?_⟩
  refine iteF ?_
  refine ⟨_,rfl,rfl,_,rfl,l,ms,Ms,rfl,s3 _ _ hl,hMs3,l6,fun m4 G4 hm4 h4 s4=>⟨_,m4,_,rfl,rfl,.inl (SqL.of h4),b2,rfl,_,rfl,?_⟩⟩
  rw [show (!decide (V.str (textOf Ms)=V.str (Txt.join "\n" (Ms.flatMap Mc.lines))))=false from by rw [decide_eq_true (show V.str (textOf Ms)=V.str (Txt.join "\n" (Ms.flatMap Mc.lines)) from rfl)]; rfl]
  refine iteF (next_i ?_)
  dsimp only
  have s34:=s3.trans s4
  have hMs4:MsIn G4 Ms ms:=paired_imp hMs fun _ _ h=>⟨h.1.same s34,h.2⟩
  have hl4:=s34 _ _ hl
  refine seq_i (asg_i (comp_listC (K:=K) (xs:=ms) (fun a' H1=>a'=l∧H1=G4) (fun R hR=>⟨_,rfl,hR l G4 ⟨rfl,rfl⟩⟩) (fun a' H1 h=>by rw [h.1,h.2]; exact SqL.of hl4)
    (fun a' H1 i ys G=>Same G4 G∧MsIn G ((Ms.take i).map bareM) ys) (fun a' H1 h=>⟨by rw [h.2]; exact Same.refl _,.nil⟩) ?_ ?_ ?_))
  · rintro a' H1 ⟨rfl,rfl⟩ i ys G hi ⟨sg,pM⟩
    refine ⟨SqL.of (sg _ _ hl4),?_⟩
    have:=paired_len pM
    rw [List.length_map,List.length_take] at this
    omega
  · rintro a' H1 ⟨rfl,rfl⟩ i u ys G hu ⟨sg,pM⟩
    obtain ⟨M,hx,⟨t,lb,lq,ld,lh,bs,hs,rfl,a5,h1,p1,h3,h4',h5,p6⟩,ok⟩:=paired_at hMs4 hu
    refine ⟨t,_,rfl,SqT.of (sg _ _ a5),rfl,_,_,rfl,gname_i ⟨_,_,rfl,gname_i ⟨_,_,rfl,gname_i ⟨_,_,rfl,gname_i ⟨_,_,rfl,gname_i ⟨rfl,rfl,?_⟩⟩⟩⟩⟩⟩
    unfold tAll
    refine iteT ?_
    refine ⟨_,rfl,_,rfl,_,rfl,⟨Nat.zero_le _,fun e1 he1=>⟨Nat.zero_le _,fun e2 he2=>⟨by show 5≤sizeLine; omega,fun t2 ht2=>?_⟩⟩⟩⟩
    have x1:=same_new he1 (.lst [])
    have x2:=same_new he2 (.lst [])
    have x3:=same_new ht2 (.tup [V.str M.nm,V.ref lb,V.ref lq,V.ref e1,V.ref e2])
    have x23:=x2.trans x3
    have x:=x1.trans x23
    have y:=sg.trans x
    refine ⟨y,?_⟩
    rw [List.take_succ,hx,List.map_append]
    refine psnoc (paired_imp pM fun _ _ h=>⟨h.1.same x,h.2⟩) ⟨⟨t2,lb,lq,e1,e2,bs,[],rfl,upd_same,y _ _ h1,paired_imp p1 fun _ _ h=>h.same y,y _ _ h3,x23 _ _ upd_same,x3 _ _ upd_same,.nil⟩,?_⟩
    exact ⟨ok.nm,ok.lb,ok.bx,ok.lq,ok.qs,by show 0≤20; decide,(fun z hz=>by cases hz),by show 0≤9; decide,(fun z hz=>by cases hz)⟩
  · rintro a' H1 ⟨rfl,rfl⟩ ys G ⟨sg,pM⟩ l5 hl5
    rw [← paired_len hMs,List.take_length] at pM
    have l6':(Ms.map bareM).length≤6:=by rw [List.length_map]; exact l6
    refine gname_i ?_
    dsimp only
    have x5:=same_new hl5 (.lst ys)
    have h5:upd G l5 (.lst ys) l5=some (.lst ys):=upd_same
    have pM5:MsIn (upd G l5 (.lst ys)) (Ms.map bareM) ys:=paired_imp pM fun _ _ h=>⟨h.1.same x5,h.2⟩
    generalize upd G l5 (.lst ys)=G5 at h5 pM5 ⊢
    obtain ⟨c1,c2⟩:=ms_bound pM5 l6'
    refine ⟨_,rfl,l5,ys,_,rfl,h5,pM5,l6',fun G6 s6=>?_⟩
    refine ⟨rfl,_,rfl,l5,ys,_,rfl,s6 _ _ h5,paired_imp pM5 fun _ _ h=>⟨h.1.same s6,h.2⟩,l6',fun m7 G7 hm7 h7 s7=>⟨_,m7,_,rfl,rfl,.inl (SqL.of h7),c2,rfl,?_⟩⟩
    rw [show decide (V.str (textOf (Ms.map bareM))=V.str (Txt.join "\n" ((Ms.map bareM).flatMap Mc.lines)))=true from decide_eq_true rfl]
    exact q _
end
end My
namespace My
open PySem L2
theorem my_cons {α:Type} {n:Nat} {us:List α} (h:us.length=n + 1):∃ a l,us=a :: l∧l.length=n:=by
  cases us with
  | nil=>cases h
  | cons a l=>exact ⟨a,l,rfl,Nat.succ.inj h⟩
theorem my_len1 {α:Type} {us:List α} (h:us.length=1):∃ a,us=[a]:=by
  obtain ⟨a,l,rfl,h⟩:=my_cons h
  cases l with
  | nil=>exact ⟨a,rfl⟩
  | cons b l=>cases h
theorem my_len2 {α:Type} {us:List α} (h:us.length=2):∃ a b,us=[a,b]:=by
  obtain ⟨x,l,rfl,h'⟩:=my_cons h
  obtain ⟨a1,rfl⟩:=my_len1 h'
  exact ⟨x,a1,rfl⟩
theorem my_len3 {α:Type} {us:List α} (h:us.length=3):∃ a b c,us=[a,b,c]:=by
  obtain ⟨x,l,rfl,h'⟩:=my_cons h
  obtain ⟨a1,b1,rfl⟩:=my_len2 h'
  exact ⟨x,a1,b1,rfl⟩
theorem my_len4 {α:Type} {us:List α} (h:us.length=4):∃ a b c d,us=[a,b,c,d]:=by
  obtain ⟨x,l,rfl,h'⟩:=my_cons h
  obtain ⟨a1,b1,c1,rfl⟩:=my_len3 h'
  exact ⟨x,a1,b1,c1,rfl⟩
def Dn (K:PySem.W.Frag) (x:Str) (st:Stmt) (f:Addr):Prop:=PySem.W.nsIn K mainGlobals x=some (some (.ref f))∧∃ fd,Fun K x x st f fd
def Mn (K:PySem.W.Frag) (C:Addr) (x q:Str) (st:Stmt) (f:Addr):Prop:=(PySem.W.findIn K (.ref C) x=some (some (.ref f))∧PySem.W.isFn K (.ref f)=true)∧∃ fd,Fun K x q st f fd
structure Cn (K:PySem.W.Frag) (C:Addr):Prop where
  c:Cls K C
  m:PySem.W.makesIn K C=true
  k:PySem.W.keepIn K (.ref C)=true
theorem dn_i {K:PySem.W.Frag} {x:Str} {st:Stmt} {f:Addr} {oc:Value} {od an:Option Addr} {sl:Array (Option Value)} {kV dc pm cd ct:Value} (a:PySem.W.nsIn K mainGlobals x=some (some (.ref f))) (l:K.lookup f=some ⟨oc,od,.func (PySem.W.fnOf x x (defArgs st) (defBody st) (defScope st) .none kV dc pm an cd ct),sl⟩) (c:PySem.W.codeIn K cd x=true) (k:PySem.W.keepIn K (.ref f)=true):Dn K x st f:=⟨a,_,fun_mk l c k⟩
theorem dfx {K:PySem.W.Frag} {h:Heap} {mg:Str→Option Value} {x:Str} {st:Stmt} {f:Addr} (ps:List Str) (X:K.In h) (G:h.Ns mainGlobals mg) (a:Dn K x st f) (hb:∀ (kV doc pm:Value) (an:Option Addr) (cdv ct:Value) (us:List Value),us.length=ps.length→bindArgs (PySem.W.fnOf x x (defArgs st) (defBody st) (defScope st) .none kV doc pm an cdv ct) ⟨us,[]⟩=pure (ps.zip us):=by intro _ _ _ _ _ _ us hl; first | (obtain ⟨a,rfl⟩:=my_len1 hl; rfl) | (obtain ⟨a,b,rfl⟩:=my_len2 hl; rfl) | (obtain ⟨a,b,c,rfl⟩:=my_len3 hl; rfl) | (obtain ⟨a,b,c,d,rfl⟩:=my_len4 hl; rfl)):∃ fd,Df K mg x st ps f fd:=by
  obtain ⟨a,fd,F⟩:=a
  exact ⟨fd,F,F.binds hb,PySem.W.mg_of X G a⟩
theorem law_b {K:PySem.W.Frag} {x q:Str} {st:Stmt} {f:Addr} {fd:FuncData} {y:Str} (F:Fun K x q st f fd) (hb:∀ (kV doc pm:Value) (an:Option Addr) (cdv ct v:Value),bindArgs (PySem.W.fnOf x q (defArgs st) (defBody st) (defScope st) .none kV doc pm an cdv ct) ⟨[v],[]⟩=pure [(y,v)]) (s:Shared) (v:Value):BindsTo s fd ⟨[v],[]⟩ [(y,v)]:=by
  obtain ⟨oc,od,kV,doc,pm,an,cdv,ct,osl,rfl,_⟩:=F.ex
  exact .of_eq (hb kV doc pm an cdv ct v)
theorem all_mk {l:PySem.W.OpenLaw} {w:World} {K:PySem.W.Frag} {h:Heap} {mg:Str→Option Value} {fa f1 f2 f3 f4 f5 f6 f7 f8 f9 f10 f11 f12 f13 f14 f15 f16 f17 f18 f19:Addr} {aW:Addr} (X:K.In h) (G:h.Ns mainGlobals mg) (hfa:mg "law"=some (.ref fa))
    (a1:Dn K "formula_words" s_formula_words f1) (a2:Dn K "model_text" s_model_text f2) (a3:Dn K "machine_lines" s_machine_lines f3) (a4:Dn K "deed_lines" s_deed_lines f4) (a5:Dn K "deed_words" s_deed_words f5) (a6:Dn K "_law_purse" s_law_purse f6) (a7:Dn K "_law_take" s_law_take f7) (a8:Dn K "_law_names" s_law_names f8) (a9:Dn K "_law_worth" s_law_worth f9) (a10:Dn K "_law_formula" s_law_formula f10) (a11:Dn K "_law_deed" s_law_deed f11) (a12:Dn K "_law_deeds" s_law_deeds f12) (a13:Dn K "_law_machine" s_law_machine f13) (a14:Dn K "_law_machines" s_law_machines f14) (a15:Dn K "_law_words" s_law_words f15) (a16:Dn K "_law_deed_lines" s_law_deed_lines f16) (a17:Dn K "_law_deeds_lines" s_law_deeds_lines f17) (a18:Dn K "_law_lines" s_law_lines f18) (a19:Dn K "law" s_law f19) (aWo:PySem.W.nsIn K mainGlobals "WORDS"=some (some (.ref aW))) (hTab:Tab K aW marks) (zlen:PySem.W.nsIn K mainGlobals "len"=some none) (zabs:PySem.W.nsIn K mainGlobals "abs"=some none) (zisinstance:PySem.W.nsIn K mainGlobals "isinstance"=some none) (zlist:PySem.W.nsIn K mainGlobals "list"=some none) (ztuple:PySem.W.nsIn K mainGlobals "tuple"=some none) (zstr:PySem.W.nsIn K mainGlobals "str"=some none) (zint:PySem.W.nsIn K mainGlobals "int"=some none) (zbool:PySem.W.nsIn K mainGlobals "bool"=some none) (zrange:PySem.W.nsIn K mainGlobals "range"=some none) (zmax:PySem.W.nsIn K mainGlobals "max"=some none) (zdict:PySem.W.nsIn K mainGlobals "dict"=some none) :
    ∃ fd:FuncData,(∀ (s:Shared) (v:Value),BindsTo s fd ⟨[v],[]⟩ [("_law_script",v)])∧∀ base:Heap,K.In base→base.Ns mainGlobals mg→FnOk l.prog w K mg base CX0 32 fa fd ["_law_script"] (spLaw K):=by
  obtain ⟨_,D1⟩:=dfx ["formula"] X G a1
  obtain ⟨_,D2⟩:=dfx ["machines"] X G a2
  obtain ⟨_,D3⟩:=dfx ["machine"] X G a3
  obtain ⟨_,D4⟩:=dfx ["deeds","blanks"] X G a4
  obtain ⟨_,D5⟩:=dfx ["deed"] X G a5
  obtain ⟨_,D6⟩:=dfx ["_law_script"] X G a6
  obtain ⟨_,D7⟩:=dfx ["_law_purse_here","_law_many"] X G a7
  obtain ⟨_,D8⟩:=dfx ["_law_purse_here","_law_many"] X G a8
  obtain ⟨_,D9⟩:=dfx ["_law_purse_here"] X G a9
  obtain ⟨_,D10⟩:=dfx ["_law_purse_here","_law_names_here","_law_most"] X G a10
  obtain ⟨_,D11⟩:=dfx ["_law_purse_here","_law_names_here","_law_left","_law_deep"] X G a11
  obtain ⟨_,D12⟩:=dfx ["_law_purse_here","_law_names_here","_law_left","_law_deep"] X G a12
  obtain ⟨_,D13⟩:=dfx ["_law_purse_here","_law_name"] X G a13
  obtain ⟨_,D14⟩:=dfx ["_law_purse_here"] X G a14
  obtain ⟨_,D15⟩:=dfx ["_law_formula_here"] X G a15
  obtain ⟨_,D16⟩:=dfx ["_law_deed_here","_law_ahead"] X G a16
  obtain ⟨_,D17⟩:=dfx ["_law_deeds_here","_law_ahead"] X G a17
  obtain ⟨_,D18⟩:=dfx ["_law_machines_here"] X G a18
  obtain ⟨_,D19⟩:=dfx ["_law_script"] X G a19
  have e:=hfa.symm.trans D19.m
  cases e
  have B:Bl mg:=⟨PySem.W.mg_none_of X G zlen,PySem.W.mg_none_of X G zabs,PySem.W.mg_none_of X G zisinstance,PySem.W.mg_none_of X G zlist,PySem.W.mg_none_of X G ztuple,PySem.W.mg_none_of X G zstr,PySem.W.mg_none_of X G zint,PySem.W.mg_none_of X G zbool,PySem.W.mg_none_of X G zrange,PySem.W.mg_none_of X G zmax,PySem.W.mg_none_of X G zdict⟩
  have hW:mg "WORDS"=some (.ref aW):=PySem.W.mg_of X G aWo
  exact ⟨_,law_b D19.F fun _ _ _ _ _ _ _=>rfl,fun base _ _=>ok_law D19 D6 D14 (ok_ms D14 D7 D8 D13 (ok_ma D13 D7 D9 D8 D12 ((ok_dsde D11 D12 D7 D9 D10 B 5).2) B) B) D2 (ok_mt D2 D3 (ok_ml D3 D4 (ok_dl D4 D5 (ok_dw D5 D1 B hW hTab) B 5 (by decide)) B) B) D18 (ok_ll D18 D17 ((ok_slel D16 D17 D15 B 5).2) B) B⟩
theorem walk {l:PySem.W.OpenLaw} {q:Program} {loose:List Str} {XP:(Str→Option Value)→Heap→Prop} {YP:World→Heap→Prop} {d:DefRec} {K:Params→PySem.W.Frag} (hn:l.most=some 63) (hdf:d.params.defaults=[])
    (hY:∀ (w:World) (h:Heap),YP w h→(K w.params).In h)
    (F:∀ (w:World) (mg:Str→Option Value) (fa:Addr) (h:Heap),(K w.params).In h→h.Ns mainGlobals mg→mg d.name=some (.ref fa) →
      ∃ fd:FuncData,(∀ (s:Shared) (u:Value),BindsTo s fd ⟨[u],[]⟩ [("_law_script",u)])∧∀ base:Heap,(K w.params).In base→base.Ns mainGlobals mg→FnOk l.prog w (K w.params) mg base CX0 32 fa fd ["_law_script"] (spLaw (K w.params))) :
    PySem.W.WalkO q loose XP YP l.row.toRowW d [] (fun f vs=>PySem.call f vs):=
  L2.walk_ofB (n:=63) (k:=32) (x:="_law_script") (CX:=fun _=>CX0) (sp:=fun w=>spLaw (K w.params)) hn (by decide) hdf ⟨rfl,by decide,by decide⟩ hY F (fun _ _ a ns hl hb hS=>⟨a,ns,rfl,hS,hl,hb,fun _=>rfl⟩) fun _ _ _ _ _ z=>z
end My
open PySem PySem.W PyProof.Rows
set_option maxRecDepth 100000 in
set_option maxHeartbeats 0 in
theorem PySem.Challenge.cw_momentloom_k72_models_as_text_holds : PySem.Challenge.rw_momentloom_k72_models_as_text.Holds := by
  w_on; o_law; k_head; (case hw=>w_witness2)
  k_fill
  refine My.walk (l:=PySem.Challenge.rw_momentloom_k72_models_as_text) rfl rfl (fun w h Y=>PySem.W.kIn_of Y) ?F
  case F =>
    intro w mg fa h KX G hmg
    refine' My.all_mk KX G hmg ?a1 ?a2 ?a3 ?a4 ?a5 ?a6 ?a7 ?a8 ?a9 ?a10 ?a11 ?a12 ?a13 ?a14 ?a15 ?a16 ?a17 ?a18 ?a19 ?aWo ?hTab ?zlen ?zabs ?zisinstance ?zlist ?ztuple ?zstr ?zint ?zbool ?zrange ?zmax ?zdict
    case a1 | a2 | a3 | a4 | a5 | a6 | a7 | a8 | a9 | a10 | a11 | a12 | a13 | a14 | a15 | a16 | a17 | a18 | a19=>
      refine' My.dn_i ?a ?l ?c ?k
      case a=>k_is
      case l=>k_is
      case c=>k_is
      case k=>k_is
    case zlen | zabs | zisinstance | zlist | ztuple | zstr | zint | zbool | zrange | zmax | zdict=>k_is
    case aWo=>k_is
    case hTab=>(first | k_is | rfl | decide | decide +kernel)
