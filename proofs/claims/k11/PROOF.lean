import PyProof.Rows.All
import Wide.All
import OpenK.AllK
import Wide.FinOn
import Lean
import PyProof.EqAt
import PyProof.EqKinds
import PyProof.TupleCall
import KE.KDictOf
import PyProof.AttrMissSeq
import PyProof.DictCopy
import PyProof.NeKinds
import KE.KDictSum
import PyProof.Rows.SortStr
import PyProof.Rows.SortWalk
import PyProof.ExcArgsOwn
import PyProof.NsDelKeeps
import PyProof.DictWalks
import PyProof.MinMaxWalk
import PyProof.MeetsDictList
import PyProof.DictFindH
import PyProof.DictTruth
import KE.KRevSl
import PyProof.DictItems
import PyProof.EnumMake
import PyProof.EnumFor
import PyProof.EnumStmt
import PyProof.Rows.EnumRows
import PyProof.Rows.SortRev
import PyProof.DictIter
import PySem.Challenge.RW_momentloom_k11_faults_in_their_order
-- CHANGE: your row's module here, as the last of these rows
set_option Elab.async false
set_option linter.all false
set_option maxRecDepth 100000
namespace L2
open PySem PySem.Spec PyProof.Rows
abbrev Key:=Sum Int Str
def keyIs:Key→Value→Bool
  | .inl k,v=>Value.isInt k v
  | .inr x,v=>Value.isStrOf x v
def keyH (w:World):Key→Int
  | .inl k=>hashInt k
  | .inr x=>hashStr w x
theorem keyIs_shape:∀ {k:Key} {v:Value},keyIs k v=true→(∃ i t,k=Sum.inl i∧v=Value.int i t)∨(∃ x t,k=Sum.inr x∧v=Value.str x t)
  | .inl i,v,h=>by
    obtain ⟨t,e⟩:=Value.isInt_shape (k:=i) (v:=v) h
    exact .inl ⟨i,t,rfl,e⟩
  | .inr x,v,h=>by
    obtain ⟨t,e⟩:=Value.isStrOf_shape (x:=x) (v:=v) h
    exact .inr ⟨x,t,rfl,e⟩
theorem keyIs_int (i:Int) (t:Tok):keyIs (.inl i) (.int i t)=true:=by simp [keyIs,Value.isInt]
theorem keyIs_str (x:Str) (t:Tok):keyIs (.inr x) (.str x t)=true:=by simp [keyIs,Value.isStrOf]
theorem key_ll (a b:Int):decide ((Sum.inl a:Key)=Sum.inl b)=(a == b):=by
  by_cases e:a=b
  · subst e; simp
  · have h:¬ (Sum.inl a:Key)=Sum.inl b:=fun q=>e (Sum.inl.inj q)
    rw [decide_eq_false h]
    exact (beq_eq_false_iff_ne.mpr e).symm
theorem key_rr (a b:Str):decide ((Sum.inr a:Key)=Sum.inr b)=decide (a=b):=by
  by_cases e:a=b
  · subst e; simp
  · have h:¬ (Sum.inr a:Key)=Sum.inr b:=fun q=>e (Sum.inr.inj q)
    rw [decide_eq_false h,decide_eq_false e]
theorem key_lr (a:Int) (b:Str):decide ((Sum.inl a:Key)=Sum.inr b)=false:=decide_eq_false (fun q=>nomatch q)
theorem key_rl (a:Str) (b:Int):decide ((Sum.inr a:Key)=Sum.inl b)=false:=decide_eq_false (fun q=>nomatch q)
def mixKind (prog:Program) (w:World):PySem.KeyKind prog w Key where
  is:=keyIs
  hash:=keyH w
  inj:=fun v a b ha hb=>by
    rcases keyIs_shape ha with ⟨i,t,rfl,rfl⟩ | ⟨x,t,rfl,rfl⟩
    · rcases keyIs_shape hb with ⟨j,u,rfl,e⟩ | ⟨y,u,rfl,e⟩
      · injection e with e1 _; rw [e1]
      · exact nomatch e
    · rcases keyIs_shape hb with ⟨j,u,rfl,e⟩ | ⟨y,u,rfl,e⟩
      · exact nomatch e
      · injection e with e1 _; rw [e1]
  byValue:=fun k v h=>by
    rcases keyIs_shape h with ⟨i,t,rfl,rfl⟩ | ⟨x,t,rfl,rfl⟩ <;> rfl
  pyHash:=fun hv h=>by
    rcases keyIs_shape hv with ⟨i,t,rfl,rfl⟩ | ⟨x,t,rfl,rfl⟩
    · exact wpAny_pyHash_int h
    · exact wpAny_pyHash_str h
  eqBool:=fun hu hv h=>by
    rcases keyIs_shape hu with ⟨i,t,rfl,rfl⟩ | ⟨x,t,rfl,rfl⟩
    · rcases keyIs_shape hv with ⟨j,u,rfl,rfl⟩ | ⟨y,u,rfl,rfl⟩
      · rw [key_ll] at h; exact wpAny_eqBool_int h
      · rw [key_lr] at h; exact SeqAt.EqAt.int_str i t y u _ _ _ _ h
    · rcases keyIs_shape hv with ⟨j,u,rfl,rfl⟩ | ⟨y,u,rfl,rfl⟩
      · rw [key_rl] at h; exact SeqAt.EqAt.str_int x t j u _ _ _ _ h
      · rw [key_rr] at h; exact wpAny_eqBool_str h
  «strs»:=fun k x t v h=>by
    rcases keyIs_shape h with ⟨i,u,rfl,e⟩ | ⟨y,u,rfl,e⟩
    · exact nomatch e
    · injection e with e1 _
      subst e1
      cases v <;> rfl
theorem mixKind_int (prog:Program) (w:World) (i:Int) (t:Tok):(mixKind prog w).is (.inl i) (.int i t)=true:=keyIs_int i t
theorem mixKind_str (prog:Program) (w:World) (x:Str) (t:Tok):(mixKind prog w).is (.inr x) (.str x t)=true:=keyIs_str x t
end L2
namespace L2
open PySem PySem.Spec PyProof.Rows
inductive V where
  | non | bl (b:Bool) | int (i:Int) | str (x:Str) | byt (b:Array UInt8) | flt (b:UInt64) | ref (a:Addr) | ty (n:String)
  deriving DecidableEq
def RelV:V→Value→Prop
  | .non,u=>u=Value.none
  | .bl b,u=>u=Value.bool b
  | .int i,u=>∃ t,u=Value.int i t
  | .str x,u=>∃ t,u=Value.str x t
  | .byt b,u=>∃ t,u=Value.bytes b t
  | .flt b,u=>∃ t,u=Value.float b t
  | .ref a,u=>u=Value.ref a
  | .ty n,u=>u=Value.type n
abbrev Vals:List V→List Value→Prop:=Paired RelV
theorem Vals.length {xs:List V} {us:List Value} (r:Vals xs us):xs.length=us.length:=Paired.length r
theorem Vals.get:∀ {xs:List V} {us:List Value} {i:Nat} {x:V},Vals xs us→xs[i]?=some x→∃ u,us[i]?=some u∧RelV x u
  | _,_,_,_,.nil,e=>by simp at e
  | _,_,0,_,.cons r _,e=>by simp at e; subst e; exact ⟨_,rfl,r⟩
  | _,_,i + 1,x,.cons _ t,e=>by
    obtain ⟨u,h1,h2⟩:=Vals.get (i:=i) (x:=x) t (by simpa using e)
    exact ⟨u,by simpa using h1,h2⟩
theorem Vals.set {x:V} {u:Value} (r:RelV x u):∀ {xs:List V} {us:List Value} (i:Nat),Vals xs us→Vals (xs.set i x) (us.set i u)
  | _,_,_,.nil=>.nil
  | _,_,0,.cons _ t=>.cons r t
  | _,_,i + 1,.cons q t=>.cons q (Vals.set r i t)
theorem Vals.append:∀ {xs ys:List V} {us ws:List Value},Vals xs us→Vals ys ws→Vals (xs++ys) (us++ws)
  | _,_,_,_,.nil,s=>s
  | _,_,_,_,.cons r t,s=>.cons r (Vals.append t s)
theorem Vals.take:∀ {xs:List V} {us:List Value} (n:Nat),Vals xs us→Vals (xs.take n) (us.take n)
  | _,_,0,_=>.nil
  | _,_,_ + 1,.nil=>.nil
  | _,_,n + 1,.cons r t=>.cons r (Vals.take n t)
theorem Vals.drop:∀ {xs:List V} {us:List Value} (n:Nat),Vals xs us→Vals (xs.drop n) (us.drop n)
  | _,_,0,r=>r
  | _,_,_ + 1,.nil=>.nil
  | _,_,n + 1,.cons _ t=>Vals.drop n t
def RelO:Option V→Option Value→Prop
  | some v,some u=>RelV v u
  | none,none=>True
  | _,_=>False
def KV {κ:Type}:List (κ×V)→List (κ×Value)→Prop:=Paired fun (p:κ×V) (q:κ×Value)=>p.1=q.1∧RelV p.2 q.2
def kV:Key→V
  | .inl i=>.int i
  | .inr x=>.str x
inductive HO where
  /-- a list -/
  | lst (xs:List V)
  /-- a tuple (never changes) -/
  | tup (xs:List V)
  /-- a dict whose keys are ints and texts; one whose keys are tuples of ints and texts (the empty one is both) -/
  | dK (kvs:List (Key×V)) | dT (kvs:List (List Key×V))
  /-- a set of ints: its members, its size -/
  | set (S:Int→Bool) (n:Nat)
  /-- an instance of the class at C, its dict at dx, its attributes -/
  | ins (C dx:Addr) (fs:List (Str×V))
  /-- the dict of the instance at x -/
  | own (x:Addr)
  /-- the dict of an exception -/
  | xd (fs:List (Str×V))
  /-- a bound method, f of x -/
  | met (f x:Addr)
  /-- a range object lo, lo + 1, .. below hi -/
  | rng (lo hi:Int)
  /-- a thing that is known to the object (the script; a dict while a loop walks it): read, never written while it is so -/
  | frz (o:Obj) (u:HO)
  /-- a code object's table -/
  | tbl (ps:Array Value)
  /-- any other thing, by what is true of its one object (a def of one's own: SetO a S n := HO.ext fun h => ..) -/
  | ext (φ:Heap→Prop)
abbrev Hp:=Addr→Option HO
def upd (H:Hp) (a:Addr) (o:HO):Hp:=fun b=>if b=a then some o else H b
theorem upd_same {H:Hp} {a:Addr} {o:HO}:upd H a o a=some o:=by unfold upd; rw [if_pos rfl]
theorem upd_ne {H:Hp} {a b:Addr} {o:HO} (h:b≠a):upd H a o b=H b:=by unfold upd; rw [if_neg h]
theorem upd_upd {H:Hp} {a:Addr} {o u:HO}:upd (upd H a o) a u=upd H a u:=by
  funext b; unfold upd; split <;> rfl
theorem ne_of {H:Hp} {a b:Addr} {o u:HO} (h:H a=some o) (h':H b=some u) (d:o≠u):a≠b:=by
  intro e; subst e; rw [h] at h'; exact d (Option.some.inj h')
theorem ne_of_none {H:Hp} {a b:Addr} {o:HO} (h:H a=some o) (h':H b=none):a≠b:=by
  intro e; subst e; rw [h] at h'; cases h'
section
variable (P:Program) (w:World)
def ObjOk (H:Hp) (h:Heap) (a:Addr):HO→Prop
  | .lst xs=>xs.length≤sizeLine∧∃ (its:List Value) (n:Nat),Vals xs its∧h.get? a=some {cls:=.type "list",data:=.seq its.toArray n}
  | .tup xs=>xs.length≤sizeLine∧∃ its:List Value,Vals xs its∧IsTup h a its.toArray
  | .dK kvs=>kvs.length≤sizeLine∧(a == sysModules)=false∧∃ vs,KV kvs vs∧h.DictOf (mixKind P w) a vs
  | .dT kvs=>kvs.length≤sizeLine∧(a == sysModules)=false∧∃ xs:List (List Key×Addr×Value),
      Paired (fun (p:List Key×V) (q:List Key×Addr×Value)=>p.1=q.1∧H q.2.1=some (.tup (p.1.map kV))∧RelV p.2 q.2.2) kvs xs ∧
      ∃ o es ep,h.get? a=some o∧o.ExactDict∧o.data=.dict es ep∧es.toList=xs.map (entryOfKey (tupleKind (mixKind P w)))∧(xs.map (·.1)).Nodup
  | .set S n=>h.SetOf (intKind P w) a S n
  | .ins C dx fs=>H dx=some (.own a)∧fs.length≤1000∧dx≠a∧h.get? a=some (PySem.W.instObj C dx) ∧
      ∃ mA,h.Ns1 dx mA∧(∀ f,RelO (fs.lookup f) (mA f))∧PySem.Within mA (fs.map (·.1))
  | .own _=>∃ o,h.get? a=some o
  | .xd fs=>∃ mA,h.Ns1 a mA∧∀ f,RelO (fs.lookup f) (mA f)
  | .rng lo hi=>∃ t u v,h.get? a=some {cls:=.type "range",data:=.fields #[.int lo t,.int hi u,.int 1 v]}
  | .frz o u=>h.get? a=some o∧ObjOk H h a u
  | .tbl ps=>h.get? a=some {cls:=.none,data:=.fields ps}
  | .met f x=>h.get? a=some (PySem.W.methodObj (.ref f) (.ref x))
  | .ext φ=>φ h∧(∃ o,h.get? a=some o)∧∀ h1 h2:Heap,φ h1→(∀ o,h1.get? a=some o→h2.get? a=some o)→φ h2
def HOk (H:Hp) (h:Heap):Prop:=∀ a o,H a=some o→ObjOk P w H h a o
end
section
variable {P:Program} {w:World} {H H':Hp} {h h':Heap} {a:Addr} {o:HO}
theorem ObjOk.lt (x:ObjOk P w H h a o):a < h.objs.size:=by
  cases o with
  | lst xs=>obtain ⟨_,_,_,_,e⟩:=x; exact Heap.lt_size e
  | tup xs=>obtain ⟨_,_,_,p⟩:=x; exact p.lt
  | dK kvs=>obtain ⟨_,_,_,_,o,_,_,e,_⟩:=x; exact Heap.lt_size e
  | dT kvs=>obtain ⟨_,_,_,_,o,_,_,e,_⟩:=x; exact Heap.lt_size e
  | set S n=>obtain ⟨o,_,_,_,e,_⟩:=x; exact Heap.lt_size e
  | ins C dx fs=>obtain ⟨_,_,_,e,_⟩:=x; exact Heap.lt_size e
  | own y=>obtain ⟨_,e⟩:=x; exact Heap.lt_size e
  | xd fs=>obtain ⟨_,⟨_,_,_,e,_⟩,_⟩:=x; exact Heap.lt_size e
  | rng lo hi=>obtain ⟨_,_,_,e⟩:=x; exact Heap.lt_size e
  | frz ob u=>obtain ⟨e,_⟩:=x; exact Heap.lt_size e
  | tbl ps=>exact Heap.lt_size (show h.get? a=some _ from x)
  | met f y=>exact Heap.lt_size (show h.get? a=some _ from x)
  | ext φ=>obtain ⟨_,⟨_,e⟩,_⟩:=x; exact Heap.lt_size e
theorem Paired.mapP {α β:Type} {F G:α→β→Prop}:∀ {l₁:List α} {l₂:List β},Paired F l₁ l₂→(∀ a b,F a b→G a b)→Paired G l₁ l₂
  | _,_,.nil,_=>.nil
  | _,_,.cons r t,f=>.cons (f _ _ r) (Paired.mapP t f)
theorem Paired.imp' {α β:Type} {F G:α→β→Prop} (f:∀ a b,F a b→G a b) {l₁:List α} {l₂:List β} (r:Paired F l₁ l₂):Paired G l₁ l₂:=Paired.mapP r f
theorem ObjOk.stay (x:ObjOk P w H h a o) (k:∀ b u,(b=a∨H b=some (.own a))→h.get? b=some u→h'.get? b=some u)
    (ho:∀ b,H b=some (.own a)→H' b=some (.own a)) (ht:∀ b xs,H b=some (.tup xs)→H' b=some (.tup xs)):ObjOk P w H' h' a o:=by
  induction o with
  | lst xs=>obtain ⟨z,its,n,r,e⟩:=x; exact ⟨z,its,n,r,k _ _ (.inl rfl) e⟩
  | tup xs=>obtain ⟨z,its,r,ob,e,c⟩:=x; exact ⟨z,its,r,ob,k _ _ (.inl rfl) e,c⟩
  | dK kvs=>obtain ⟨z,y,vs,r,ob,es,ep,e,c⟩:=x; exact ⟨z,y,vs,r,ob,es,ep,k _ _ (.inl rfl) e,c⟩
  | dT kvs =>
    obtain ⟨z,y,xs,r,ob,es,ep,e,c⟩:=x
    exact ⟨z,y,xs,Paired.mapP r fun p q z=>⟨z.1,ht _ _ z.2.1,z.2.2⟩,ob,es,ep,k _ _ (.inl rfl) e,c⟩
  | set S n=>obtain ⟨ob,es,ep,t,e,c⟩:=x; exact ⟨ob,es,ep,t,k _ _ (.inl rfl) e,c⟩
  | ins C dx fs =>
    obtain ⟨d,z,ne,e,mA,⟨od,es,ep,e2,c⟩,r⟩:=x
    exact ⟨ho _ d,z,ne,k _ _ (.inl rfl) e,mA,⟨od,es,ep,k _ _ (.inr d) e2,c⟩,r⟩
  | own y=>obtain ⟨ob,e⟩:=x; exact ⟨ob,k _ _ (.inl rfl) e⟩
  | xd fs=>obtain ⟨mA,⟨od,es,ep,e,c⟩,r⟩:=x; exact ⟨mA,⟨od,es,ep,k _ _ (.inl rfl) e,c⟩,r⟩
  | rng lo hi=>obtain ⟨t,u,v,e⟩:=x; exact ⟨t,u,v,k _ _ (.inl rfl) e⟩
  | frz ob u ih=>obtain ⟨e,q⟩:=x; exact ⟨k _ _ (.inl rfl) e,ih q⟩
  | tbl ps =>
    have e:h.get? a=some {cls:=.none,data:=.fields ps}:=x
    show h'.get? a=some {cls:=.none,data:=.fields ps}
    exact k a _ (.inl rfl) e
  | met f y =>
    have e:h.get? a=some (PySem.W.methodObj (.ref f) (.ref y)):=x
    show h'.get? a=some (PySem.W.methodObj (.ref f) (.ref y))
    exact k a _ (.inl rfl) e
  | ext φ=>obtain ⟨p,⟨o,e⟩,st⟩:=x; exact ⟨st _ _ p fun o q=>k _ _ (.inl rfl) q,⟨o,k _ _ (.inl rfl) e⟩,st⟩
theorem HOk.lt (x:HOk P w H h) (e:H a=some o):a < h.objs.size:=(x a o e).lt
theorem HOk.fresh (x:HOk P w H h) (e:h.objs.size≤a):H a=none:=by
  cases q:H a with
  | none=>rfl
  | some u=>exact absurd (Nat.lt_of_lt_of_le (x.lt q) e) (Nat.lt_irrefl _)
theorem HOk.kept (x:HOk P w H h) (k:∀ b u,h.get? b=some u→h'.get? b=some u):HOk P w H h':=fun a o e =>
  (x a o e).stay (fun b u _ q=>k b u q) (fun _ q=>q) fun _ _ q=>q
theorem HOk.laid (x:HOk P w H h) (k:∀ b u,h.get? b=some u→h'.get? b=some u) (hp:h.objs.size≤a) (new:ObjOk P w (upd H a o) h' a o):HOk P w (upd H a o) h':=fun b u e=>by
  have hn:=x.fresh hp
  by_cases hb:b=a
  · subst hb; rw [upd_same] at e; cases e; exact new
  · rw [upd_ne hb] at e
    exact (x b u e).stay (fun c v _ q=>k c v q) (fun c q=>by rw [upd_ne (ne_of_none q hn)]; exact q) fun c xs q=>by rw [upd_ne (ne_of_none q hn)]; exact q
end
def Rd (H:Hp) (a:Addr) (u:HO):Prop:=H a=some u∨∃ o,H a=some (.frz o u)
theorem Rd.ok {P:Program} {w:World} {H:Hp} {h:Heap} {a:Addr} {u:HO} (r:Rd H a u) (x:HOk P w H h):ObjOk P w H h a u:=by
  rcases r with r | ⟨o,r⟩
  · exact x a u r
  · obtain ⟨_,q⟩:=x a _ r
    exact q
def Mut:Option HO→Prop
  | some (.lst _)=>True
  | some (.dK _)=>True
  | some (.dT _)=>True
  | some (.set _ _)=>True
  | some (.ins _ _ _)=>True
  | some (.ext _)=>True
  | _=>False
section
variable {P:Program} {w:World} {H:Hp} {h h':Heap} {x e:Addr} {o':HO}
theorem HOk.write (ok:HOk P w H h) (mu:Mut (H x)) (he:e=x∨H e=some (.own x)) (k:∀ b u,b≠e→h.get? b=some u→h'.get? b=some u) (heo:∃ u,h'.get? e=some u)
    (new:ObjOk P w (upd H x o') h' x o'):HOk P w (upd H x o') h':=fun b u q=>by
  have nown:∀ c y,H c=some (.own y)→c≠x:=fun c y r z=>by subst z; rw [r] at mu; exact mu
  have ntup:∀ c xs,H c=some (.tup xs)→c≠x:=fun c xs r z=>by subst z; rw [r] at mu; exact mu
  by_cases hb:b=x
  · subst hb; rw [upd_same] at q; cases q; exact new
  · rw [upd_ne hb] at q
    by_cases hbe:b=e
    · have q':H b=some (.own x):=by
        rcases he with z | z
        · exact absurd (hbe.trans z) hb
        · rw [hbe]; exact z
      rw [q] at q'; cases q'
      obtain ⟨v,hv⟩:=heo
      exact ⟨v,by rw [hbe]; exact hv⟩
    · refine (ok b u q).stay (fun c v hc r=>k c v ?_ r) (fun c r=>by rw [upd_ne (nown c b r)]; exact r) fun c xs r=>by rw [upd_ne (ntup c xs r)]; exact r
      rcases hc with rfl | hc
      · exact hbe
      · rintro rfl
        rcases he with z | z
        · exact nown c b hc z
        · rw [hc] at z; cases z; exact hb rfl
end
structure Un (fs ex:List Addr) (H H':Hp) (h h':Heap):Prop where
  keep:∀ b o,h.get? b=some o→H b=none→b∉fs→b∉ex→h'.get? b=some o
  slot:∀ b o,h.get? b=some o→H b=none→b∈fs→b∉ex→∃ sl,h'.get? b=some {o with slots:=sl}
  free:∀ b o,h.get? b=some o→H b=none→b∉ex→H' b=none
  there:∀ b o,h.get? b=some o→b∉ex→∃ o',h'.get? b=some o'
  tups:∀ b xs,H b=some (.tup xs)→H' b=some (.tup xs)
  frzs:∀ b o u,H b=some (.frz o u)→H' b=some (.frz o u)
  tbls:∀ b ps,H b=some (.tbl ps)→∃ more,H' b=some (.tbl (ps++more))
section
variable {fs fs' ex ex':List Addr} {H H1 H2:Hp} {h h1 h2 h':Heap} {a x e:Addr} {o:HO}
theorem Un.any (u:Un fs ex H H1 h h1) {b:Addr} {ob:Obj} (q:h.get? b=some ob) (n:H b=none) (hx:b∉ex):∃ sl,h1.get? b=some {ob with slots:=sl}:=by
  by_cases hb:b∈fs
  · exact u.slot b ob q n hb hx
  · exact ⟨ob.slots,u.keep b ob q n hb hx⟩
theorem Un.kept (k:∀ b u,h.get? b=some u→h'.get? b=some u):Un fs ex H H h h':=
  ⟨fun b ob q _ _ _=>k b ob q,fun b ob q _ _ _=>⟨ob.slots,k b ob q⟩,fun _ _ _ n _=>n,fun b ob q _=>⟨ob,k b ob q⟩,fun _ _ q=>q,fun _ _ _ q=>q,fun _ ps q=>⟨#[],by rw [q]; simp⟩⟩
theorem Un.refl:Un fs ex H H h h:=Un.kept fun _ _ q=>q
theorem Un.laid (k:∀ b u,h.get? b=some u→h'.get? b=some u) (hp:h.objs.size≤a) (hn:H a=none):Un fs ex H (upd H a o) h h' where
  keep:=fun b u q _ _ _=>k b u q
  slot:=fun b u q _ _ _=>⟨u.slots,k b u q⟩
  free:=fun b u q n _=>by rw [upd_ne (Nat.ne_of_lt (Nat.lt_of_lt_of_le (Heap.lt_size q) hp))]; exact n
  there:=fun b u q _=>⟨u,k b u q⟩
  tups:=fun b xs q=>by rw [upd_ne (ne_of_none q hn)]; exact q
  frzs:=fun b u xs q=>by rw [upd_ne (ne_of_none q hn)]; exact q
  tbls:=fun b ps q=>⟨#[],by rw [upd_ne (ne_of_none q hn),q]; simp⟩
theorem Un.write (mu:Mut (H x)) (he:e=x∨H e=some (.own x)) (k:∀ b u,b≠e→h.get? b=some u→h'.get? b=some u) (heo:∃ u,h'.get? e=some u):Un fs ex H (upd H x o) h h':=by
  have hx:∀ b,H b=none→b≠x:=fun b n z=>by subst z; rw [n] at mu; exact mu
  have hb:∀ b,H b=none→b≠e:=fun b n z=>by
    subst z
    rcases he with r | r
    · exact hx b n r
    · rw [n] at r; cases r
  have hm:∀ b u,H b=some u→¬ Mut (some u)→b≠x:=fun b u q nm z=>by subst z; rw [q] at mu; exact nm mu
  refine ⟨fun b u q n _ _=>k b u (hb b n) q,fun b u q n _ _=>⟨u.slots,k b u (hb b n) q⟩,fun b u q n _=>by rw [upd_ne (hx b n)]; exact n,fun b u q _=>?_,
    fun b xs q=>by rw [upd_ne (hm b _ q fun z=>z)]; exact q,fun b u xs q=>by rw [upd_ne (hm b _ q fun z=>z)]; exact q,fun b ps q=>⟨#[],by rw [upd_ne (hm b _ q fun z=>z),q]; simp⟩⟩
  by_cases hbe:b=e
  · subst hbe; exact heo
  · exact ⟨u,k b u hbe q⟩
end
def trk (h:Heap) (H:Hp):List Addr:=(List.range h.objs.size).filter fun a=>(H a).isSome
def hidT (h:Heap) (H:Hp):Heap:=PySem.W.hideAll h (trk h H)
theorem hidT_size (h:Heap) (H:Hp):(hidT h H).objs.size=h.objs.size:=PySem.W.hideAll_size _ _
theorem hidT_get {h:Heap} {H:Hp} {b:Addr} {o:Obj} (e:h.get? b=some o) (n:H b=none):(hidT h H).get? b=some o:=
  PySem.W.hideAll_get _ e fun hm=>by
    have q:(H b).isSome=true:=(List.mem_filter.mp hm).2
    rw [n] at q; simp at q
theorem of_hidT {h:Heap} {H:Hp} {b:Addr} {o:Obj} (e:(hidT h H).get? b=some o):h.get? b=some o∧H b=none:=by
  have e':h.get? b=some o:=PySem.W.of_hideAll (trk h H) e
  refine ⟨e',?_⟩
  cases q:H b with
  | none=>rfl
  | some x =>
    have hm:b∈trk h H:=List.mem_filter.mpr ⟨List.mem_range.mpr (Heap.lt_size e'),by simp [q]⟩
    have z:(hidT h H).get? b=none:=PySem.W.hideAll_none (trk h H) hm
    rw [z] at e; cases e
def allNews (g h:Heap) (L:Addr):List (Addr×Obj):=(List.range h.objs.size).filterMap fun a=>if a=L∨(g.get? a).isSome=true then none else (h.get? a).map fun o=>(a,o)
def rest (g h:Heap) (L d:Addr):List (Addr×Obj):=(allNews g h L).filter fun p=>decide (p.1≠d)
end L2
namespace L2
open PySem PySem.Spec PyProof.Rows
structure Mod (K:PySem.W.Frag) (mg:Str→Option Value) (base:Heap):Prop where
  kin:K.In base
  glob:base.Ns mainGlobals mg
  blt:∃ mb,base.Ns builtinsNs mb∧∀ x:Str,x≠"__name__"→mb x=bootBuiltins x
  nolimit:base.NoLimit
structure Cx where
  prog:Program
  w:World
  K:PySem.W.Frag
  mg:Str→Option Value
  base:Heap
  A:Around
  N:List Str
  s₀:Shared
  H₀:Hp
  env:Env
  outer:List Env
  stack:List Env
  ex:List Addr
  fn:Str→Bool
  calm:Bool
  pn:List (Addr×Obj)
  xe:Value→Shared→Prop
def frs (l:List Env):List Addr:=l.filterMap (·.frame)
abbrev Cx.fs (X:Cx):List Addr:=frs X.outer
def Vis (sc:Scope) (x:Str):Prop:=sc.names.lookup x=some .local∨sc.names.lookup x=some .cell∨sc.names.lookup x=some .free
def Loc (sc:Scope) (x:Str):Prop:=sc.names.lookup x=some .local∨sc.names.lookup x=some .cell
def Look (env:Env) (h:Heap) (m:Str→Option Value) (x:Str) (u:Value):Prop:=
  (env.kindOf x=some .local∧m x=some u)∨((env.kindOf x=some .cell∨env.kindOf x=some .free)∧∃ c,env.cells.lookup x=some c∧h.IsCell c (some u))
structure Cx.Ok (X:Cx):Prop where
  mod:Mod X.K X.mg X.base
  kind:X.env.scope.kind=.function
  glob:X.env.globals=mainGlobals
  blt:X.env.builtins=builtinsNs
  above:X.s₀.heap.objs.size≤X.env.locals
  inj:∀ x y c,X.env.cells.lookup x=some c→X.env.cells.lookup y=some c→x=y
  has:∀ x,(X.env.kindOf x=some .cell∨X.env.kindOf x=some .free)→∃ c,X.env.cells.lookup x=some c
  cab:∀ x c,X.fn x=true→X.env.cells.lookup x=some c→X.s₀.heap.objs.size≤c
  hd:X.calm=true→X.A.handled=none
  frames:X.A.frames=some X.stack
  stk:X.stack=X.outer∨(X.stack=X.env :: X.outer∧X.env.frame=some X.env.locals)
  exf:∀ b∈X.ex,b≠X.env.locals∧∀ x c,X.env.cells.lookup x=some c→c≠b
  bs:∀ b o,X.base.get? b=some o→X.s₀.heap.get? b=some o∧X.H₀ b=none
  bsz:X.base.objs.size≤X.s₀.heap.objs.size
  noex:∀ b o,X.base.get? b=some o→b∉X.ex
  exfs:∀ b∈X.ex,b∉X.fs
  funs:X.s₀.heap.FunFrames X.base X.outer
  frf:∀ b∈X.fs,X.H₀ b=none
structure Inv (X:Cx) (pins:List (Addr×Obj)) (σ:List (Option V)) (H:Hp) (s:Shared):Prop where
  ok:X.Ok
  os:s.os=X.s₀.os
  bare:AllBare s.gens
  base:Un X.fs X.ex X.H₀ H X.s₀.heap s.heap
  loc:∃ m,s.heap.Ns X.env.locals m∧∀ (i:Nat) (x:Str) (v:V),X.N[i]?=some x→σ[i]?=some (some v)→Vis X.env.scope x→∃ u,RelV v u∧Look X.env s.heap m x u
  cell:∀ x c,X.env.cells.lookup x=some c→∃ v,s.heap.IsCell c v
  free:H X.env.locals=none
  freeC:∀ x c,X.env.cells.lookup x=some c→H c=none
  pin:∀ p∈X.pn++pins,s.heap.get? p.1=some p.2∧H p.1=none∧p.1≠X.env.locals∧p.1∉X.fs∧∀ v,p.2.data≠.cell v
  hok:HOk X.prog X.w H s.heap
  len:σ.length=X.N.length
section
variable {X:Cx} {pins:List (Addr×Obj)} {σ:List (Option V)} {H H':Hp} {s:Shared} {h':Heap}
theorem Cx.Ok.nofr (ok:X.Ok) {b:Addr} {o:Obj} (e:X.base.get? b=some o):b∉X.fs:=fun hb=>by
  have:=(ok.funs.mem hb).1
  rw [e] at this; cases this
theorem Inv.bs (I:Inv X pins σ H s):∀ b o,X.base.get? b=some o→s.heap.get? b=some o∧H b=none:=fun b o e =>
  ⟨I.base.keep b o (I.ok.bs b o e).1 (I.ok.bs b o e).2 (I.ok.nofr e) (I.ok.noex b o e),I.base.free b o (I.ok.bs b o e).1 (I.ok.bs b o e).2 (I.ok.noex b o e)⟩
theorem Inv.bk (I:Inv X pins σ H s):∀ b o,X.base.get? b=some o→s.heap.get? b=some o:=fun b o e=>(I.bs b o e).1
theorem Inv.mod (I:Inv X pins σ H s):Mod X.K X.mg X.base:=I.ok.mod
theorem Inv.kIn (I:Inv X pins σ H s):X.K.In s.heap:=I.ok.mod.kin.keeps I.bk
theorem Inv.fr (I:Inv X pins σ H s):∃ m,Fr X.base X.env.locals s.heap m:=
  let ⟨m,hn,_⟩:=I.loc
  ⟨m,hn,I.bk,Nat.le_trans I.ok.bsz I.ok.above⟩
theorem Inv.lt (I:Inv X pins σ H s):X.env.locals < s.heap.objs.size:=let ⟨_,hn,_⟩:=I.loc; hn.lt
theorem Inv.sz (I:Inv X pins σ H s):X.s₀.heap.objs.size≤s.heap.objs.size:=Nat.le_trans I.ok.above (Nat.le_of_lt I.lt)
theorem Inv.nofs (I:Inv X pins σ H s) {a:Addr} (h:s.heap.objs.size≤a):a∉X.fs:=fun hb=>by
  obtain ⟨_,o,ho,_⟩:=I.ok.funs.mem hb
  exact absurd (Nat.lt_of_lt_of_le (Heap.lt_size ho) (Nat.le_trans I.sz h)) (Nat.lt_irrefl _)
theorem Inv.cne (I:Inv X pins σ H s):∀ x c,X.env.cells.lookup x=some c→c≠X.env.locals:=fun x c e z=>by
  obtain ⟨v,o,ho,hd⟩:=I.cell x c e
  obtain ⟨m,⟨o',es,ep,ho',hd',_⟩,_⟩:=I.loc
  rw [z,ho'] at ho; cases ho; rw [hd'] at hd; cases hd
theorem Inv.funs (I:Inv X pins σ H s):s.heap.FunFrames X.base X.outer:=by
  have all:∀ (l:List Env),(∀ b∈frs l,b∈X.fs)→X.s₀.heap.FunFrames X.base l→s.heap.FunFrames X.base l:=by
    intro l
    induction l with
    | nil=>intro _ _; trivial
    | cons env r ih =>
      intro hs hl
      obtain ⟨hk,⟨L,o,hf,hn,ho,hd⟩,hr⟩:=hl
      have hL:L∈X.fs:=hs L (by unfold frs; rw [List.filterMap_cons,hf]; exact List.mem_cons_self)
      obtain ⟨sl,e⟩:=I.base.slot L o ho (I.ok.frf L hL) hL fun z=>I.ok.exfs L z hL
      exact ⟨hk,⟨L,_,hf,hn,e,hd⟩,ih (fun b hb=>hs b (by unfold frs; rw [List.filterMap_cons,hf]; exact List.mem_cons_of_mem _ hb)) hr⟩
  exact all X.outer (fun _ hb=>hb) I.ok.funs
theorem Inv.stack (I:Inv X pins σ H s):s.heap.FunFrames X.base X.stack:=by
  rcases I.ok.stk with e | ⟨e,hf⟩
  · rw [e]; exact I.funs
  · rw [e]
    obtain ⟨m,hn,_⟩:=I.loc
    refine .cons (by rw [I.ok.kind]; decide) hf hn ?_ I.funs
    exact Heap.get?_none_of_le (Nat.le_trans I.ok.bsz I.ok.above)
theorem Inv.stkSub (I:Inv X pins σ H s):∀ b∈frs X.stack,b∈X.env.locals :: X.fs:=fun b hb=>by
  rcases I.ok.stk with e | ⟨e,hf⟩
  · rw [e] at hb; exact List.mem_cons_of_mem _ hb
  · rw [e] at hb
    unfold frs at hb
    rw [List.filterMap_cons,hf] at hb
    exact hb
theorem Inv.stkFree (I:Inv X pins σ H s):∀ b∈frs X.stack,H b=none:=fun b hb=>by
  rcases List.mem_cons.mp (I.stkSub b hb) with e | hb
  · rw [e]; exact I.free
  · obtain ⟨_,o,ho,_⟩:=I.ok.funs.mem hb
    exact I.base.free b o ho (I.ok.frf b hb) fun z=>I.ok.exfs b z hb
theorem Inv.step {g':Array GenState} {t':Nat} {d':Drawn} {ch:List Addr} (I:Inv X pins σ H s)
    (hch:∀ b∈ch,(b∈X.ex∨X.s₀.heap.objs.size≤b)∧b≠X.env.locals∧(∀ x c,X.env.cells.lookup x=some c→c≠b)∧∀ p∈X.pn++pins,p.1≠b)
    (keep:∀ b o,b≠X.env.locals→b∉X.fs→b∉ch→s.heap.get? b=some o→H b=none→h'.get? b=some o)
    (slot:∀ b o,b≠X.env.locals→b∈X.fs→b∉ch→s.heap.get? b=some o→H b=none→∃ sl,h'.get? b=some {o with slots:=sl}) (free:∀ b o,b∉ch→s.heap.get? b=some o→H b=none→H' b=none)
    (there:∀ b o,b∉ch→s.heap.get? b=some o→∃ o',h'.get? b=some o')
    (tups:∀ b xs,H b=some (.tup xs)→H' b=some (.tup xs)) (frzs:∀ b o u,H b=some (.frz o u)→H' b=some (.frz o u)) (tbls:∀ b ps,H b=some (.tbl ps)→∃ more,H' b=some (.tbl (ps++more)))
    (ns:∀ m,s.heap.Ns X.env.locals m→h'.Ns X.env.locals m) (hok:HOk X.prog X.w H' h') (hg:AllBare g') :
    Inv X pins σ H' {s with heap:=h',gens:=g',drawn:=d',toks:=t'}:=by
  have neL:∀ b o,X.s₀.heap.get? b=some o→b≠X.env.locals:=fun b o e=>Nat.ne_of_lt (Nat.lt_of_lt_of_le (Heap.lt_size e) I.ok.above)
  have neC:∀ b o,X.s₀.heap.get? b=some o→b∉X.ex→b∉ch:=fun b o e hx hb=>by
    rcases (hch b hb).1 with z | z
    · exact hx z
    · exact absurd (Nat.lt_of_lt_of_le (Heap.lt_size e) z) (Nat.lt_irrefl _)
  have cellK:∀ x c,X.env.cells.lookup x=some c→∀ v,s.heap.IsCell c v→h'.IsCell c v:=fun x c e v ⟨o,ho,hd⟩=>by
    have nch:c∉ch:=fun z=>(hch c z).2.2.1 x c e rfl
    by_cases hc:c∈X.fs
    · obtain ⟨sl,q⟩:=slot c o (I.cne x c e) hc nch ho (I.freeC x c e)
      exact ⟨_,q,hd⟩
    · exact ⟨o,keep c o (I.cne x c e) hc nch ho (I.freeC x c e),hd⟩
  refine ⟨I.ok,I.os,hg,⟨fun b o e n hb hx=>?_,fun b o e n hb hx=>?_,fun b o e n hx=>?_,fun b o e hx=>?_,fun b xs e=>tups b xs (I.base.tups b xs e),fun b o xs e=>frzs b o xs (I.base.frzs b o xs e),fun b ps e=>?_⟩,?_,fun x c e=>?_,?_,fun x c e=>?_,fun p hp=>?_,hok,I.len⟩
  · exact keep b o (neL b o e) hb (neC b o e hx) (I.base.keep b o e n hb hx) (I.base.free b o e n hx)
  · obtain ⟨sl,e1⟩:=I.base.slot b o e n hb hx
    obtain ⟨sl',e2⟩:=slot b _ (neL b o e) hb (neC b o e hx) e1 (I.base.free b o e n hx)
    exact ⟨sl',e2⟩
  · obtain ⟨o',e1⟩:=I.base.there b o e hx
    exact free b o' (neC b o e hx) e1 (I.base.free b o e n hx)
  · obtain ⟨o',e1⟩:=I.base.there b o e hx
    exact there b o' (neC b o e hx) e1
  · obtain ⟨m1,e1⟩:=I.base.tbls b ps e
    obtain ⟨m2,e2⟩:=tbls b _ e1
    exact ⟨m1++m2,by rw [e2,Array.append_assoc]⟩
  · obtain ⟨m,hn,hl⟩:=I.loc
    refine ⟨m,ns m hn,fun i x v e1 e2 e3=>?_⟩
    obtain ⟨u,r,l⟩:=hl i x v e1 e2 e3
    refine ⟨u,r,?_⟩
    rcases l with l | ⟨k,c,e,z⟩
    · exact .inl l
    · exact .inr ⟨k,c,e,cellK x c e _ z⟩
  · obtain ⟨v,z⟩:=I.cell x c e
    exact ⟨v,cellK x c e v z⟩
  · obtain ⟨m,⟨o,_,_,ho,_⟩,_⟩:=I.loc
    exact free _ o (fun z=>(hch _ z).2.1 rfl) ho I.free
  · obtain ⟨v,o,ho,hd⟩:=I.cell x c e
    exact free c o (fun z=>(hch c z).2.2.1 x c e rfl) ho (I.freeC x c e)
  · obtain ⟨e,n,ne,nf,d⟩:=I.pin p hp
    have nch:p.1∉ch:=fun z=>(hch p.1 z).2.2.2 p hp rfl
    exact ⟨keep p.1 p.2 ne nf nch e n,free p.1 p.2 nch e n,ne,nf,d⟩
theorem Inv.un {t':Nat} (I:Inv X pins σ H s) (u:Un X.fs [] H H' s.heap h') (hok:HOk X.prog X.w H' h'):Inv X pins σ H' {s with heap:=h',toks:=t'}:=by
  obtain ⟨m,⟨o,es,ep,ho,r⟩,_⟩:=id I.loc
  obtain ⟨sl,hL⟩:=u.any ho I.free (by simp)
  exact I.step (g':=s.gens) (d':=s.drawn) (ch:=[]) (fun _ z=>nomatch z) (fun b o _ hb _ e n=>u.keep b o e n hb (by simp)) (fun b o _ hb _ e n=>u.slot b o e n hb (by simp)) (fun b o _ e n=>u.free b o e n (by simp)) (fun b o _ e=>u.there b o e (by simp)) u.tups u.frzs u.tbls (fun m' hm=>by
    obtain ⟨o',es',ep',ho',r'⟩:=hm
    rw [ho] at ho'; cases ho'
    exact ⟨_,es',ep',hL,r'⟩) hok I.bare
theorem Inv.call {g':Array GenState} {t':Nat} {d':Drawn} {ch:List Addr} (I:Inv X pins σ H s) (u:Un (frs X.stack) ch H H' s.heap h') (hok:HOk X.prog X.w H' h') (hg:AllBare g')
    (hch:∀ b∈ch,(b∈X.ex∨X.s₀.heap.objs.size≤b)∧b≠X.env.locals∧(∀ x c,X.env.cells.lookup x=some c→c≠b)∧∀ p∈X.pn++pins,p.1≠b) :
    Inv X pins σ H' {s with heap:=h',gens:=g',drawn:=d',toks:=t'}:=by
  obtain ⟨m,⟨o,es,ep,ho,r⟩,_⟩:=id I.loc
  obtain ⟨sl,hL⟩:=u.any ho I.free fun z=>(hch _ z).2.1 rfl
  exact I.step (ch:=ch) hch (fun b o hL hb hc e n=>u.keep b o e n (fun z=>(List.mem_cons.mp (I.stkSub b z)).elim hL hb) hc) (fun b o _ _ hc e n=>u.any e n hc) (fun b o hc e n=>u.free b o e n hc) (fun b o hc e=>u.there b o e hc) u.tups u.frzs u.tbls (fun m' hm=>by
    obtain ⟨o',es',ep',ho',r'⟩:=hm
    rw [ho] at ho'; cases ho'
    exact ⟨_,es',ep',hL,r'⟩) hok hg
theorem Inv.turned {t':Nat} {it:Addr} (I:Inv X pins σ H s) (k:∀ b o,b≠it→s.heap.get? b=some o→h'.get? b=some o) (hn:H it=none) (hL:it≠X.env.locals)
    (h1:it∈X.ex∨X.s₀.heap.objs.size≤it) (h2:∀ x c,X.env.cells.lookup x=some c→c≠it) (h3:∀ p∈X.pn++pins,p.1≠it):Inv X pins σ H {s with heap:=h',toks:=t'}:=by
  have nit:∀ b u,H b=some u→b≠it:=fun b u e z=>by rw [z,hn] at e; cases e
  refine I.step (g':=s.gens) (d':=s.drawn) (ch:=[it]) (fun b hb=>?_) (fun b o _ _ hc e _=>k b o (fun z=>hc (by simp [z])) e) (fun b o _ _ hc e _=>⟨o.slots,k b o (fun z=>hc (by simp [z])) e⟩) (fun _ _ _ _ n=>n)
    (fun b o hc e=>⟨o,k b o (fun z=>hc (by simp [z])) e⟩) (fun _ _ e=>e) (fun _ _ _ e=>e) (fun b ps e=>⟨#[],by rw [e]; simp⟩) (fun m hm=>?_) (fun b u e=>?_) I.bare
  · have e:b=it:=by simpa using hb
    subst e
    exact ⟨h1,hL,h2,h3⟩
  · obtain ⟨o,es,ep,ho,r⟩:=hm
    exact ⟨o,es,ep,k _ o (Ne.symm hL) ho,r⟩
  · refine (I.hok b u e).stay (fun c v hc q=>k c v ?_ q) (fun _ q=>q) fun _ _ q=>q
    rcases hc with z | z
    · rw [z]; exact nit b u e
    · exact nit c _ z
theorem Inv.tok (I:Inv X pins σ H s) (t:Nat):Inv X pins σ H {s with toks:=t}:=I.un (h':=s.heap) (t':=t) Un.refl I.hok
theorem Inv.kept {t':Nat} (I:Inv X pins σ H s) (k:∀ b u,s.heap.get? b=some u→h'.get? b=some u):Inv X pins σ H {s with heap:=h',toks:=t'}:=I.un (Un.kept k) (I.hok.kept k)
theorem Inv.laid {a:Addr} {o:HO} {t':Nat} (I:Inv X pins σ H s) (k:∀ b u,s.heap.get? b=some u→h'.get? b=some u) (hp:s.heap.objs.size≤a) (new:ObjOk X.prog X.w (upd H a o) h' a o) :
    Inv X pins σ (upd H a o) {s with heap:=h',toks:=t'}:=I.un (Un.laid k hp (I.hok.fresh hp)) (I.hok.laid k hp new)
theorem Inv.write {x e:Addr} {o:HO} {t':Nat} (I:Inv X pins σ H s) (mu:Mut (H x)) (he:e=x∨H e=some (.own x)) (k:∀ b u,b≠e→s.heap.get? b=some u→h'.get? b=some u) (heo:∃ u,h'.get? e=some u)
    (new:ObjOk X.prog X.w (upd H x o) h' x o):Inv X pins σ (upd H x o) {s with heap:=h',toks:=t'}:=I.un (Un.write mu he k heo) (I.hok.write mu he k heo new)
theorem Inv.weak {σ':List (Option V)} (I:Inv X pins σ H s) (hl:σ'.length=σ.length) (w:∀ (i:Nat) v,σ'[i]?=some (some v)→σ[i]?=some (some v)):Inv X pins σ' H s:=
  ⟨I.ok,I.os,I.bare,I.base,let ⟨m,hn,hl'⟩:=I.loc; ⟨m,hn,fun i x v e1 e2 e3=>hl' i x v e1 (w i v e2) e3⟩,I.cell,I.free,I.freeC,I.pin,I.hok,hl.trans I.len⟩
theorem Inv.pins_of {pins':List (Addr×Obj)} (I:Inv X pins σ H s) (h:∀ p∈pins',s.heap.get? p.1=some p.2∧H p.1=none∧p.1≠X.env.locals∧p.1∉X.fs∧∀ v,p.2.data≠.cell v):Inv X pins' σ H s:=
  ⟨I.ok,I.os,I.bare,I.base,I.loc,I.cell,I.free,I.freeC,fun p hp=>(List.mem_append.mp hp).elim (fun z=>I.pin p (List.mem_append_left _ z)) (h p),I.hok,I.len⟩
theorem nodup_ix {N:List Str} (hN:N.Nodup) {i j:Nat} {x:Str} (a:N[i]?=some x) (b:N[j]?=some x):i=j:=by
  obtain ⟨h1,e1⟩:=List.getElem?_eq_some_iff.mp a
  obtain ⟨h2,e2⟩:=List.getElem?_eq_some_iff.mp b
  exact (List.getElem_inj hN).mp (e1.trans e2.symm)
theorem store_ok2 {M:Model} {A:Around} {E:Value→Shared→Prop} {i:Nat} {x:Str} {v:V} {u:Value} {Q:Unit→Shared→Prop} (I:Inv X pins σ H s) (hN:X.N.Nodup) (hi:X.N[i]?=some x) (hx:Loc X.env.scope x) (r:RelV v u)
    (h:∀ s',Inv X pins (σ.set i (some v)) H s'→(∃ a,Heap.SameBut a s.heap s'.heap∧(a=X.env.locals∨X.env.cells.lookup x=some a))→Q () s') (hf:X.fn x=true∨X.env.scope.names.lookup x=some .local:=by first | exact .inl rfl | exact .inr rfl | assumption):wpAny M A (storeName X.env x u) Q E s:=by
  obtain ⟨m,hn,hl⟩:=id I.loc
  have hcls:(X.env.scope.kind == .class || (X.env.scope.kind == .module && X.env.locals != X.env.globals))=false:=by rw [I.ok.kind]; rfl
  have hiσ:i < σ.length:=by rw [I.len]; exact (List.getElem?_eq_some_iff.mp hi).1
  have cne:=I.cne
  have tracked:∀ {a:Addr} {h':Heap},(∃ o,s.heap.get? a=some o∧H a=none)→Heap.SameBut a s.heap h'→HOk X.prog X.w H h':=fun {a h'} ha hs b ob e=>by
    obtain ⟨_,_,hfree⟩:=ha
    refine (I.hok b ob e).stay (fun c w' hc q=>(hs.2 c ?_).trans q) (fun _ q=>q) fun _ _ q=>q
    rintro rfl
    rcases hc with rfl | hc
    · rw [hfree] at e; cases e
    · rw [hfree] at hc; cases hc
  rcases hx with hk | hk
  · refine wpAny_storeName_local hk hn (fun h' hn' hs=>?_) hcls
    obtain ⟨oL,_,_,hoL,_⟩:=id hn
    refine h _ ⟨I.ok,I.os,I.bare,⟨fun b o e n hb hx=>?_,fun b o e n hb hx=>?_,I.base.free,fun b o e hx=>?_,I.base.tups,I.base.frzs,I.base.tbls⟩,⟨_,hn',fun j y v' e1 e2 e3=>?_⟩,fun y c e=>?_,I.free,I.freeC,fun p hp=>?_,tracked ⟨oL,hoL,I.free⟩ hs,by simpa using I.len⟩ ⟨_,hs,.inl rfl⟩
    · exact (hs.2 b (Nat.ne_of_lt (Nat.lt_of_lt_of_le (Heap.lt_size e) I.ok.above))).trans (I.base.keep b o e n hb hx)
    · obtain ⟨sl,e1⟩:=I.base.slot b o e n hb hx
      exact ⟨sl,(hs.2 b (Nat.ne_of_lt (Nat.lt_of_lt_of_le (Heap.lt_size e) I.ok.above))).trans e1⟩
    · obtain ⟨o',e1⟩:=I.base.there b o e hx
      exact ⟨o',(hs.2 b (Nat.ne_of_lt (Nat.lt_of_lt_of_le (Heap.lt_size e) I.ok.above))).trans e1⟩
    · by_cases hj:j=i
      · subst hj
        rw [hi] at e1; cases e1
        rw [List.getElem?_set_self hiσ] at e2
        cases e2
        exact ⟨u,r,.inl ⟨hk,by simp⟩⟩
      · rw [List.getElem?_set_ne (Ne.symm hj)] at e2
        obtain ⟨u',r',q⟩:=hl j y v' e1 e2 e3
        refine ⟨u',r',?_⟩
        rcases q with ⟨k,e⟩ | ⟨k,c,e,z⟩
        · refine .inl ⟨k,?_⟩
          have:y≠x:=fun e=>hj (nodup_ix hN e1 (e ▸ hi))
          simp [this,e]
        · exact .inr ⟨k,c,e,z.sameBut hs (cne y c e)⟩
    · obtain ⟨w',z⟩:=I.cell y c e
      exact ⟨w',z.sameBut hs (cne y c e)⟩
    · obtain ⟨e,n,ne,nf,d⟩:=I.pin p hp
      exact ⟨(hs.2 p.1 ne).trans e,n,ne,nf,d⟩
  · have hfn:X.fn x=true:=by
      rcases hf with z | z
      · exact z
      · rw [z] at hk; cases hk
    obtain ⟨c,hc⟩:=I.ok.has x (.inl hk)
    obtain ⟨w',z⟩:=I.cell x c hc
    refine wpAny_storeName_cell I.ok.kind hk hc z (fun h' hc' hs=>?_)
    obtain ⟨oc,hoc,hocd⟩:=id z
    refine h {s with heap:=h'} ⟨I.ok,I.os,I.bare,⟨fun b o e n hb hx=>?_,fun b o e n hb hx=>?_,I.base.free,fun b o e hx=>?_,I.base.tups,I.base.frzs,I.base.tbls⟩,⟨m,hn.sameBut hs (Ne.symm (cne x c hc)),fun j y v' e1 e2 e3=>?_⟩,fun y c' e=>?_,I.free,I.freeC,fun p hp=>?_,tracked ⟨oc,hoc,I.freeC x c hc⟩ hs,by simpa using I.len⟩ ⟨c,hs,.inr hc⟩
    · exact (hs.2 b (Nat.ne_of_lt (Nat.lt_of_lt_of_le (Heap.lt_size e) (I.ok.cab x c hfn hc)))).trans (I.base.keep b o e n hb hx)
    · obtain ⟨sl,e1⟩:=I.base.slot b o e n hb hx
      exact ⟨sl,(hs.2 b (Nat.ne_of_lt (Nat.lt_of_lt_of_le (Heap.lt_size e) (I.ok.cab x c hfn hc)))).trans e1⟩
    · obtain ⟨o',e1⟩:=I.base.there b o e hx
      exact ⟨o',(hs.2 b (Nat.ne_of_lt (Nat.lt_of_lt_of_le (Heap.lt_size e) (I.ok.cab x c hfn hc)))).trans e1⟩
    · by_cases hj:j=i
      · subst hj
        rw [hi] at e1; cases e1
        rw [List.getElem?_set_self hiσ] at e2
        cases e2
        exact ⟨u,r,.inr ⟨.inl hk,c,hc,hc'⟩⟩
      · rw [List.getElem?_set_ne (Ne.symm hj)] at e2
        obtain ⟨u',r',q⟩:=hl j y v' e1 e2 e3
        refine ⟨u',r',?_⟩
        rcases q with q | ⟨k,c',e,z'⟩
        · exact .inl q
        · refine .inr ⟨k,c',e,z'.sameBut hs ?_⟩
          rintro rfl
          exact hj (nodup_ix hN e1 (I.ok.inj _ _ _ e hc ▸ hi))
    · by_cases hcc:c'=c
      · subst hcc; exact ⟨_,hc'⟩
      · obtain ⟨w2,z2⟩:=I.cell y c' e
        exact ⟨w2,z2.sameBut hs hcc⟩
    · obtain ⟨e,n,ne,nf,d⟩:=I.pin p hp
      refine ⟨(hs.2 p.1 ?_).trans e,n,ne,nf,d⟩
      intro q
      rw [q,hoc] at e
      have q':oc=p.2:=Option.some.inj e
      exact d w' (by rw [← q']; exact hocd)
theorem store_ok {M:Model} {A:Around} {E:Value→Shared→Prop} {i:Nat} {x:Str} {v:V} {u:Value} {Q:Unit→Shared→Prop} (I:Inv X pins σ H s) (hN:X.N.Nodup) (hi:X.N[i]?=some x) (hx:Loc X.env.scope x) (r:RelV v u)
    (h:∀ s',Inv X pins (σ.set i (some v)) H s'→Q () s') (hf:X.fn x=true∨X.env.scope.names.lookup x=some .local:=by first | exact .inl rfl | exact .inr rfl | assumption):wpAny M A (storeName X.env x u) Q E s:=
  store_ok2 I hN hi hx r (fun s' I' _=>h s' I') hf
theorem Inv.call' {s':Shared} {ch:List Addr} (I:Inv X pins σ H s) (ho:s'.os=s.os) (u:Un (frs X.stack) ch H H' s.heap s'.heap) (hok:HOk X.prog X.w H' s'.heap) (hg:AllBare s'.gens)
    (hch:∀ b∈ch,(b∈X.ex∨X.s₀.heap.objs.size≤b)∧b≠X.env.locals∧(∀ x c,X.env.cells.lookup x=some c→c≠b)∧∀ p∈X.pn++pins,p.1≠b):Inv X pins σ H' s':=by
  obtain ⟨h',g',d',t',o'⟩:=s'
  have e:o'=s.os:=ho
  subst e
  exact I.call (g':=g') (t':=t') (d':=d') u hok hg hch
end
abbrev XK:=Value→Option Addr→Hp→Prop
abbrev St:=List (Option V)
abbrev VK:=V→Hp→Prop
abbrev TE:=St→Hp→VK→Prop
abbrev TT:=St→Hp→(Bool→Hp→Prop)→Prop
abbrev TA:=St→Hp→(List V→Hp→Prop)→Prop
structure Ends where
  nx:St→Hp→Prop
  rt:VK
  bk:St→Hp→Prop:=fun _ _=>False
  ct:St→Hp→Prop:=fun _ _=>False
abbrev TS:=Ends→St→Hp→Prop
def EP (X:Cx) (pins:List (Addr×Obj)) (σ:St) (Q:VK) (u:Value) (s':Shared):Prop:=∃ v H',Inv X pins σ H' s'∧RelV v u∧Q v H'
def TP (X:Cx) (pins:List (Addr×Obj)) (σ:St) (Q:Bool→Hp→Prop) (b:Bool) (s':Shared):Prop:=∃ H',Inv X pins σ H' s'∧Q b H'
def AP (X:Cx) (pins:List (Addr×Obj)) (σ:St) (Q:List V→Hp→Prop) (us:List Value) (s':Shared):Prop:=∃ vs H',Inv X pins σ H' s'∧Vals vs us∧Q vs H'
def SP (X:Cx) (pins:List (Addr×Obj)) (D:Ends) (f:Flow) (s':Shared):Prop:=
  match f with
  | .next=>∃ σ' H',Inv X pins σ' H' s'∧D.nx σ' H'
  | .brk=>∃ σ' H',Inv X pins σ' H' s'∧D.bk σ' H'
  | .cont=>∃ σ' H',Inv X pins σ' H' s'∧D.ct σ' H'
  | .ret u=>∃ v σ' H',Inv X pins σ' H' s'∧RelV v u∧D.rt v H'
def PE (X:Cx) (e:Expr) (t:TE):Prop:=
  ∀ (pins:List (Addr×Obj)) (s:Shared) (σ:St) (H:Hp) (Q:VK),Inv X pins σ H s→t σ H Q→wpAny (model X.prog X.w) X.A (eval e X.env) (EP X pins σ Q) X.xe s
def PT (X:Cx) (e:Expr) (t:TT):Prop:=
  ∀ (pins:List (Addr×Obj)) (s:Shared) (σ:St) (H:Hp) (Q:Bool→Hp→Prop),Inv X pins σ H s→t σ H Q→wpAny (model X.prog X.w) X.A (isTrue e X.env (eval e X.env)) (TP X pins σ Q) X.xe s
def PW (X:Cx) (e:Expr) (t:TT):Prop:=
  ∀ (whole:Sem Value) (pins:List (Addr×Obj)) (s:Shared) (σ:St) (H:Hp) (Q:Bool→Hp→Prop),Inv X pins σ H s→t σ H Q→wpAny (model X.prog X.w) X.A (isTrue e X.env whole) (TP X pins σ Q) X.xe s
theorem PW.pt {X:Cx} {e:Expr} {t:TT} (h:PW X e t):PT X e t:=h _
def PA (X:Cx) (es:List Expr) (t:TA):Prop:=
  ∀ (pos:Pos) (pins:List (Addr×Obj)) (s:Shared) (σ:St) (H:Hp) (Q:List V→Hp→Prop),Inv X pins σ H s→t σ H Q→wpAny (model X.prog X.w) X.A (spliced (backTo pos (starEach es X.env))) (AP X pins σ Q) X.xe s
def PS (X:Cx) (st:Stmt) (t:TS):Prop:=
  ∀ (pins:List (Addr×Obj)) (s:Shared) (σ:St) (H:Hp) (D:Ends),Inv X pins σ H s→t D σ H→wpAny (model X.prog X.w) X.A (exec st X.env) (SP X pins D) X.xe s
def PSs (X:Cx) (st:List Stmt) (t:TS):Prop:=
  ∀ (pins:List (Addr×Obj)) (s:Shared) (σ:St) (H:Hp) (D:Ends),Inv X pins σ H s→t D σ H→wpAny (model X.prog X.w) X.A (execs st X.env) (SP X pins D) X.xe s
theorem thn {α:Type} {t:Sem α} {Q Q':α→Shared→Prop} {M:Model} {A:Around} {E:Value→Shared→Prop} {s:Shared} (h:wpAny M A t Q E s) (hQ:∀ a s,Q a s→Q' a s):wpAny M A t Q' E s:=wpAny_mono h hQ fun _ _ x=>x
end L2
namespace L2
open PySem PySem.Spec PyProof.Rows
section
variable {X:Cx}
theorem bin {a b:Expr} {ta tb:TE} (ha:PE X a ta) (hb:PE X b tb) {pins:List (Addr×Obj)} {s:Shared} {σ:St} {H:Hp} {R:V→V→Hp→Prop} (I:Inv X pins σ H s) (h:ta σ H fun x H1=>tb σ H1 fun y H2=>R x y H2)
    {α:Type} {Q:α→Shared→Prop} {f:Value→Value→Sem α}
    (hf:∀ v u s2 x y H2,Inv X pins σ H2 s2→RelV x v→RelV y u→R x y H2→wpAny (model X.prog X.w) X.A (f v u) Q X.xe s2) :
    wpAny (model X.prog X.w) X.A (eval a X.env) (fun v s₁=>wpAny (model X.prog X.w) X.A (eval b X.env) (fun u s₂=>wpAny (model X.prog X.w) X.A (f v u) Q X.xe s₂) X.xe s₁) X.xe s:=by
  refine thn (ha pins s σ H _ I h) fun v s1 ⟨x,H1,I1,r1,q1⟩=>?_
  refine thn (hb pins s1 σ H1 _ I1 q1) fun u s2 ⟨y,H2,I2,r2,q2⟩=>?_
  exact hf v u s2 x y H2 I2 r1 r2 q2
def tVar (i:Nat):TE:=fun σ H Q=>∃ v,σ[i]?=some (some v)∧Q v H
def tC (v:V):TE:=fun _ H Q=>Q v H
theorem pe_var {i:Nat} {x:Str} {pos:Pos} (hN:X.N[i]?=some x) (hv:Vis X.env.scope x) (hd:(x == ("__debug__":Str))=false:=by decide) (hcd:(x == ("__classdict__":Str))=false:=by decide):PE X (.Name x pos) (tVar i):=by
  intro pins s σ H Q I h
  obtain ⟨v,e,h⟩:=h
  obtain ⟨m,hn,hl⟩:=I.loc
  obtain ⟨u,r,l⟩:=hl i x v hN e hv
  have fin:EP X pins σ Q u s:=⟨v,H,I,r,h⟩
  rcases l with ⟨hk,hm⟩ | ⟨hk,c,hc,hcell⟩
  · exact wpAny_Name (wpAny_loadName_local I.ok.kind hk hn hm fin) hd
  · rcases hk with hk | hk
    · exact wpAny_Name (wpAny_loadName_cell I.ok.kind hk hc hcell fin) hd
    · exact wpAny_Name (wpAny_loadName_free I.ok.kind hk hc hcell fin hcd) hd
theorem pe_int {i j pos}:PE X (.Constant (.int i) j pos) (tC (.int i)):=fun _ _ _ H _ I h=>wpAny_Constant_int ⟨.int i,H,I.tok _,⟨_,rfl⟩,h⟩
theorem pe_bl {b j pos}:PE X (.Constant (.bool b) j pos) (tC (.bl b)):=fun _ _ _ H _ I h=>Constant_bool ⟨.bl b,H,I,rfl,h⟩
theorem pe_non {j pos}:PE X (.Constant .none j pos) (tC .non):=fun _ _ _ H _ I h=>Constant_none ⟨.non,H,I,rfl,h⟩
theorem pe_str {x j pos}:PE X (.Constant (.str x) j pos) (tC (.str x)):=fun _ _ _ H _ I h=>Calls.Constant_str ⟨.str x,H,I.tok _,⟨_,rfl⟩,h⟩
def Gl (X:Cx) (x:Str):Prop:=X.env.kindOf x=some .globalImplicit
theorem ld_glob {E:Value→Shared→Prop} {pins:List (Addr×Obj)} {s:Shared} {σ:St} {H:Hp} {x:Str} {u:Value} {pos:Pos} {Q:Value→Shared→Prop} (I:Inv X pins σ H s) (hg:Gl X x) (hm:X.mg x=some u) (h:Q u s)
    (hd:(x == ("__debug__":Str))=false:=by decide):wpAny (model X.prog X.w) X.A (eval (.Name x pos) X.env) Q E s:=
  Calls.Name_function_global I.ok.kind hg (Calls.loadGlobal_global (by rw [I.ok.glob]; exact I.mod.glob.keeps I.bk) hm h) hd
theorem ld_blt {E:Value→Shared→Prop} {pins:List (Addr×Obj)} {s:Shared} {σ:St} {H:Hp} {x:Str} {u:Value} {pos:Pos} {Q:Value→Shared→Prop} (I:Inv X pins σ H s) (hg:Gl X x) (hm:X.mg x=none) (hv:bootBuiltins x=some u) (h:Q u s)
    (hn:x≠"__name__":=by decide) (hd:(x == ("__debug__":Str))=false:=by decide):wpAny (model X.prog X.w) X.A (eval (.Name x pos) X.env) Q E s:=by
  obtain ⟨mb,h1,h2⟩:=I.mod.blt
  exact Calls.Name_function_global I.ok.kind hg (Calls.loadGlobal_builtin (by rw [I.ok.glob]; exact I.mod.glob.keeps I.bk) hm (by rw [I.ok.blt]; exact h1.keeps I.bk) ((h2 x hn).trans hv) h) hd
theorem pe_glob {x:Str} {v:V} {u:Value} {pos:Pos} (hg:Gl X x) (hm:X.mg x=some u) (r:RelV v u) (hd:(x == ("__debug__":Str))=false:=by decide):PE X (.Name x pos) (tC v):=
  fun _ _ _ H _ I h=>ld_glob I hg hm ⟨v,H,I,r,h⟩ hd
theorem pe_bltn {x:Str} {v:V} {u:Value} {pos:Pos} (hg:Gl X x) (hm:X.mg x=none) (hv:bootBuiltins x=some u) (r:RelV v u) (hn:x≠"__name__":=by decide) (hd:(x == ("__debug__":Str))=false:=by decide):PE X (.Name x pos) (tC v):=
  fun _ _ _ H _ I h=>ld_blt I hg hm hv ⟨v,H,I,r,h⟩ hn hd
def t2I (ta tb:TE) (k:Int→Int→Hp→Prop):St→Hp→Prop:=fun σ H=>ta σ H fun x H1=>tb σ H1 fun y H2=>∃ i j,x=.int i∧y=.int j∧k i j H2
def tAdd (ta tb:TE):TE:=fun σ H Q=>t2I ta tb (fun i j H2=>Q (.int (i + j)) H2) σ H
def tSub (ta tb:TE):TE:=fun σ H Q=>t2I ta tb (fun i j H2=>Q (.int (i - j)) H2) σ H
def tMul (ta tb:TE):TE:=fun σ H Q=>t2I ta tb (fun i j H2=>(-(2 ^ 64) < i∧i < 2 ^ 64)∧Q (.int (i * j)) H2) σ H
variable {a b:Expr} {ta tb:TE} {pos:Pos}
def PC (X:Cx) (op:CmpOp) (a b:Expr) (t:TE):Prop:=
  ∀ (pins:List (Addr×Obj)) (s:Shared) (σ:St) (H:Hp) (Q:VK),Inv X pins σ H s→t σ H Q →
    wpAny (model X.prog X.w) X.A (eval a X.env) (fun v s₁=>wpAny (model X.prog X.w) X.A (eval b X.env) (fun u s₂=>wpAny (model X.prog X.w) X.A (compareOp op v u) (EP X pins σ Q) X.xe s₂) X.xe s₁) X.xe s
theorem nobehind (b:Expr) {op:CmpOp} (h:op≠.In) (h2:op≠.NotIn):behindInMarks op b=false:=by
  have e1:(op == CmpOp.In)=false:=by cases op <;> first | rfl | exact absurd rfl h
  have e2:(op == CmpOp.NotIn)=false:=by cases op <;> first | rfl | exact absurd rfl h2
  cases b <;> simp [behindInMarks,e1,e2]
def tCmp (p:Int→Int→Bool) (ta tb:TE):TE:=fun σ H Q=>t2I ta tb (fun i j H2=>Q (.bl (p i j)) H2) σ H
abbrev tLt:TE→TE→TE:=tCmp fun i j=>decide (i < j)
abbrev tLe:TE→TE→TE:=tCmp fun i j=>decide (i≤j)
abbrev tGt:TE→TE→TE:=tCmp fun i j=>decide (j < i)
abbrev tGe:TE→TE→TE:=tCmp fun i j=>decide (j≤i)
abbrev tEqI:TE→TE→TE:=tCmp fun i j=>decide (i=j)
abbrev tNeI:TE→TE→TE:=tCmp fun i j=>!decide (i=j)
def tIsN (ta:TE):TE:=fun σ H Q=>ta σ H fun x H1=>Q (.bl (decide (x=.non))) H1
def tNotN (ta:TE):TE:=fun σ H Q=>ta σ H fun x H1=>Q (.bl (!decide (x=.non))) H1
theorem RelV.none_iff {x:V} {v:Value} (r:RelV x v):(v == Value.none)=decide (x=.non):=by
  cases x with
  | non=>cases r; rfl
  | bl _=>cases r; rfl
  | int _=>obtain ⟨t,rfl⟩:=r; rfl
  | str _=>obtain ⟨t,rfl⟩:=r; rfl
  | byt _=>obtain ⟨t,rfl⟩:=r; rfl
  | flt _=>obtain ⟨t,rfl⟩:=r; rfl
  | ref _=>cases r; rfl
  | ty _=>cases r; rfl
theorem pc_notN {j pos'} (ha:PE X a ta):PC X .IsNot a (.Constant .none j pos') (tNotN ta):=by
  intro pins s σ H Q I h
  refine thn (ha pins s σ H _ I h) fun v s1 ⟨x,H1,I1,r1,q1⟩=>?_
  exact Constant_none (isnot_none_gen ⟨.bl _,H1,I1,by rw [r1.none_iff]; rfl,q1⟩)
def tB (t:TE):TT:=fun σ H Q=>t σ H fun x H1=>∃ c,x=.bl c∧Q c H1
theorem pe_cmp {op:CmpOp} {t:TE} (h:PC X op a b t) (h1:behindInMarks op b=false:=by first | exact nobehind _ (by decide) (by decide) | rfl):PE X (.Compare a [op] [b] pos) t:=fun pins s σ H Q I hw=>wpAny_Compare1 (h pins s σ H Q I hw) h1
theorem pt_cmp {op:CmpOp} {t:TE} (h:PC X op a b t) (h1:behindInMarks op b=false:=by first | exact nobehind _ (by decide) (by decide) | rfl):PT X (.Compare a [op] [b] pos) (tB t):=by
  intro pins s σ H Q I hw
  refine wpAny_isTrue_Compare1 (thn (h pins s σ H _ I hw) fun v s1 h1=>thn h1 fun u s2 h2=>thn h2 fun c s3 ⟨x,H1,I1,r1,q1⟩=>?_) h1
  obtain ⟨d,rfl,q⟩:=q1
  cases r1
  exact wpAny_truthy_bool ⟨H1,I1,q⟩
theorem pt_val {e:Expr} {t:TE} (h:PE X e t) (he:∀ whole,isTrue e X.env whole=(do let v ← whole; standAt e.pos; holding [v] (truthy v)):=by intro _; rfl):PT X e (tB t):=by
  intro pins s σ H Q I hw
  refine isTrue_plain (thn (h pins s σ H _ I hw) fun v s1 ⟨x,H1,I1,r1,q1⟩=>?_) (he _)
  obtain ⟨d,rfl,q⟩:=q1
  cases r1
  exact wpAny_truthy_bool ⟨H1,I1,q⟩
variable {tA tB':TT} {rest:List Expr}
def tAnd (t u:TT):TT:=fun σ H Q=>t σ H fun c H1=>if c=true then u σ H1 Q else Q false H1
def tOr (t u:TT):TT:=fun σ H Q=>t σ H fun c H1=>if c=true then Q true H1 else u σ H1 Q
def tNot (t:TT):TT:=fun σ H Q=>t σ H fun c H1=>Q (!c) H1
theorem pw_and1 (ha:PT X a tA):PW X (.BoolOp .And [a] pos) tA:=by
  intro wh pins s σ H Q I h
  refine isTrue_and (thn (ha pins s σ H Q I h) fun c s1 e=>?_)
  cases c with
  | true=>exact isTrue_and_nil e
  | false=>exact e
theorem pw_or1 (ha:PT X a tA):PW X (.BoolOp .Or [a] pos) tA:=by
  intro wh pins s σ H Q I h
  refine isTrue_or (thn (ha pins s σ H Q I h) fun c s1 e=>?_)
  cases c with
  | false=>exact isTrue_or_nil e
  | true=>exact e
theorem pw_and (ha:PT X a tA) (hb:PW X (.BoolOp .And (b :: rest) pos) tB'):PW X (.BoolOp .And (a :: b :: rest) pos) (tAnd tA tB'):=by
  intro wh pins s σ H Q I h
  refine isTrue_and (thn (ha pins s σ H _ I h) fun c s1 ⟨H1,I1,q1⟩=>?_)
  cases c with
  | true=>exact hb wh pins s1 σ H1 Q I1 q1
  | false=>exact ⟨H1,I1,q1⟩
theorem pw_or (ha:PT X a tA) (hb:PW X (.BoolOp .Or (b :: rest) pos) tB'):PW X (.BoolOp .Or (a :: b :: rest) pos) (tOr tA tB'):=by
  intro wh pins s σ H Q I h
  refine isTrue_or (thn (ha pins s σ H _ I h) fun c s1 ⟨H1,I1,q1⟩=>?_)
  cases c with
  | true=>exact ⟨H1,I1,q1⟩
  | false=>exact hb wh pins s1 σ H1 Q I1 q1
theorem pt_not (ha:PT X a tA):PT X (.UnaryOp .Not a pos) (tNot tA):=by
  intro pins s σ H Q I h
  exact isTrue_not (ha pins s σ H (fun c H1=>Q (!c) H1) I h)
def tAndV (ta tb:TE):TE:=fun σ H Q=>ta σ H fun x H1=>∃ c,x=.bl c∧if c=true then tb σ H1 Q else Q (.bl false) H1
def tOrV (ta tb:TE):TE:=fun σ H Q=>ta σ H fun x H1=>∃ c,x=.bl c∧if c=true then Q (.bl true) H1 else tb σ H1 Q
def tNotV (ta:TE):TE:=fun σ H Q=>ta σ H fun x H1=>∃ c,x=.bl c∧Q (.bl (!c)) H1
theorem pe_one {op} {t:TE} (h:PE X a t):PE X (.BoolOp op [a] pos) t:=fun pins s σ H Q I hw=>BoolOp_one (h pins s σ H Q I hw)
theorem pe_and (ha:PE X a ta) (hb:PE X (.BoolOp .And (b :: rest) pos) tb):PE X (.BoolOp .And (a :: b :: rest) pos) (tAndV ta tb):=by
  intro pins s σ H Q I h
  refine BoolOp_and (thn (ha pins s σ H _ I h) fun v s1 ⟨x,H1,I1,r1,q1⟩=>?_)
  obtain ⟨c,rfl,q1⟩:=q1
  cases r1
  refine wpAny_truthy_bool ?_
  cases c with
  | true=>exact hb pins s1 σ H1 Q I1 q1
  | false=>exact ⟨.bl false,H1,I1,rfl,q1⟩
def tIf (t:TT) (ta tb:TE):TE:=fun σ H Q=>t σ H fun c H1=>if c=true then ta σ H1 Q else tb σ H1 Q
theorem pe_ifExp {c:Expr} (hc:PT X c tA) (ha:PE X a ta) (hb:PE X b tb):PE X (.IfExp c a b pos) (tIf tA ta tb):=by
  intro pins s σ H Q I h
  refine wpAny_IfExp (thn (hc pins s σ H _ I h) fun d s1 ⟨H1,I1,q1⟩=>?_)
  cases d with
  | true=>exact ha pins s1 σ H1 Q I1 q1
  | false=>exact hb pins s1 σ H1 Q I1 q1
end
end L2
namespace L2
open PySem PySem.Spec PyProof.Rows
def SqL (K:PySem.W.Frag) (H:Hp) (a:Addr) (xs:List V):Prop:=
  Rd H a (.lst xs) ∨
    ∃ (o:Obj) (its:Array Value) (n:Nat),K.lookup a=some o∧o.cls=.type "list"∧o.dict=none∧o.data=.seq its n∧its.size≤sizeLine∧Vals xs its.toList
def SqT (K:PySem.W.Frag) (H:Hp) (a:Addr) (xs:List V):Prop:=
  Rd H a (.tup xs) ∨
    ∃ (o:Obj) (its:Array Value) (n:Nat),K.lookup a=some o∧o.cls=.type "tuple"∧o.data=.seq its n∧its.size≤sizeLine∧Vals xs its.toList
def absV:Value→Option V
  | .none=>some .non
  | .bool b=>some (.bl b)
  | .int i _=>some (.int i)
  | .str x _=>some (.str x)
  | .bytes b _=>some (.byt b)
  | .float b _=>some (.flt b)
  | .ref a=>some (.ref a)
  | .type n=>some (.ty n)
  | _=>none
theorem RelV.abs {x:V} {u:Value} (r:RelV x u):absV u=some x:=by
  cases x with
  | non=>cases r; rfl
  | bl _=>cases r; rfl
  | int _=>obtain ⟨t,rfl⟩:=r; rfl
  | str _=>obtain ⟨t,rfl⟩:=r; rfl
  | byt _=>obtain ⟨t,rfl⟩:=r; rfl
  | flt _=>obtain ⟨t,rfl⟩:=r; rfl
  | ref _=>cases r; rfl
  | ty _=>cases r; rfl
theorem RelV.inj {x y:V} {u:Value} (r:RelV x u) (q:RelV y u):x=y:=Option.some.inj (r.abs.symm.trans q.abs)
theorem Vals.inj:∀ {xs ys:List V} {us:List Value},Vals xs us→Vals ys us→xs=ys
  | _,_,_,.nil,.nil=>rfl
  | _,_,_,.cons r t,.cons r' t'=>by rw [r.inj r',Vals.inj t t']
section
variable {X:Cx} {pins:List (Addr×Obj)} {σ:St} {H:Hp} {s:Shared} {a:Addr} {xs ys:List V}
theorem SqL.of {K:PySem.W.Frag} (h:H a=some (.lst xs)):SqL K H a xs:=.inl (.inl h)
theorem SqT.of {K:PySem.W.Frag} (h:H a=some (.tup xs)):SqT K H a xs:=.inl (.inl h)
theorem Inv.list (I:Inv X pins σ H s) (h:SqL X.K H a xs):∃ its:List Value,Vals xs its∧PlainL s.heap a its.toArray∧xs.length≤sizeLine:=by
  rcases h with h | ⟨o,its,n,hk,hc,hd,hs,hz,r⟩
  · obtain ⟨z,its,n,r,e⟩:=h.ok I.hok
    exact ⟨its,r,⟨_,n,e,rfl,rfl,rfl⟩,z⟩
  · refine ⟨its.toList,r,⟨o,n,I.kIn a o hk,hc,hd,by simpa using hs⟩,?_⟩
    have e:=r.length
    simp only [Array.length_toList] at e
    omega
theorem Inv.tuple (I:Inv X pins σ H s) (h:SqT X.K H a xs):∃ its:List Value,Vals xs its∧IsTup s.heap a its.toArray∧xs.length≤sizeLine:=by
  rcases h with h | ⟨o,its,n,hk,hc,hs,hz,r⟩
  · obtain ⟨z,its,r,p⟩:=h.ok I.hok
    exact ⟨its,r,p,z⟩
  · refine ⟨its.toList,r,⟨o,I.kIn a o hk,hc,n,by simpa using hs⟩,?_⟩
    have e:=r.length
    simp only [Array.length_toList] at e
    omega
theorem Inv.list_inj (I:Inv X pins σ H s) (h:SqL X.K H a xs) (h':SqL X.K H a ys):xs=ys:=by
  obtain ⟨its,r,⟨o,n,e,_,_,d⟩,_⟩:=I.list h
  obtain ⟨its',r',⟨o',n',e',_,_,d'⟩,_⟩:=I.list h'
  rw [e] at e'; cases e'
  rw [d] at d'
  injection d' with d1 _
  have:its=its':=by simpa using congrArg Array.toList d1
  subst this
  exact r.inj r'
theorem Inv.tuple_inj (I:Inv X pins σ H s) (h:SqT X.K H a xs) (h':SqT X.K H a ys):xs=ys:=by
  obtain ⟨its,r,⟨o,e,_,n,d⟩,_⟩:=I.tuple h
  obtain ⟨its',r',⟨o',e',_,n',d'⟩,_⟩:=I.tuple h'
  rw [e] at e'; cases e'
  rw [d] at d'
  injection d' with d1 _
  have:its=its':=by simpa using congrArg Array.toList d1
  subst this
  exact r.inj r'
end
abbrev Cx.wish (X:Cx) (E:Value→Shared→Prop):Cx:={X with xe:=E}
abbrev Cx.nox (X:Cx):Cx:=X.wish fun _ _=>False
theorem Cx.Ok.wish {X:Cx} (ok:X.Ok) (E:Value→Shared→Prop):(X.wish E).Ok:=
  ⟨ok.mod,ok.kind,ok.glob,ok.blt,ok.above,ok.inj,ok.has,ok.cab,ok.hd,ok.frames,ok.stk,ok.exf,ok.bs,ok.bsz,ok.noex,ok.exfs,ok.funs,ok.frf⟩
theorem Cx.Ok.unwish {X:Cx} {E:Value→Shared→Prop} (ok:(X.wish E).Ok):X.Ok:=
  ⟨ok.mod,ok.kind,ok.glob,ok.blt,ok.above,ok.inj,ok.has,ok.cab,ok.hd,ok.frames,ok.stk,ok.exf,ok.bs,ok.bsz,ok.noex,ok.exfs,ok.funs,ok.frf⟩
section
variable {X:Cx} {pins:List (Addr×Obj)} {σ:St} {H:Hp} {s:Shared} {E:Value→Shared→Prop}
theorem Inv.wish (I:Inv X pins σ H s) (E:Value→Shared→Prop):Inv (X.wish E) pins σ H s:=⟨I.ok.wish E,I.os,I.bare,I.base,I.loc,I.cell,I.free,I.freeC,I.pin,I.hok,I.len⟩
theorem Inv.unwish (I:Inv (X.wish E) pins σ H s):Inv X pins σ H s:=⟨I.ok.unwish,I.os,I.bare,I.base,I.loc,I.cell,I.free,I.freeC,I.pin,I.hok,I.len⟩
theorem SP.unwish {D:Ends} {f:Flow} {s':Shared} (h:SP (X.wish E) pins D f s'):SP X pins D f s':=by
  cases f with
  | next=>obtain ⟨σ',H',I,q⟩:=h; exact ⟨σ',H',I.unwish,q⟩
  | brk=>obtain ⟨σ',H',I,q⟩:=h; exact ⟨σ',H',I.unwish,q⟩
  | cont=>obtain ⟨σ',H',I,q⟩:=h; exact ⟨σ',H',I.unwish,q⟩
  | ret u=>obtain ⟨v,σ',H',I,r,q⟩:=h; exact ⟨v,σ',H',I.unwish,r,q⟩
theorem PSs.nox {st:List Stmt} {t:TS} (h:PSs X.nox st t):PSs X st t:=fun pins s σ H D I hw =>
  wpAny_mono (h pins s σ H D (I.wish _) hw) (fun _ _ q=>q.unwish) fun _ _ z=>False.elim z
end
section
variable {X:Cx} {st:Stmt} {rest:List Stmt} {t u:TS} {e:Expr} {te:TE} {pos:Pos}
def tNext:TS:=fun D σ H=>D.nx σ H
def tSeq (t u:TS):TS:=fun D σ H=>t {D with nx:=u D} σ H
theorem pss_nil:PSs X [] tNext:=fun _ _ σ H _ I h=>wpAny_execs_nil ⟨σ,H,I,h⟩
theorem pss_cons (h1:PS X st t) (h2:PSs X rest u):PSs X (st :: rest) (tSeq t u):=by
  intro pins s σ H D I h
  refine wpAny_execs_cons (thn (h1 pins s σ H {D with nx:=u D} I h) fun f s1 q=>?_)
  cases f with
  | next =>
    obtain ⟨σ',H',I',q⟩:=q
    exact h2 pins s1 σ' H' D I' q
  | ret v=>exact q
  | brk=>exact q
  | cont=>exact q
theorem pss_one (h1:PS X st t):PSs X [st] t:=by
  intro pins s σ H D I h
  refine wpAny_execs_cons (thn (h1 pins s σ H D I h) fun f s1 q=>?_)
  cases f with
  | next=>exact wpAny_execs_nil q
  | ret v=>exact q
  | brk=>exact q
  | cont=>exact q
def tBreak:TS:=fun D σ H=>D.bk σ H
def tCont:TS:=fun D σ H=>D.ct σ H
theorem Inv.quiet {pins:List (Addr×Obj)} {σ:St} {H:Hp} {s:Shared} (I:Inv X pins σ H s):interactive X.env=false:=by simp [interactive,I.ok.kind]
def tDrop (te:TE):TS:=fun D σ H=>te σ H fun _ H1=>D.nx σ H1
theorem ps_expr (he:PE X e te) (hs:swapsWith e none pos.line X.env=pure false:=by rfl):PS X (.Expr e pos) (tDrop te):=by
  intro pins s σ H D I h
  exact wpAny_Expr_any (thn (he pins s σ H _ I h) fun v s1 ⟨x,H1,I1,r1,q1⟩=>⟨σ,H1,I1,q1⟩) I.quiet hs
def tRet (te:TE):TS:=fun D σ H=>te σ H D.rt
theorem ps_ret (he:PE X e te):PS X (.Return (some e) pos) (tRet te):=by
  intro pins s σ H D I h
  exact wpAny_Return_some (thn (he pins s σ H _ I h) fun v s1 ⟨x,H1,I1,r1,q1⟩=>⟨x,σ,H1,I1,r1,q1⟩)
def tRetN:TS:=fun D _ H=>D.rt .non H
def tIfS (c:TT) (t u:TS):TS:=fun D σ H=>c σ H fun b H1=>if b=true then t D σ H1 else u D σ H1
theorem ps_if {c:Expr} {a b:List Stmt} {tc:TT} (hc:PT X c tc) (ha:PSs X a t) (hb:PSs X b u):PS X (.If c a b pos) (tIfS tc t u):=by
  intro pins s σ H D I h
  refine wpAny_If (thn (hc pins s σ H _ I h) fun d s1 ⟨H1,I1,q1⟩=>?_)
  cases d with
  | true=>exact ha pins s1 σ H1 D I1 q1
  | false=>exact hb pins s1 σ H1 D I1 q1
def tNever:TS:=fun _ _ _=>False
theorem pss_never {sts:List Stmt}:PSs X sts tNever:=fun _ _ _ _ _ _ h=>h.elim
end
abbrev TG:=V→St→Hp→(St→Hp→Prop)→Prop
abbrev TGs:=List V→St→Hp→(St→Hp→Prop)→Prop
def PG (X:Cx) (target:Expr) (t:TG):Prop:=
  ∀ (pins:List (Addr×Obj)) (s:Shared) (σ:St) (H:Hp) (v:V) (u:Value) (Q:St→Hp→Prop),Inv X pins σ H s→RelV v u→t v σ H Q →
    wpAny (model X.prog X.w) X.A (assign target X.env u) (fun _ s'=>∃ σ' H',Inv X pins σ' H' s'∧Q σ' H') X.xe s
def PGs (X:Cx) (ts:List Expr) (t:TGs):Prop:=
  ∀ (pins:List (Addr×Obj)) (s:Shared) (σ:St) (H:Hp) (vs:List V) (us:List Value) (Q:St→Hp→Prop),Inv X pins σ H s→Vals vs us→t vs σ H Q →
    wpAny (model X.prog X.w) X.A (assignInOrder ((assignEach ts X.env).map (·.2)) us) (fun _ s'=>∃ σ' H',Inv X pins σ' H' s'∧Q σ' H') X.xe s
abbrev TSet:=V→V→V→Hp→(Hp→Prop)→Prop
def PSet (X:Cx) (t:TSet):Prop:=
  ∀ (pins:List (Addr×Obj)) (s:Shared) (σ:St) (H:Hp) (o i v:V) (ov iv u:Value) (Q:Hp→Prop),Inv X pins σ H s→RelV o ov→RelV i iv→RelV v u→t o i v H Q →
    wpAny (model X.prog X.w) X.A (setItem ov iv u) (fun _ s'=>∃ H',Inv X pins σ H' s'∧Q H') X.xe s
abbrev TIp:=V→V→Hp→VK→Prop
def PIp (X:Cx) (op:Operator) (t:TIp):Prop:=
  ∀ (pins:List (Addr×Obj)) (s:Shared) (σ:St) (H:Hp) (x y:V) (v u:Value) (Q:VK),Inv X pins σ H s→RelV x v→RelV y u→t x y H Q →
    wpAny (model X.prog X.w) X.A (inplaceOp op v u) (EP X pins σ Q) X.xe s
section
variable {X:Cx} {pos:Pos}
def gName (i:Nat):TG:=fun v σ H Q=>Q (σ.set i (some v)) H
theorem pg_name {i:Nat} {x:Str} (hN:X.N.Nodup) (hi:X.N[i]?=some x) (hx:Loc X.env.scope x) (hf:X.fn x=true∨X.env.scope.names.lookup x=some .local:=by first | exact .inl rfl | exact .inr rfl | assumption):PG X (.Name x pos) (gName i):=by
  intro pins s σ H v u Q I r h
  exact wpAny_assign_Name (store_ok I hN hi hx r (fun s' I'=>⟨_,H,I',h⟩) hf)
def gNil:TGs:=fun vs σ H Q=>vs=[]∧Q σ H
def gCons (t:TG) (u:TGs):TGs:=fun vs σ H Q=>∃ v r,vs=v :: r∧t v σ H fun σ' H'=>u r σ' H' Q
theorem pgs_nil:PGs X [] gNil:=by
  intro pins s σ H vs us Q I r h
  obtain ⟨e,h⟩:=h
  subst e
  cases r
  exact assignInOrder_nil ⟨σ,H,I,h⟩
theorem pgs_cons {e:Expr} {es:List Expr} {t:TG} {u:TGs} (h1:PG X e t) (h2:PGs X es u)
    (hs:(assignEach (e :: es) X.env).map (·.2)=assign e X.env :: (assignEach es X.env).map (·.2):=by rfl):PGs X (e :: es) (gCons t u):=by
  intro pins s σ H vs us Q I r h
  obtain ⟨v,vr,e1,h⟩:=h
  subst e1
  cases r with
  | cons r rr =>
    rw [hs]
    refine assignInOrder_cons (thn (h1 pins s σ H _ _ _ I r h) fun _ s1 ⟨σ1,H1,I1,q1⟩=>?_)
    exact h2 pins s1 σ1 H1 _ _ Q I1 rr q1
def gTup (K:PySem.W.Frag) (n:Nat) (t:TGs):TG:=fun v σ H Q=>∃ a xs,v=.ref a∧SqT K H a xs∧xs.length=n∧t xs σ H Q
theorem pg_tup {es:List Expr} {k:Nat} {t:TGs} {n:Nat} (hc:X.calm=true) (h:PGs X es t)
    (hn:(assignEach es X.env).length=n:=by rfl) (hst:(assignEach es X.env).findIdx? (·.1)=none:=by rfl):PG X (.Tuple es k pos) (gTup X.K n t):=by
  intro pins s σ H v u Q I r hw
  obtain ⟨a,xs,e1,hq,hl,hw⟩:=hw
  subst e1
  cases r
  obtain ⟨its,rv,ht,hz⟩:=I.tuple hq
  refine assign_Tuple_tuple (I.ok.hd hc) ht (by simp [hn,← hl,rv.length]) hst fun h' hx=>?_
  have I1:Inv X pins σ H {s with heap:=h'}:=I.kept (t':=s.toks) fun b o e=>hx b o (Nat.ne_of_lt (Heap.lt_size e)) e
  exact h pins _ σ H xs _ Q I1 (by simpa using rv) hw
def gSub (to ti:TE) (t:TSet):TG:=fun v σ H Q=>to σ H fun o H1=>ti σ H1 fun i H2=>t o i v H2 fun H3=>Q σ H3
theorem pg_sub {o i:Expr} {to ti:TE} {t:TSet} (ho:PE X o to) (hi:PE X i ti) (hs:PSet X t)
    (ha:∀ v,assign (.Subscript o i pos) X.env v=(do
      let ov ← holding [v] (eval o X.env)
      let iv ← holding [v,ov] (eval i X.env)
      standAt pos
      holding [v,ov,iv] (setItem ov iv v)
      release [v,ov,iv] []):=by intro _; rfl):PG X (.Subscript o i pos) (gSub to ti t):=by
  intro pins s σ H v u Q I r h
  rw [ha]
  refine wpAny_bind (wpAny_holding (thn (ho pins s σ H _ I h) fun ov s1 ⟨x,H1,I1,r1,q1⟩=>?_))
  refine wpAny_bind (wpAny_holding (thn (hi pins s1 σ H1 _ I1 q1) fun iv s2 ⟨y,H2,I2,r2,q2⟩=>?_))
  refine wpAny_bind (wpAny_standAt (wpAny_bind (wpAny_holding (thn (hs pins s2 σ H2 x y v ov iv u _ I2 r1 r2 r q2) fun _ s3 ⟨H3,I3,q3⟩=>?_))))
  exact wpAny_release ⟨σ,H3,I3,q3⟩
def tAsg (te:TE) (g:TG):TS:=fun D σ H=>te σ H fun x H1=>g x σ H1 D.nx
theorem ps_asg {tg e:Expr} {te:TE} {g:TG} (he:PE X e te) (hg:PG X tg g) (hs:swapsWithSole [tg] e pos.line X.env=pure false:=by rfl) (hw:swappedStores [tg] e X.env=pure none:=by rfl)
    (h1:(assignEach [tg] X.env).map (·.2)=[assign tg X.env]:=by rfl):PS X (.Assign [tg] e pos) (tAsg te g):=by
  intro pins s σ H D I h
  refine wpAny_Assign_stores (thn (he pins s σ H _ I h) fun v s1 ⟨x,H1,I1,r1,q1⟩=>?_) hs hw
  rw [h1]
  exact thn (hg pins s1 σ H1 x v _ I1 r1 q1) fun _ s2 q=>q
theorem ps_set {i:Nat} {x:Str} {e:Expr} {te:TE} {pos':Pos} (hN:X.N.Nodup) (hi:X.N[i]?=some x) (hx:Loc X.env.scope x) (he:PE X e te) (hs:swapsWith e (some (.Name x pos')) pos.line X.env=pure false:=by rfl) (hf:X.fn x=true∨X.env.scope.names.lookup x=some .local:=by first | exact .inl rfl | exact .inr rfl | assumption) :
    PS X (.Assign [.Name x pos'] e pos) (tAsg te (gName i)):=by
  intro pins s σ H D I h
  refine wpAny_Assign_Name (thn (he pins s σ H _ I h) fun v s1 ⟨y,H1,I1,r1,q1⟩=>?_) hs
  exact store_ok I1 hN hi hx r1 (fun s2 I2=>⟨_,H1,I2,q1⟩) hf
def tPar (i j:Nat) (ta:TA):TS:=fun D σ H=>ta σ H fun vs H1=>∃ v w,vs=[v,w]∧D.nx ((σ.set i (some v)).set j (some w)) H1
def tAug (i:Nat) (te:TE) (ti:TIp):TS:=fun D σ H=>∃ x,σ[i]?=some (some x)∧te σ H fun y H1=>ti x y H1 fun z H2=>D.nx (σ.set i (some z)) H2
def tAugS (to ti te:TE) (tget:V→V→Hp→VK→Prop) (tip:TIp) (tset:TSet):TS:=fun D σ H=>to σ H fun o H1=>ti σ H1 fun i H2=>tget o i H2 fun x H3=>te σ H3 fun y H4=>tip x y H4 fun z H5=>tset o i z H5 fun H6=>D.nx σ H6
def PGet (X:Cx) (t:V→V→Hp→VK→Prop):Prop:=
  ∀ (pins:List (Addr×Obj)) (s:Shared) (σ:St) (H:Hp) (o i:V) (ov iv:Value) (Q:VK),Inv X pins σ H s→RelV o ov→RelV i iv→t o i H Q →
    wpAny (model X.prog X.w) X.A (getItem ov iv) (EP X pins σ Q) X.xe s
def ipI (f:Int→Int→Int):TIp:=fun x y H Q=>∃ i j,x=.int i∧y=.int j∧Q (.int (f i j)) H
end
section
variable {X:Cx} {pos:Pos}
def tWhile (c:TT) (tb:TS):TS:=fun D σ H=>∃ W:Nat→St→Hp→Prop,(∃ m,W m σ H)∧∀ m σ H,W m σ H →
  c σ H fun b H1=>if b=true then ∃ N:St→Hp→Prop,(∀ σ' H',N σ' H'→∃ m',m' < m∧W m' σ' H')∧tb {D with nx:=N,ct:=N,bk:=D.nx} σ H1 else D.nx σ H1
theorem ps_while {c:Expr} {body:List Stmt} {tc:TT} {tb:TS} (hp:PassesOwn (model X.prog X.w) X.A X.env X.xe) (hc:PT X c tc) (hb:PSs X body tb):PS X (.While c body [] pos) (tWhile tc tb):=by
  intro pins s σ H D I h
  obtain ⟨W,⟨m0,w0⟩,turn⟩:=h
  refine wpAny_While (codeAny_whileLoop (fun n s'=>∃ σ' H',Inv X pins σ' H' s'∧W n σ' H') ?_ m0 ⟨σ,H,I,w0⟩)
  rintro n s1 ⟨σ1,H1,I1,w1⟩
  refine wpAny_passesOwn hp (thn (hc pins s1 σ1 H1 _ I1 (turn n σ1 H1 w1)) fun b s2 ⟨H2,I2,q2⟩=>?_)
  cases b with
  | true =>
    obtain ⟨N,hN,q2⟩:=q2
    rw [if_pos rfl]
    refine wpAny_passesOwn hp (thn (hb pins s2 σ1 H2 _ I2 q2) fun f s3 q3=>?_)
    cases f with
    | next =>
      obtain ⟨σ3,H3,I3,n3⟩:=q3
      obtain ⟨m',hm,w3⟩:=hN σ3 H3 n3
      exact ⟨m',hm,σ3,H3,I3,w3⟩
    | cont =>
      obtain ⟨σ3,H3,I3,n3⟩:=q3
      obtain ⟨m',hm,w3⟩:=hN σ3 H3 n3
      exact ⟨m',hm,σ3,H3,I3,w3⟩
    | brk=>exact q3
    | ret v=>exact q3
  | false =>
    rw [if_neg Bool.false_ne_true]
    exact wpAny_execs_nil ⟨σ1,H2,I2,q2⟩
end
structure It where
  go:Nat→Hp→Prop
  yld:Nat→Hp→V→Hp→Prop
  stop:Nat→Hp→Prop
def FpOk (X:Cx) (pins:List (Addr×Obj)) (H:Hp) (b:Addr):Prop:=
  H b=none∧b≠X.env.locals∧b∉X.fs∧(b∈X.ex∨X.s₀.heap.objs.size≤b)∧(∀ x c,X.env.cells.lookup x=some c→c≠b)∧∀ p∈X.pn++pins,p.1≠b
theorem Inv.fpOk {X:Cx} {pins:List (Addr×Obj)} {σ:St} {H H':Hp} {s:Shared} {b:Addr} (I:Inv X pins σ H s) (hb:s.heap.objs.size≤b) (hn:H' b=none):FpOk X pins H' b:=by
  refine ⟨hn,Nat.ne_of_gt (Nat.lt_of_lt_of_le I.lt hb),I.nofs hb,.inr (Nat.le_trans I.sz hb),fun x c e z=>?_,fun p hp z=>?_⟩
  · obtain ⟨v,q⟩:=I.cell x c e
    exact absurd (Nat.lt_of_lt_of_le q.lt (by rw [z]; exact hb)) (Nat.lt_irrefl _)
  · exact absurd (Nat.lt_of_lt_of_le (Heap.lt_size (I.pin p hp).1) (by rw [z]; exact hb)) (Nat.lt_irrefl _)
structure Turn (P:Program) (w:World) (K:PySem.W.Frag) (tg:Expr) (J:It) (fp:List Addr) (it:Addr) (tn:Nat→Heap→Prop):Prop where
  mem:it∈fp
  obj:∀ i h,tn i h→∀ b∈fp,∃ o,h.get? b=some o∧∀ v,o.data≠.cell v
  keep:∀ i h h',tn i h→(∀ b∈fp,∀ o,h.get? b=some o→h'.get? b=some o)→tn i h'
  item:∀ (X:Cx),X.prog=P→X.w=w→X.K=K→X.calm=true→∀ (i:Nat) (pins:List (Addr×Obj)) (s:Shared) (σ:St) (H:Hp) (E:Value→Shared→Prop),Inv X pins σ H s→(∀ b∈fp,FpOk X pins H b)→tn i s.heap→J.go i H →
    wpAny (model P w) X.A (pyNext (.ref it)) (fun r s1=>∃ u,r=some u ∧
      wpAny (model P w) X.A (letOwnedTupleGo tg (.ref it) u) (fun _ s2=>∃ x H',Inv X pins σ H' s2∧RelV x u∧J.yld i H x H'∧tn (i + 1) s2.heap∧∀ b∈fp,H' b=none) E s1) E s
  done:∀ (X:Cx),X.prog=P→X.w=w→X.K=K→X.calm=true→∀ (i:Nat) (pins:List (Addr×Obj)) (s:Shared) (σ:St) (H:Hp) (E:Value→Shared→Prop),Inv X pins σ H s→(∀ b∈fp,FpOk X pins H b)→tn i s.heap→J.stop i H →
    wpAny (model P w) X.A (pyNext (.ref it)) (fun r s1=>r=none∧Inv X pins σ H s1) E s
  self:∀ (A:Around) (i:Nat) (s:Shared) (Q:Value→Shared→Prop) (E:Value→Shared→Prop),tn i s.heap→Q (.ref it) s→wpAny (model P w) A (pyIter (.ref it)) Q E s
abbrev TI:=St→Hp→(It→Hp→Prop)→Prop
def PIE (X:Cx) (pins:List (Addr×Obj)) (σ:St) (tg:Expr) (R:It→Hp→Prop) (itv:Value) (s2:Shared):Prop:=
  ∃ (it:Addr) (fp:List Addr) (tn:Nat→Heap→Prop) (J:It) (H':Hp),itv=.ref it∧Inv X pins σ H' s2∧Turn X.prog X.w X.K tg J fp it tn∧tn 0 s2.heap∧(∀ b∈fp,FpOk X pins H' b)∧R J H'
def PI (X:Cx) (tg iter:Expr) (wi:TI):Prop:=
  ∀ (pins:List (Addr×Obj)) (s:Shared) (σ:St) (H:Hp) (R:It→Hp→Prop),Inv X pins σ H s→wi σ H R →
    wpAny (model X.prog X.w) X.A (eval iter X.env) (fun v s1=>wpAny (model X.prog X.w) X.A (pyIter v) (PIE X pins σ tg R) X.xe s1) X.xe s
theorem go_of {M:Model} {A:Around} {E:Value→Shared→Prop} {s:Shared} {tg:Expr} {it:Addr} {u:Value} {o:Obj} {n:String} {vs:Array Value} {Q:Unit→Shared→Prop} (ho:s.heap.get? it=some o) (hc:o.cls=.type n) (hd:o.data=.fields vs)
    (hn:["enumerate","zip","dict_itemiterator","dict_reverseitemiterator","odict_iterator","itertools.zip_longest","itertools.pairwise"].contains n=false) (hQ:Q () s):wpAny M A (letOwnedTupleGo tg (.ref it) u) Q E s:=by
  unfold letOwnedTupleGo
  cases tg <;> first
    | exact wpAny_pure hQ
    | (cases u <;> first
        | exact wpAny_pure hQ
        | (refine wpAny_bind (wpAny_load ho ?_)
           rw [hc,hd]
           show wpAny M A (if (["enumerate","zip","dict_itemiterator","dict_reverseitemiterator","odict_iterator","itertools.zip_longest","itertools.pairwise"].contains n && vs[0]? == some (rawInt _))=true then _ else _) Q E s
           rw [if_neg (by intro h; rw [hn,Bool.false_and] at h; cases h)]
           exact wpAny_pure hQ))
def Itl (K:PySem.W.Frag) (a:Addr):It:=
  ⟨fun i H=>∃ xs x,SqL K H a xs∧xs[i]?=some x,fun i H x H'=>H'=H∧∀ xs,SqL K H a xs→xs[i]?=some x,fun i H=>∃ xs,SqL K H a xs∧xs.length≤i⟩
def Itt (K:PySem.W.Frag) (a:Addr):It:=
  ⟨fun i H=>∃ xs x,SqT K H a xs∧xs[i]?=some x,fun i H x H'=>H'=H∧∀ xs,SqT K H a xs→xs[i]?=some x,fun i H=>∃ xs,SqT K H a xs∧xs.length≤i⟩
def Itr (lo:Int) (n:Nat):It:=⟨fun i _=>i < n,fun i H x H'=>H'=H∧x=.int (lo + i),fun i _=>n≤i⟩
theorem turn_list {P:Program} {w:World} {K:PySem.W.Frag} {tg:Expr} (a it:Addr):Turn P w K tg (Itl K a) [it] it (fun i h=>h.IsListIter it a i) where
  mem:=by simp
  obj:=fun i h st b hb=>by
    have e:b=it:=by simpa using hb
    subst e
    obtain ⟨o,e,c,d⟩:=st
    exact ⟨o,e,fun v z=>by rw [d] at z; cases z⟩
  keep:=fun i h h' st k=>st.at fun o e=>k it (by simp) o e
  item:=by
    intro X hP hw hK hc i pins s σ H E I hf st hg
    subst hP hw hK
    obtain ⟨xs,x,hq,hx⟩:=hg
    obtain ⟨its,rv,p,hz⟩:=I.list hq
    obtain ⟨u,hu,ru⟩:=rv.get hx
    obtain ⟨f0,f1,f2,f3,f4,f5⟩:=hf it (by simp)
    refine wpAny_pyNext_list_item st p.isList (x:=u) (by simpa using hu) fun h' st' sb=>?_
    have I1:Inv X pins σ H {s with heap:=h'}:=I.turned (t':=s.toks) (fun b o hb e=>(sb.2 b hb).trans e) f0 f1 f3 f4 f5
    obtain ⟨o,e,c,d⟩:=id st'
    exact ⟨u,rfl,go_of (s:={s with heap:=h'}) e c d (by decide) ⟨x,H,I1,ru,⟨rfl,fun ys hy=>by rw [I.list_inj hy hq]; exact hx⟩,st',fun b hb=>(hf b hb).1⟩⟩
  done:=by
    intro X hP hw hK hc i pins s σ H E I hf st hg
    subst hP hw hK
    obtain ⟨xs,hq,hx⟩:=hg
    obtain ⟨its,rv,p,hz⟩:=I.list hq
    obtain ⟨f0,f1,f2,f3,f4,f5⟩:=hf it (by simp)
    have hl:=rv.length
    exact wpAny_pyNext_list_end (I.ok.hd hc) st p.isList (by simp; omega) fun h' eb=>⟨rfl,I.turned (t':=s.toks) (fun b o hb e=>eb b o hb e) f0 f1 f3 f4 f5⟩
  self:=fun _ _ _ _ _ st h=>wpAny_pyIter_listiter st h
theorem turn_tuple {P:Program} {w:World} {K:PySem.W.Frag} {tg:Expr} (a it:Addr):Turn P w K tg (Itt K a) [it] it (fun i h=>h.IsTupleIter it a i) where
  mem:=by simp
  obj:=fun i h st b hb=>by
    have e:b=it:=by simpa using hb
    subst e
    obtain ⟨o,e,c,d⟩:=st
    exact ⟨o,e,fun v z=>by rw [d] at z; cases z⟩
  keep:=fun i h h' st k=>st.at fun o e=>k it (by simp) o e
  item:=by
    intro X hP hw hK hc i pins s σ H E I hf st hg
    subst hP hw hK
    obtain ⟨xs,x,hq,hx⟩:=hg
    obtain ⟨its,rv,p,hz⟩:=I.tuple hq
    obtain ⟨u,hu,ru⟩:=rv.get hx
    obtain ⟨f0,f1,f2,f3,f4,f5⟩:=hf it (by simp)
    refine wpAny_pyNext_tuple_item st (show s.heap.IsTuple a its.toArray from p) (x:=u) (by simpa using hu) fun h' st' sb=>?_
    have I1:Inv X pins σ H {s with heap:=h'}:=I.turned (t':=s.toks) (fun b o hb e=>(sb.2 b hb).trans e) f0 f1 f3 f4 f5
    obtain ⟨o,e,c,d⟩:=id st'
    exact ⟨u,rfl,go_of (s:={s with heap:=h'}) e c d (by decide) ⟨x,H,I1,ru,⟨rfl,fun ys hy=>by rw [I.tuple_inj hy hq]; exact hx⟩,st',fun b hb=>(hf b hb).1⟩⟩
  done:=by
    intro X hP hw hK hc i pins s σ H E I hf st hg
    subst hP hw hK
    obtain ⟨xs,hq,hx⟩:=hg
    obtain ⟨its,rv,p,hz⟩:=I.tuple hq
    obtain ⟨f0,f1,f2,f3,f4,f5⟩:=hf it (by simp)
    have hl:=rv.length
    exact wpAny_pyNext_tuple_end (I.ok.hd hc) st (show s.heap.IsTuple a its.toArray from p) (by simp; omega) fun h' eb=>⟨rfl,I.turned (t':=s.toks) (fun b o hb e=>eb b o hb e) f0 f1 f3 f4 f5⟩
  self:=fun _ _ _ _ _ st h=>wpAny_pyIter_tupleiter st h
theorem turn_range {P:Program} {w:World} {K:PySem.W.Frag} {tg:Expr} (it:Addr) (lo:Int) (n:Nat):Turn P w K tg (Itr lo n) [it] it (fun i h=>IsRangeIter h it (lo + (i:Nat) * 1) ((n:Int) - (i:Nat)) 1) where
  mem:=by simp
  obj:=fun i h st b hb=>by
    have e:b=it:=by simpa using hb
    subst e
    exact ⟨_,st,fun v z=>by
      have z':Data.fields _=Data.cell v:=z
      cases z'⟩
  keep:=fun i h h' st k=>k it (by simp) _ st
  item:=by
    intro X hP hw hK hc i pins s σ H E I hf st hg
    subst hP hw hK
    obtain ⟨f0,f1,f2,f3,f4,f5⟩:=hf it (by simp)
    have W:=Walks.range (prog:=X.prog) (w:=X.w) (I.ok.hd hc) it lo 1 n
    refine W.item i s _ _ hg st fun v h' tk hv st' kk=>?_
    obtain ⟨t,rfl⟩:=hv
    have I1:Inv X pins σ H {s with heap:=h',toks:=tk}:=I.turned (fun b o hb e=>kk b o (by simpa using hb) e) f0 f1 f3 f4 f5
    refine ⟨_,rfl,go_of (s:={s with heap:=h',toks:=tk}) (n:="range_iterator") st' rfl rfl (by decide) ⟨.int (lo + i),H,I1,⟨t,?_⟩,⟨rfl,rfl⟩,st',fun b hb=>(hf b hb).1⟩⟩
    rw [Int.mul_one]
  done:=by
    intro X hP hw hK hc i pins s σ H E I hf st hg
    subst hP hw hK
    obtain ⟨f0,f1,f2,f3,f4,f5⟩:=hf it (by simp)
    exact wpAny_pyNext_range_end (I.ok.hd hc) st (by have:n≤i:=hg; omega) fun h' eb=>⟨rfl,I.turned (t':=s.toks) (fun b o hb e=>eb b o hb e) f0 f1 f3 f4 f5⟩
  self:=fun _ _ _ _ _ st h=>wpAny_pyIter_rangeiter st h
end L2
namespace L2
open PySem PySem.Spec PyProof.Rows
section
variable {X:Cx} {tg:Expr}
def iList (K:PySem.W.Frag) (tl:TE):TI:=fun σ H R=>tl σ H fun x H1=>∃ a,x=.ref a∧(∃ xs,SqL K H1 a xs)∧R (Itl K a) H1
def iTup (K:PySem.W.Frag) (tl:TE):TI:=fun σ H R=>tl σ H fun x H1=>∃ a,x=.ref a∧(∃ xs,SqT K H1 a xs)∧R (Itt K a) H1
theorem pi_list {l:Expr} {tl:TE} (hl:PE X l tl):PI X tg l (iList X.K tl):=by
  intro pins s σ H R I h
  refine thn (hl pins s σ H _ I h) fun v s1 ⟨x,H1,I1,r1,q1⟩=>?_
  obtain ⟨a,e,⟨xs,hq⟩,q⟩:=q1
  subst e
  cases r1
  obtain ⟨its,rv,p,hz⟩:=I1.list hq
  refine wpAny_pyIter_list p.isList ?_
  refine ⟨s1.heap.objs.size,[s1.heap.objs.size],_,_,H1,rfl,I1.kept (t':=s1.toks) fun b o e=>Heap.get?_push_of_some _ e,turn_list a _,⟨_,Heap.get?_push_size _ rfl,rfl,rfl⟩,fun b hb=>?_,q⟩
  have e:b=s1.heap.objs.size:=by simpa using hb
  subst e
  exact I1.fpOk (Nat.le_refl _) (I1.hok.fresh (Nat.le_refl _))
theorem pi_tup {l:Expr} {tl:TE} (hl:PE X l tl):PI X tg l (iTup X.K tl):=by
  intro pins s σ H R I h
  refine thn (hl pins s σ H _ I h) fun v s1 ⟨x,H1,I1,r1,q1⟩=>?_
  obtain ⟨a,e,⟨xs,hq⟩,q⟩:=q1
  subst e
  cases r1
  obtain ⟨its,rv,p,hz⟩:=I1.tuple hq
  refine wpAny_pyIter_tuple (show s1.heap.IsTuple a its.toArray from p) ?_
  refine ⟨s1.heap.objs.size,[s1.heap.objs.size],_,_,H1,rfl,I1.kept (t':=s1.toks) fun b o e=>Heap.get?_push_of_some _ e,turn_tuple a _,⟨_,Heap.get?_push_size _ rfl,rfl,rfl⟩,fun b hb=>?_,q⟩
  have e:b=s1.heap.objs.size:=by simpa using hb
  subst e
  exact I1.fpOk (Nat.le_refl _) (I1.hok.fresh (Nat.le_refl _))
theorem range_it {pins:List (Addr×Obj)} {σ:St} {H:Hp} {s:Shared} {R:It→Hp→Prop} {E:Value→Shared→Prop} {lo hi:Int} {t u v:Tok} {tk:Nat} (I:Inv X pins σ H s) (h1:-(2 ^ 62)≤lo) (h2:lo < 2 ^ 62) (h3:-(2 ^ 62)≤hi) (h4:hi < 2 ^ 62)
    (q:R (Itr lo (hi - lo).toNat) H):wpAny (model X.prog X.w) X.A (pyIter (.ref s.heap.objs.size)) (PIE X pins σ tg R) E {s with heap:=s.heap.push {cls:=.type "range",data:=.fields #[.int lo t,.int hi u,.int 1 v]},toks:=tk}:=by
  refine wpAny_pyIter_range (IsRange.new ..) (small_one h1 h2 h3 h4) ?_
  have I1:Inv X pins σ H {s with heap:=s.heap.push {cls:=.type "range",data:=.fields #[.int lo t,.int hi u,.int 1 v]},toks:=tk}:=I.kept fun b o e=>Heap.get?_push_of_some _ e
  refine ⟨(s.heap.push {cls:=.type "range",data:=.fields #[.int lo t,.int hi u,.int 1 v]}).objs.size,[(s.heap.push {cls:=.type "range",data:=.fields #[.int lo t,.int hi u,.int 1 v]}).objs.size],_,_,H,rfl,
    I1.kept (t':=tk) fun b o e=>Heap.get?_push_of_some _ e,turn_range _ lo (hi - lo).toNat,?_,fun b hb=>?_,q⟩
  · have e1:lo + ((0:Nat):Int) * 1=lo:=by simp
    have e2:(((hi - lo).toNat:Nat):Int) - ((0:Nat):Int)=Builtin.Range.rangeSize lo hi 1:=by rw [rangeSize_one]; split <;> omega
    show IsRangeIter _ _ (lo + ((0:Nat):Int) * 1) ((((hi - lo).toNat:Nat):Int) - ((0:Nat):Int)) 1
    rw [e1,e2]
    exact Heap.get?_push_size _ rfl
  · have e:b=(s.heap.push {cls:=.type "range",data:=.fields #[.int lo t,.int hi u,.int 1 v]}).objs.size:=by simpa using hb
    subst e
    exact I1.fpOk (Nat.le_refl _) (I1.hok.fresh (Nat.le_refl _))
def iRng1 (ta:TA):TI:=fun σ H R=>ta σ H fun vs H1=>∃ j:Int,vs=[.int j]∧-(2 ^ 62)≤j∧j < 2 ^ 62∧R (Itr 0 j.toNat) H1
def iRng2 (ta:TA):TI:=fun σ H R=>ta σ H fun vs H1=>∃ i j:Int,vs=[.int i,.int j]∧(-(2 ^ 62)≤i∧i < 2 ^ 62∧-(2 ^ 62)≤j∧j < 2 ^ 62)∧R (Itr i (j - i).toNat) H1
theorem pi_range1 {a:Expr} {ta:TA} {p pos:Pos} (hg:Gl X "range") (hm:X.mg "range"=none) (ha:PA X [a] ta) (hs:starEach [a] X.env=[(false,eval a X.env)]:=by rfl):PI X tg (.Call (.Name "range" p) [a] [] pos) (iRng1 ta):=by
  intro pins s σ H R I h
  refine Call_ (ld_blt I hg hm boot_range (PyProof.Rows.callWith_type1 (thn (ha pos pins s σ H _ I h) fun us s1 ⟨vs,H1,I1,r1,q1⟩=>?_) hs rfl))
  obtain ⟨j,e,q1,q2,q⟩:=q1
  subst e
  cases r1 with
  | cons r rr =>
    cases rr
    obtain ⟨t,rfl⟩:=r
    exact call_range_1 (range_it I1 (by omega) (by omega) q1 q2 (by simpa using q))
def tFor (wi:TI) (g:TG) (tb:TS):TS:=fun D σ H=>wi σ H fun J H1=>∃ W:Nat→Nat→St→Hp→Prop,(∃ m,W 0 m σ H1)∧∀ i m σ H,W i m σ H →
  (J.stop i H∧D.nx σ H)∨(J.go i H∧∃ N:St→Hp→Prop,(∀ σ' H',N σ' H'→∃ m',m' < m∧W (i + 1) m' σ' H')∧∀ x H',J.yld i H x H'→g x σ H' fun σ2 H2=>tb {D with nx:=N,ct:=N,bk:=D.nx} σ2 H2)
def pinsAt (fp:List Addr) (h:Heap):List (Addr×Obj):=fp.filterMap fun b=>(h.get? b).map fun o=>(b,o)
theorem mem_pinsAt {fp:List Addr} {h:Heap} {b:Addr} {o:Obj} (hb:b∈fp) (e:h.get? b=some o):(b,o)∈pinsAt fp h:=List.mem_filterMap.mpr ⟨b,hb,by rw [e]; rfl⟩
theorem of_pinsAt {fp:List Addr} {h:Heap} {p:Addr×Obj} (hp:p∈pinsAt fp h):p.1∈fp∧h.get? p.1=some p.2:=by
  obtain ⟨b,hb,e⟩:=List.mem_filterMap.mp hp
  cases q:h.get? b with
  | none=>rw [q] at e; cases e
  | some o =>
    rw [q] at e
    have e':(b,o)=p:=Option.some.inj e
    subst e'
    exact ⟨hb,q⟩
theorem Inv.pinned {pins:List (Addr×Obj)} {σ:St} {H:Hp} {s:Shared} {fp:List Addr} (I:Inv X pins σ H s) (hf:∀ b∈fp,FpOk X pins H b) (ho:∀ b∈fp,∃ o,s.heap.get? b=some o∧∀ v,o.data≠.cell v):Inv X (pins++pinsAt fp s.heap) σ H s:=
  I.pins_of fun p hp=>(List.mem_append.mp hp).elim (fun z=>I.pin p (List.mem_append_right _ z)) fun z=>by
    obtain ⟨hb,e⟩:=of_pinsAt z
    obtain ⟨f0,f1,f2,_⟩:=hf p.1 hb
    obtain ⟨o,e',d⟩:=ho p.1 hb
    rw [e] at e'; cases e'
    exact ⟨e,f0,f1,f2,d⟩
theorem Inv.unpinned {pins pl:List (Addr×Obj)} {σ:St} {H:Hp} {s:Shared} (I:Inv X (pins++pl) σ H s):Inv X pins σ H s:=I.pins_of fun p hp=>I.pin p (List.mem_append_right _ (List.mem_append_left _ hp))
theorem ps_for {iter:Expr} {body:List Stmt} {wi:TI} {g:TG} {tb:TS} {pos:Pos} (hp:PassesOwn (model X.prog X.w) X.A X.env X.xe) (hc:X.calm=true) (hi:PI X tg iter wi) (hg:PG X tg g) (hb:PSs X body tb)
    (hs:∀ x,foldedSetIterable iter X.env x=pure x:=by intro _; rfl):PS X (.For tg iter body [] pos) (tFor wi g tb):=by
  intro pins s σ H D I h
  refine wpAny_For (thn (hi pins s σ H _ I h) fun v s1 h1=>thn h1 fun itv s2 h2=>?_) hs
  obtain ⟨it,fp,tn,J,H2,e,I2,T,st2,f2,W,⟨m0,w0⟩,turn⟩:=h2
  subst e
  -- what stays true of the iterator's objects through the loop
  have stat:∀ {H':Hp},(∀ b∈fp,H' b=none)→∀ b∈fp,FpOk X pins H' b:=fun hn b hb=>⟨hn b hb,(f2 b hb).2⟩
  refine codeAny_forLoop_any (fun n s'=>∃ i σ' H',Inv X pins σ' H' s'∧tn i s'.heap∧(∀ b∈fp,H' b=none)∧W i n σ' H') ?_ m0 ⟨0,σ,H2,I2,st2,fun b hb=>(f2 b hb).1,w0⟩
  rintro n s3 ⟨i,σ3,H3,I3,st3,fr3,w3⟩
  rcases turn i n σ3 H3 w3 with ⟨stop,qn⟩ | ⟨go,N,hN,step⟩
  · refine wpAny_passesOwn hp (thn (T.done X rfl rfl rfl hc i pins s3 σ3 H3 X.xe I3 (stat fr3) st3 stop) fun r s4 ⟨hr,I4⟩=>?_)
    subst hr
    exact wpAny_execs_nil ⟨σ3,H3,I4,qn⟩
  · refine wpAny_passesOwn hp (thn (T.item X rfl rfl rfl hc i pins s3 σ3 H3 X.xe I3 (stat fr3) st3 go) fun r s4 ⟨u,hr,h4⟩=>?_)
    subst hr
    refine wpAny_passesOwn hp (thn h4 fun _ s5 ⟨x,H5,I5,r5,y5,st5,fr5⟩=>?_)
    have I5':=I5.pinned (stat fr5) (T.obj _ _ st5)
    refine wpAny_passesOwn hp (thn (hg _ s5 σ3 H5 x u _ I5' r5 (step x H5 y5)) fun _ s6 ⟨σ6,H6,I6,q6⟩=>?_)
    refine wpAny_passesOwn hp (thn (hb _ s6 σ6 H6 _ I6 q6) fun f s7 q7=>?_)
    have again:∀ {σ7:St} {H7:Hp},Inv X (pins++pinsAt fp s5.heap) σ7 H7 s7→N σ7 H7→∃ m,m < n∧∃ i σ' H',Inv X pins σ' H' s7∧tn i s7.heap∧(∀ b∈fp,H' b=none)∧W i m σ' H':=fun {σ7 H7} I7 n7=>by
      obtain ⟨m',hm,w7⟩:=hN σ7 H7 n7
      refine ⟨m',hm,i + 1,σ7,H7,I7.unpinned,T.keep _ _ _ st5 fun b hb o e=>(I7.pin (b,o) (List.mem_append_right _ (List.mem_append_right _ (mem_pinsAt hb e)))).1,fun b hb=>?_,w7⟩
      obtain ⟨o,e,d⟩:=T.obj _ _ st5 b hb
      exact (I7.pin (b,o) (List.mem_append_right _ (List.mem_append_right _ (mem_pinsAt hb e)))).2.1
    cases f with
    | next=>obtain ⟨σ7,H7,I7,n7⟩:=q7; exact again I7 n7
    | cont=>obtain ⟨σ7,H7,I7,n7⟩:=q7; exact again I7 n7
    | brk=>obtain ⟨σ7,H7,I7,q7⟩:=q7; exact ⟨σ7,H7,I7.unpinned,q7⟩
    | ret v=>obtain ⟨x7,σ7,H7,I7,r7,q7⟩:=q7; exact ⟨x7,σ7,H7,I7.unpinned,r7,q7⟩
end
theorem for_list {K:PySem.W.Frag} {a:Addr} {xs:List V} {g:TG} {tb:TS} {D:Ends} {σ:St} {H:Hp} (Pv:Nat→St→Hp→Prop) (h0:Pv 0 σ H) (hl:∀ i σ H,i≤xs.length→Pv i σ H→SqL K H a xs)
    (hs:∀ i x σ H,xs[i]?=some x→Pv i σ H→g x σ H fun σ2 H2=>tb {D with nx:=Pv (i + 1),ct:=Pv (i + 1),bk:=D.nx} σ2 H2) (hd:∀ σ H,Pv xs.length σ H→D.nx σ H) :
    ∃ W:Nat→Nat→St→Hp→Prop,(∃ m,W 0 m σ H)∧∀ i m σ H,W i m σ H →
      ((Itl K a).stop i H∧D.nx σ H)∨((Itl K a).go i H∧∃ N:St→Hp→Prop,(∀ σ' H',N σ' H'→∃ m',m' < m∧W (i + 1) m' σ' H')∧∀ x H',(Itl K a).yld i H x H'→g x σ H' fun σ2 H2=>tb {D with nx:=N,ct:=N,bk:=D.nx} σ2 H2):=by
  refine ⟨fun i m σ H=>m=xs.length - i∧i≤xs.length∧Pv i σ H,⟨xs.length,by simp,Nat.zero_le _,h0⟩,?_⟩
  rintro i m σ H ⟨rfl,hi,p⟩
  have q:=hl i σ H hi p
  by_cases hlt:i < xs.length
  · refine .inr ⟨⟨xs,xs[i],q,by simp [hlt]⟩,Pv (i + 1),fun σ' H' p'=>⟨xs.length - (i + 1),by omega,rfl,hlt,p'⟩,fun x H' y=>?_⟩
    obtain ⟨e,y⟩:=y
    subst e
    exact hs i x σ _ (y xs q) p
  · have e:i=xs.length:=by omega
    subst e
    exact .inl ⟨⟨xs,q,Nat.le_refl _⟩,hd σ H p⟩
theorem for_range {lo:Int} {n:Nat} {g:TG} {tb:TS} {D:Ends} {σ:St} {H:Hp} (Pv:Nat→St→Hp→Prop) (h0:Pv 0 σ H)
    (hs:∀ i σ H,i < n→Pv i σ H→g (.int (lo + i)) σ H fun σ2 H2=>tb {D with nx:=Pv (i + 1),ct:=Pv (i + 1),bk:=D.nx} σ2 H2) (hd:∀ σ H,Pv n σ H→D.nx σ H) :
    ∃ W:Nat→Nat→St→Hp→Prop,(∃ m,W 0 m σ H)∧∀ i m σ H,W i m σ H →
      ((Itr lo n).stop i H∧D.nx σ H)∨((Itr lo n).go i H∧∃ N:St→Hp→Prop,(∀ σ' H',N σ' H'→∃ m',m' < m∧W (i + 1) m' σ' H')∧∀ x H',(Itr lo n).yld i H x H'→g x σ H' fun σ2 H2=>tb {D with nx:=N,ct:=N,bk:=D.nx} σ2 H2):=by
  refine ⟨fun i m σ H=>m=n - i∧i≤n∧Pv i σ H,⟨n,by simp,Nat.zero_le _,h0⟩,?_⟩
  rintro i m σ H ⟨rfl,hi,p⟩
  by_cases hlt:i < n
  · refine .inr ⟨hlt,Pv (i + 1),fun σ' H' p'=>⟨n - (i + 1),by omega,rfl,hlt,p'⟩,fun x H' y=>?_⟩
    obtain ⟨e,y⟩:=y
    subst e y
    exact hs i σ _ hlt p
  · have e:i=n:=by omega
    subst e
    exact .inl ⟨Nat.le_refl _,hd σ H p⟩
end L2
namespace L2
open PySem PySem.Spec PyProof.Rows
abbrev R2:=V→V→Hp→VK→Prop
def OpR (X:Cx) (f:Value→Value→Sem Value) (r:R2):Prop:=
  ∀ (pins:List (Addr×Obj)) (s:Shared) (σ:St) (H:Hp) (x y:V) (v u:Value) (Q:VK),Inv X pins σ H s→RelV x v→RelV y u→r x y H Q →
    wpAny (model X.prog X.w) X.A (f v u) (EP X pins σ Q) X.xe s
def UnR (X:Cx) (f:Value→Sem Value) (r:V→Hp→VK→Prop):Prop:=
  ∀ (pins:List (Addr×Obj)) (s:Shared) (σ:St) (H:Hp) (x:V) (v:Value) (Q:VK),Inv X pins σ H s→RelV x v→r x H Q →
    wpAny (model X.prog X.w) X.A (f v) (EP X pins σ Q) X.xe s
def CallR (X:Cx) (f:Value) (r:List V→Hp→VK→Prop):Prop:=
  ∀ (pins:List (Addr×Obj)) (s:Shared) (σ:St) (H:Hp) (xs:List V) (us:List Value) (Q:VK),Inv X pins σ H s→Vals xs us→r xs H Q →
    wpAny (model X.prog X.w) X.A (call f us) (EP X pins σ Q) X.xe s
def TruR (X:Cx) (r:V→Hp→(Bool→Hp→Prop)→Prop):Prop:=
  ∀ (pins:List (Addr×Obj)) (s:Shared) (σ:St) (H:Hp) (x:V) (v:Value) (Q:Bool→Hp→Prop),Inv X pins σ H s→RelV x v→r x H Q →
    wpAny (model X.prog X.w) X.A (truthy v) (TP X pins σ Q) X.xe s
def tOp (r:R2) (ta tb:TE):TE:=fun σ H Q=>ta σ H fun x H1=>tb σ H1 fun y H2=>r x y H2 Q
def tUn (r:V→Hp→VK→Prop) (ta:TE):TE:=fun σ H Q=>ta σ H fun x H1=>r x H1 Q
def rI (C:Int→Int→Prop) (g:Int→Int→V):R2:=fun x y H Q=>∃ i j,x=.int i∧y=.int j∧C i j∧Q (g i j) H
def rI0 (g:Int→Int→V):R2:=fun x y H Q=>∃ i j,x=.int i∧y=.int j∧Q (g i j) H
def rU (g:Int→V):V→Hp→VK→Prop:=fun x H Q=>∃ i,x=.int i∧Q (g i) H
section
variable {X:Cx} {a b c:Expr} {ta tb tc:TE} {pos:Pos}
theorem binT (ha:PE X a ta) (hb:PE X b tb) {pins:List (Addr×Obj)} {s:Shared} {σ:St} {H:Hp} {R:V→V→Hp→Prop} (I:Inv X pins σ H s)
    (h:ta σ H fun x H1=>tb σ H1 fun y H2=>R x y H2) {Q:Value→Shared→Prop} {f:Value→Value→Sem Value}
    (hf:∀ v u s2 x y H2,Inv X pins σ H2 s2→RelV x v→RelV y u→R x y H2→wpAny (model X.prog X.w) X.A (f v u) Q X.xe s2) :
    wpAny (model X.prog X.w) X.A (eval a X.env) (fun v s₁=>wpAny (model X.prog X.w) X.A (eval b X.env) (fun u s₂=>wpAny (model X.prog X.w) X.A (f v u) Q X.xe s₂) X.xe s₁) X.xe s:=by
  refine thn (ha pins s σ H _ I h) fun v s1 ⟨x,H1,I1,r1,q1⟩=>?_
  refine thn (hb pins s1 σ H1 _ I1 q1) fun u s2 ⟨y,H2,I2,r2,q2⟩=>?_
  exact hf v u s2 x y H2 I2 r1 r2 q2
theorem pe_op {op:Operator} {r:R2} (ho:OpR X (binaryOp op) r) (ha:PE X a ta) (hb:PE X b tb):PE X (.BinOp a op b pos) (tOp r ta tb):=by
  intro pins s σ H Q I h
  exact wpAny_BinOp (binT ha hb I h fun v u s2 x y H2 I2 rx ry q=>ho pins s2 σ H2 x y v u Q I2 rx ry q)
theorem pe_un {op:UnaryOp} {r:V→Hp→VK→Prop} (ho:UnR X (unaryOp op) r) (ha:PE X a ta):PE X (.UnaryOp op a pos) (tUn r ta):=by
  intro pins s σ H Q I h
  exact UnaryOp_ (thn (ha pins s σ H _ I h) fun v s1 ⟨x,H1,I1,r1,q1⟩=>ho pins s1 σ H1 x v Q I1 r1 q1)
theorem opI {f:Value→Value→Sem Value} {C:Int→Int→Prop} {g:Int→Int→Int}
    (rule:∀ (i j:Int) (t u:Tok) (s:Shared) (Q:Value→Shared→Prop) (E:Value→Shared→Prop),C i j→Q (.int (g i j) s.toks) {s with toks:=s.toks + 1}→wpAny (model X.prog X.w) X.A (f (.int i t) (.int j u)) Q E s) :
    OpR X f (rI C fun i j=>.int (g i j)):=by
  intro pins s σ H x y v u Q I rx ry h
  obtain ⟨i,j,rfl,rfl,hc,q⟩:=h
  obtain ⟨t,rfl⟩:=rx
  obtain ⟨t',rfl⟩:=ry
  exact rule i j t t' s _ _ hc ⟨.int (g i j),H,I.tok _,⟨_,rfl⟩,q⟩
theorem opI0 {f:Value→Value→Sem Value} {g:Int→Int→Int}
    (rule:∀ (i j:Int) (t u:Tok) (s:Shared) (Q:Value→Shared→Prop) (E:Value→Shared→Prop),Q (.int (g i j) s.toks) {s with toks:=s.toks + 1}→wpAny (model X.prog X.w) X.A (f (.int i t) (.int j u)) Q E s) :
    OpR X f (rI0 fun i j=>.int (g i j)):=by
  intro pins s σ H x y v u Q I rx ry h
  obtain ⟨i,j,rfl,rfl,q⟩:=h
  obtain ⟨t,rfl⟩:=rx
  obtain ⟨t',rfl⟩:=ry
  exact rule i j t t' s _ _ ⟨.int (g i j),H,I.tok _,⟨_,rfl⟩,q⟩
theorem opB0 {f:Value→Value→Sem Value} {g:Int→Int→Bool}
    (rule:∀ (i j:Int) (t u:Tok) (s:Shared) (Q:Value→Shared→Prop) (E:Value→Shared→Prop),Q (.bool (g i j)) s→wpAny (model X.prog X.w) X.A (f (.int i t) (.int j u)) Q E s) :
    OpR X f (rI0 fun i j=>.bl (g i j)):=by
  intro pins s σ H x y v u Q I rx ry h
  obtain ⟨i,j,rfl,rfl,q⟩:=h
  obtain ⟨t,rfl⟩:=rx
  obtain ⟨t',rfl⟩:=ry
  exact rule i j t t' s _ _ ⟨.bl (g i j),H,I,rfl,q⟩
def CDiv (i j:Int):Prop:=0 < j∧j < 1073741824
def CDivN (i j:Int):Prop:=j≠0∧j.natAbs < 1073741824
def CPow (i j:Int):Prop:=0≤j∧j≤1000000∧i.natAbs < 2 ^ 64
def CMul (i j:Int):Prop:=(-(2 ^ 64) < i∧i < 2 ^ 64)∨(-(2 ^ 64) < j∧j < 2 ^ 64)
theorem CMul.ok {i j:Int} (h:CMul i j):IntMulOk i j:=by
  rcases h with ⟨h1,h2⟩ | ⟨h1,h2⟩
  · exact .of_left (intBits_le_64 h1 h2)
  · exact .of_right (intBits_le_64 h1 h2)
theorem op_add:OpR X (binaryOp .Add) (rI0 fun i j=>.int (i + j)):=opI0 fun _ _ _ _ _ _ _ q=>add_int q
theorem op_sub:OpR X (binaryOp .Sub) (rI0 fun i j=>.int (i - j)):=opI0 fun _ _ _ _ _ _ _ q=>sub_int q
theorem op_mul:OpR X (binaryOp .Mult) (rI CMul fun i j=>.int (i * j)):=opI fun _ _ _ _ _ _ _ hc q=>mul_int q hc.ok
theorem op_mod:OpR X (binaryOp .Mod) (rI (fun _ j=>0 < j) fun i j=>.int (i % j)):=opI fun i j _ _ _ _ _ hc q=>by
  have h1:(0:Int) < j:=hc
  exact mod_int' (by omega) (by rw [Int.fmod_eq_emod_of_nonneg i (by omega)]; exact q)
theorem op_modN:OpR X (binaryOp .Mod) (rI (fun _ j=>j≠0) fun i j=>.int (i.fmod j)):=opI fun _ _ _ _ _ _ _ hc q=>mod_int' hc q
theorem op_pow:OpR X (binaryOp .Pow) (rI CPow fun i j=>.int (i ^ j.toNat)):=opI fun _ _ _ _ _ _ _ hc q=>pow_int_small hc.1 hc.2.1 hc.2.2 q
theorem unI {f:Value→Sem Value} {g:Int→Int}
    (rule:∀ (i:Int) (t:Tok) (s:Shared) (Q:Value→Shared→Prop) (E:Value→Shared→Prop),Q (.int (g i) s.toks) {s with toks:=s.toks + 1}→wpAny (model X.prog X.w) X.A (f (.int i t)) Q E s) :
    UnR X f (rU fun i=>.int (g i)):=by
  intro pins s σ H x v Q I rx h
  obtain ⟨i,rfl,q⟩:=h
  obtain ⟨t,rfl⟩:=rx
  exact rule i t s _ _ ⟨.int (g i),H,I.tok _,⟨_,rfl⟩,q⟩
theorem un_neg:UnR X (unaryOp .USub) (rU fun i=>.int (-i)):=unI fun _ _ _ _ _ q=>neg_int q
end
def scal:V→V→Bool
  | .non,.non=>true | .non,.int _=>true | .int _,.non=>true | .non,.bl _=>true | .bl _,.non=>true | .non,.str _=>true | .str _,.non=>true
  | .int _,.int _=>true | .bl _,.bl _=>true | .str _,.str _=>true | .byt _,.byt _=>true
  | .int _,.str _=>true | .str _,.int _=>true | .bl _,.str _=>true | .str _,.bl _=>true
  | _,_=>false
def rEq:R2:=fun x y H Q=>scal x y=true∧Q (.bl (decide (x=y))) H
def rNe:R2:=fun x y H Q=>scal x y=true∧Q (.bl (!decide (x=y))) H
theorem dec_int {i j:Int}:decide (V.int i=V.int j)=(i == j):=by
  rw [Bool.eq_iff_iff]
  simp
theorem dec_bl {i j:Bool}:decide (V.bl i=V.bl j)=(i == j):=by
  rw [Bool.eq_iff_iff]
  simp
theorem dec_str {i j:Str}:decide (V.str i=V.str j)=(i == j):=by
  rw [Bool.eq_iff_iff]
  simp
theorem dec_byt {i j:Array UInt8}:decide (V.byt i=V.byt j)=(i.toList == j.toList):=by
  rw [Bool.eq_iff_iff]
  cases i
  cases j
  simp
section
variable {X:Cx} {a b c:Expr} {ta tb tc:TE} {pos:Pos}
theorem fin_bl {pins:List (Addr×Obj)} {σ:St} {H:Hp} {s:Shared} {Q:VK} {k k':Bool} (I:Inv X pins σ H s) (q:Q (.bl k) H) (e:k=k'):EP X pins σ Q (.bool k') s:=by
  subst e
  exact ⟨.bl k,H,I,rfl,q⟩
theorem op_eq:OpR X (compareOp .Eq) rEq:=by
  intro pins s σ H x y v u Q I rx ry h
  obtain ⟨hs,q⟩:=h
  cases x with
  | non =>
    cases rx
    cases y with
    | non=>cases ry; exact PySem.EqNone.eq_none_none (fin_bl I q (by simp))
    | bl j=>cases ry; exact PySem.EqNone.eq_none_bool (fin_bl I q (by simp))
    | int j=>obtain ⟨t',rfl⟩:=ry; exact PySem.EqNone.eq_none_int (fin_bl I q (by simp))
    | str j=>obtain ⟨t',rfl⟩:=ry; exact PySem.EqNone.eq_none_str (fin_bl I q (by simp))
    | _=>exact absurd (show false=true from hs) Bool.false_ne_true
  | bl i =>
    cases rx
    cases y with
    | non=>cases ry; exact PySem.EqNone.eq_bool_none (fin_bl I q (by simp))
    | bl j=>cases ry; exact eq_bool (fin_bl I q dec_bl)
    | str j=>obtain ⟨t',rfl⟩:=ry; exact PySem.EqMixed.eq_bool_str (fin_bl I q (by simp))
    | _=>exact absurd (show false=true from hs) Bool.false_ne_true
  | int i =>
    obtain ⟨t,rfl⟩:=rx
    cases y with
    | non=>cases ry; exact PySem.EqNone.eq_int_none (fin_bl I q (by simp))
    | int j=>obtain ⟨t',rfl⟩:=ry; exact eq_int (fin_bl I q dec_int)
    | str j=>obtain ⟨t',rfl⟩:=ry; exact PySem.EqMixed.eq_int_str (fin_bl I q (by simp))
    | _=>exact absurd (show false=true from hs) Bool.false_ne_true
  | str i =>
    obtain ⟨t,rfl⟩:=rx
    cases y with
    | non=>cases ry; exact PySem.EqNone.eq_str_none (fin_bl I q (by simp))
    | bl j=>cases ry; exact PySem.EqMixed.eq_str_bool (fin_bl I q (by simp))
    | int j=>obtain ⟨t',rfl⟩:=ry; exact PySem.EqMixed.eq_str_int (fin_bl I q (by simp))
    | str j=>obtain ⟨t',rfl⟩:=ry; exact eq_str (fin_bl I q dec_str)
    | _=>exact absurd (show false=true from hs) Bool.false_ne_true
  | byt i =>
    obtain ⟨t,rfl⟩:=rx
    cases y with
    | byt j=>obtain ⟨t',rfl⟩:=ry; exact PySem.W.eq_bytes (fin_bl I q dec_byt)
    | _=>exact absurd (show false=true from hs) Bool.false_ne_true
  | _=>cases y <;> exact absurd (show false=true from hs) Bool.false_ne_true
theorem op_ne:OpR X (compareOp .NotEq) rNe:=by
  intro pins s σ H x y v u Q I rx ry h
  obtain ⟨hs,q⟩:=h
  cases x with
  | non =>
    cases rx
    cases y with
    | non=>cases ry; exact PySem.EqNone.ne_none_none (fin_bl I q (by simp))
    | bl j=>cases ry; exact PySem.EqNone.ne_none_bool (fin_bl I q (by simp))
    | int j=>obtain ⟨t',rfl⟩:=ry; exact PySem.EqNone.ne_none_int (fin_bl I q (by simp))
    | str j=>obtain ⟨t',rfl⟩:=ry; exact PySem.EqNone.ne_none_str (fin_bl I q (by simp))
    | _=>exact absurd (show false=true from hs) Bool.false_ne_true
  | bl i =>
    cases rx
    cases y with
    | non=>cases ry; exact PySem.EqNone.ne_bool_none (fin_bl I q (by simp))
    | bl j=>cases ry; exact ne_bool (fin_bl I q (congrArg not dec_bl))
    | str j=>obtain ⟨t',rfl⟩:=ry; exact PySem.EqMixed.ne_bool_str (fin_bl I q (by simp))
    | _=>exact absurd (show false=true from hs) Bool.false_ne_true
  | int i =>
    obtain ⟨t,rfl⟩:=rx
    cases y with
    | non=>cases ry; exact PySem.EqNone.ne_int_none (fin_bl I q (by simp))
    | int j=>obtain ⟨t',rfl⟩:=ry; exact ne_int (fin_bl I q (congrArg not dec_int))
    | str j=>obtain ⟨t',rfl⟩:=ry; exact PySem.EqMixed.ne_int_str (fin_bl I q (by simp))
    | _=>exact absurd (show false=true from hs) Bool.false_ne_true
  | str i =>
    obtain ⟨t,rfl⟩:=rx
    cases y with
    | non=>cases ry; exact PySem.EqNone.ne_str_none (fin_bl I q (by simp))
    | bl j=>cases ry; exact PySem.EqMixed.ne_str_bool (fin_bl I q (by simp))
    | int j=>obtain ⟨t',rfl⟩:=ry; exact PySem.EqMixed.ne_str_int (fin_bl I q (by simp))
    | str j=>obtain ⟨t',rfl⟩:=ry; exact ne_str (fin_bl I q (congrArg not dec_str))
    | _=>exact absurd (show false=true from hs) Bool.false_ne_true
  | byt i =>
    obtain ⟨t,rfl⟩:=rx
    cases y with
    | byt j=>obtain ⟨t',rfl⟩:=ry; exact PySem.W.ne_bytes (fin_bl I q (congrArg not dec_byt))
    | _=>exact absurd (show false=true from hs) Bool.false_ne_true
  | _=>cases y <;> exact absurd (show false=true from hs) Bool.false_ne_true
theorem op_lt:OpR X (compareOp .Lt) (rI0 fun i j=>.bl (decide (i < j))):=opB0 fun _ _ _ _ _ _ _ q=>lt_int q
theorem op_gt:OpR X (compareOp .Gt) (rI0 fun i j=>.bl (decide (j < i))):=opB0 fun _ _ _ _ _ _ _ q=>gt_int q
theorem op_ge:OpR X (compareOp .GtE) (rI0 fun i j=>.bl (decide (j≤i))):=opB0 fun _ _ _ _ _ _ _ q=>ge_int q
def isObj:HO→Bool
  | .lst _=>true
  | .ins _ _ _=>true
  | _=>false
theorem nomark (b:Expr) {op:CmpOp} (h:op≠.In:=by decide) (h2:op≠.NotIn:=by decide):behindInMarks op b=false:=by
  have e1:(op == CmpOp.In)=false:=by cases op <;> first | rfl | exact absurd rfl h
  have e2:(op == CmpOp.NotIn)=false:=by cases op <;> first | rfl | exact absurd rfl h2
  cases b <;> simp [behindInMarks,e1,e2]
theorem pe_cmpR {op:CmpOp} {r:R2} (ho:OpR X (compareOp op) r) (ha:PE X a ta) (hb:PE X b tb) (hm:behindInMarks op b=false):PE X (.Compare a [op] [b] pos) (tOp r ta tb):=by
  intro pins s σ H Q I h
  exact wpAny_Compare1 (binT ha hb I h fun v u s2 x y H2 I2 rx ry q=>ho pins s2 σ H2 x y v u Q I2 rx ry q) hm
def tTest (t:TE):TT:=fun σ H Q=>t σ H fun x H'=>∃ k,x=.bl k∧Q k H'
theorem pt_cmpR {op:CmpOp} {r:R2} (ho:OpR X (compareOp op) r) (ha:PE X a ta) (hb:PE X b tb) (hm:behindInMarks op b=false):PT X (.Compare a [op] [b] pos) (tTest (tOp r ta tb)):=by
  intro pins s σ H Q I h
  refine wpAny_isTrue_Compare1 (thn (ha pins s σ H _ I h) fun v s1 ⟨x,H1,I1,r1,q1⟩=>thn (hb pins s1 σ H1 _ I1 q1) fun u s2 ⟨y,H2,I2,r2,q2⟩ =>
    thn (ho pins s2 σ H2 x y v u _ I2 r1 r2 q2) fun c s3 ⟨z,H3,I3,r3,k,e,q3⟩=>?_) hm
  subst e
  cases r3
  exact wpAny_truthy_bool ⟨H3,I3,q3⟩
def tChain (r r':R2) (ta tb tc:TE):TE:=fun σ H Q=>ta σ H fun x H1=>tb σ H1 fun y H2=>r x y H2 fun z H3=>∃ k,z=.bl k ∧
  (if k=true then tc σ H3 fun w' H4=>r' y w' H4 Q else Q (.bl false) H3)
def TruV (K:PySem.W.Frag) (x:V) (H:Hp) (k:Bool):Prop:=
  match x with
  | .non=>k=false
  | .bl b=>k=b
  | .int i=>k=(i != 0)
  | .str y=>y.length≤sizeLine∧k=((y.length:Int) != 0)
  | .byt y=>y.size≤sizeLine∧k=((y.size:Int) != 0)
  | .ref p=>(∃ xs,SqL K H p xs∧k=!xs.isEmpty)∨(∃ xs,SqT K H p xs∧k=!xs.isEmpty)∨∃ kvs,H p=some (.dK kvs)∧k=!kvs.isEmpty
  | _=>False
theorem isEmpty_kv {κ:Type} {kvs:List (κ×V)} {vs:List (κ×Value)} (r:KV kvs vs):(!vs.isEmpty)=!kvs.isEmpty:=by
  cases r <;> rfl
theorem isEmpty_of {xs:List V} {its:List Value} (r:Vals xs its):(!its.toArray.isEmpty)=!xs.isEmpty:=by
  cases r <;> simp
theorem line63:(sizeLine:Nat) < 2 ^ 63:=by rw [sizeLine_eq]; decide
theorem tru_ok:TruR X (fun x H Q=>∃ k,TruV X.K x H k∧Q k H):=by
  intro pins s σ H x v Q I rx h
  obtain ⟨k,e,q⟩:=h
  have hl:=line63
  have hs:sizeLine=16777216:=sizeLine_eq
  cases x with
  | non =>
    cases rx
    have e':k=false:=e
    subst e'
    exact truthy_none ⟨H,I,q⟩
  | bl b =>
    cases rx
    have e':k=b:=e
    subst e'
    exact wpAny_truthy_bool ⟨H,I,q⟩
  | int i =>
    obtain ⟨t,rfl⟩:=rx
    have e':k=(i != 0):=e
    subst e'
    exact PySem.P.truthy_int ⟨H,I,q⟩
  | str y =>
    obtain ⟨t,rfl⟩:=rx
    obtain ⟨hy,e'⟩:y.length≤sizeLine∧k=((y.length:Int) != 0):=e
    subst e'
    exact PySem.P.truthy_str (by omega) ⟨H,I.tok _,q⟩
  | byt y =>
    obtain ⟨t,rfl⟩:=rx
    obtain ⟨hy,e'⟩:y.size≤sizeLine∧k=((y.size:Int) != 0):=e
    subst e'
    exact PySem.W.truthy_bytes (by omega) ⟨H,I.tok _,q⟩
  | ref p =>
    cases rx
    have e':(∃ xs,SqL X.K H p xs∧k=!xs.isEmpty)∨(∃ xs,SqT X.K H p xs∧k=!xs.isEmpty)∨∃ kvs,H p=some (.dK kvs)∧k=!kvs.isEmpty:=e
    rcases e' with ⟨xs,hx,e'⟩ | ⟨xs,hx,e'⟩ | ⟨kvs,hx,e'⟩
    · subst e'
      obtain ⟨its,r,pl,hz⟩:=I.list hx
      have hlen:=r.length
      exact wpAny_truthy_list pl.isList (by simp only [List.size_toArray]; omega) ⟨H,I.tok _,by rw [isEmpty_of r]; exact q⟩
    · subst e'
      obtain ⟨its,r,pl,hz⟩:=I.tuple hx
      have hlen:=r.length
      exact truthy_tuple pl (by simp only [List.size_toArray]; omega) ⟨H,I.tok _,by rw [isEmpty_of r]; exact q⟩
    · subst e'
      obtain ⟨hz,hS,vs,r,m⟩:kvs.length≤sizeLine∧(p == sysModules)=false∧∃ vs,KV kvs vs∧s.heap.DictOf (mixKind X.prog X.w) p vs:=I.hok p _ hx
      have hlen:kvs.length=vs.length:=Paired.length r
      exact wpAny_truthy_dict hS m (by omega) ⟨H,I.tok _,by rw [isEmpty_kv r]; exact q⟩
  | _=>exact (show False from e).elim
theorem pt_truth (ha:PE X a ta) (he:∀ whole,isTrue a X.env whole=(do let v ← whole; standAt a.pos; holding [v] (truthy v))) :
    PT X a (fun σ H Q=>ta σ H fun x H'=>∃ k,TruV X.K x H' k∧Q k H'):=by
  intro pins s σ H Q I h
  exact isTrue_plain (thn (ha pins s σ H _ I h) fun v s1 ⟨x,H1,I1,r1,q1⟩=>tru_ok pins s1 σ H1 x v Q I1 r1 q1) (he _)
def PlainIxT (b:Expr):Prop:=∀ o i,subscripted b false o i=operate [o,i] (getItem o i)
theorem vals1 {x:V} {us:List Value} (r:Vals [x] us):∃ u,us=[u]∧RelV x u:=by
  cases r with
  | cons r1 r2=>cases r2; exact ⟨_,rfl,r1⟩
theorem vals2 {x y:V} {us:List Value} (r:Vals [x,y] us):∃ u w',us=[u,w']∧RelV x u∧RelV y w':=by
  cases r with
  | cons r1 r2 =>
    cases r2 with
    | cons r3 r4=>cases r4; exact ⟨_,_,rfl,r1,r3⟩
theorem call_abs:CallR X (.builtin "abs") (fun xs H Q=>∃ i,xs=[.int i]∧Q (.int (if i < 0 then -i else i)) H):=by
  intro pins s σ H xs us Q I r h
  obtain ⟨i,rfl,q⟩:=h
  obtain ⟨u,rfl,t,rfl⟩:=vals1 r
  exact call_abs_int fun u tk=>⟨.int (if i < 0 then -i else i),H,I.tok _,⟨_,rfl⟩,q⟩
theorem call_max2 (hc:X.calm=true):CallR X (.builtin "max") (fun xs H Q=>∃ i j,xs=[.int i,.int j]∧Q (.int (if j > i then j else i)) H):=by
  intro pins s σ H xs us Q I r h
  obtain ⟨i,j,rfl,q⟩:=h
  obtain ⟨u,w',rfl,⟨t,rfl⟩,⟨t',rfl⟩⟩:=vals2 r
  refine max_two_ints (I.ok.hd hc) fun h' tk k=>⟨_,H,I.kept k,?_,q⟩
  by_cases hj:j > i
  · rw [if_pos hj,if_pos hj]; exact ⟨_,rfl⟩
  · rw [if_neg hj,if_neg hj]; exact ⟨_,rfl⟩
theorem call_int1:CallR X (.type "int") (fun xs H Q=>(∃ i,xs=[.int i]∧Q (.int i) H)∨∃ k,xs=[.bl k]∧Q (.int (if k then 1 else 0)) H):=by
  intro pins s σ H xs us Q I r h
  rcases h with ⟨i,rfl,q⟩ | ⟨k,rfl,q⟩
  · obtain ⟨u,rfl,t,rfl⟩:=vals1 r
    exact call_int_int ⟨.int i,H,I,⟨_,rfl⟩,q⟩
  · obtain ⟨u,rfl,r1⟩:=vals1 r
    cases r1
    exact call_int_bool ⟨.int (if k then 1 else 0),H,I.tok _,⟨_,rfl⟩,q⟩
def LenV (K:PySem.W.Frag) (x:V) (H:Hp) (n:Nat):Prop:=
  match x with
  | .str y=>y.length≤sizeLine∧n=y.length
  | .byt y=>y.size≤sizeLine∧n=y.size
  | .ref p=>(∃ xs,SqL K H p xs∧n=xs.length)∨∃ xs,SqT K H p xs∧n=xs.length
  | _=>False
end
end L2
namespace L2
open PySem PySem.Spec PyProof.Rows
structure ObjM (h:Heap) (x dx C:Addr) (mA:Str→Option Value):Prop where
  obj:h.get? x=some (PySem.W.instObj C dx)
  ns:h.Ns1 dx mA
  ne:dx≠x
theorem lookIn_ns {h:Heap} {dx:Addr} {mA:Str→Option Value} (n:h.Ns1 dx mA):∃ od,h.get? dx=some od∧∀ name,PySem.W.lookIn name od=some (mA name):=by
  obtain ⟨o,es,ep,ho,hd,hk,_,hm⟩:=n
  refine ⟨o,ho,fun name=>?_⟩
  have e:=hm name
  unfold nsFind findBy at e
  rw [← Array.find?_toList] at e
  unfold PySem.W.lookIn
  rw [hd]
  dsimp only
  split
  · rename_i y q
    rw [q] at e
    exact congrArg some e
  · rename_i q
    rw [q] at e
    have a:es.toList.any (·.refKey)=false:=by
      rw [List.any_eq_false]
      intro y hy
      obtain ⟨z,t,hkey⟩:=hk y (Array.mem_toList_iff.mp hy)
      simp [DictEntry.refKey,hkey]
    have a':¬ es.toList.any (·.refKey)=true:=by rw [a]; exact Bool.false_ne_true
    rw [if_neg a']
    exact congrArg some e
theorem ObjM.look {h:Heap} {x dx C:Addr} {mA:Str→Option Value} (I:ObjM h x dx C mA):∃ od,PySem.W.InstAt h x (PySem.W.instObj C dx) C (some od)∧∀ name,PySem.W.lookIn name od=some (mA name):=
  let ⟨od,ho,hl⟩:=lookIn_ns I.ns
  ⟨od,⟨I.obj,rfl,rfl,ho⟩,hl⟩
section
variable {prog:Program} {w:World} {A:Around} {E:Value→Shared→Prop} {s:Shared} {K:PySem.W.Frag} {x dx C f:Addr} {mA:Str→Option Value} {name:Str} {v:Value}
theorem get_map {expr:Bool} {Q:Value→Shared→Prop} (X:K.In s.heap) (I:ObjM s.heap x dx C mA) (hg:PySem.W.plainGet K C name=true) (hh:PySem.W.hasDictIn K C=true)
    (ha:PySem.W.findIn K (.ref C) name=some none) (hv:mA name=some v) (hv':PySem.W.handedIn v=true) (h:Q v {s with toks:=s.toks + 1}) :
    wpAny (model prog w) A (getAttr (.ref x) name expr) Q E s:=by
  obtain ⟨od,J,hl⟩:=I.look
  exact PySem.W.get_value X J (PySem.W.plainGet_of hg).1 (PySem.W.findObj_own hh ha rfl (by rw [hl,hv])) hv' h
theorem get_meth {pl:Sem Bool} {Q:Value×List Value→Shared→Prop} (X:K.In s.heap) (I:ObjM s.heap x dx C mA) (hg:PySem.W.plainGet K C name=true)
    (hf:PySem.W.findIn K (.ref C) name=some (some (.ref f))) (ht:PySem.W.isFn K (.ref f)=true) (hv:mA name=none) (h:Q (.ref f,[.ref x]) s) :
    wpAny (model prog w) A (getMethod (.ref x) name pl) Q E s:=by
  obtain ⟨od,J,hl⟩:=I.look
  exact PySem.W.method_fn X J (PySem.W.plainGet_of hg).1 (PySem.W.plainGet_of hg).2 hf (beq_iff_eq.mp ht) (by show (PySem.W.lookIn name od).map (·.isSome)=some false; rw [hl,hv]; rfl) h
theorem set_map {ns:List Str} {Q:Unit→Shared→Prop} (X:K.In s.heap) (I:ObjM s.heap x dx C mA)
    (hs:PySem.W.findIn K (.ref C) "__setattr__"=some (some (.builtin "object.__setattr__"))) (hp:PySem.W.plainOver K C=true) (ht:PySem.W.takerIn K C name=some none) (hh:PySem.W.hasDictIn K C=true)
    (hw:PySem.Within mA ns) (hsz:ns.length≤sizeLine)
    (h:∀ h',ObjM h' x dx C (fun y=>if y=name then some v else mA y)→Heap.SameBut dx s.heap h'→Q () {s with heap:=h',toks:=s.toks + 2}) :
    wpAny (model prog w) A (setAttr (.ref x) name v) Q E s:=by
  obtain ⟨od,J,hl⟩:=I.look
  refine PySem.W.set_plain X J hs (PySem.W.osa_open (s:={s with toks:=s.toks + 1}) (r:=none) X J hp ht fun b=>?_)
  obtain ⟨cd,hc,hd'⟩:=PySem.W.any_some hh
  have hx:s.heap.get? x=some ⟨.ref C,some dx,.plain,#[]⟩:=I.obj
  refine wpAny_bind (wpAny_pure (wpAny_bind (wpAny_bind (wpAny_loadPart hx (wpAny_bind (PySem.W.Looks.here (s:={s with toks:=s.toks + 1}) (PySem.W.looks_clsIn X hc) ?_))))))
  rw [hd']
  refine wpAny_pure (a:=some dx) (wpAny_bind (wpAny_pure (wpAny_bind ?_)))
  refine wpAny_nsSet1 (s:={s with toks:=s.toks + 1}) I.ns fun h' hn2 hs2=>?_
  obtain ⟨oD,esD,epD,hoD,hdD,hcD⟩:=hn2.count (PySem.Within.cons name v hw)
  refine wpAny_bind (wpAny_lookBehind hoD (by rw [hdD]; exact pastItsLine_dict (Nat.le_trans hcD (by rw [List.length_cons]; omega))) ?_)
  exact wpAny_pure (h _ ⟨(hs2.2 _ (Ne.symm I.ne)).trans I.obj,hn2,I.ne⟩ hs2)
theorem make_map {R:Result→Shared→Prop} {vs:List Value} {kw:List (Str×Value)} (X:K.In s.heap) (hm:PySem.W.makesIn K C=true)
    (hi:PySem.W.findIn K (.ref C) "__init__"=some (some (.ref f))) (hf:PySem.W.typeIn K (.ref f)=some (.type "function"))
    (h:codeAny (model prog w) (A.under (.builtin "type.__call__" ⟨.ref C :: vs,kw⟩)) (.call (.ref f) ⟨.ref (s.heap.objs.size + 1) :: vs,kw⟩) (PySem.W.InitBack (s.heap.objs.size + 1) R)
      {s with heap:=(s.heap.push PySem.W.emptyDict).push (PySem.W.instObj C s.heap.objs.size)}) :
    codeAny (model prog w) A (.call (.ref C) ⟨vs,kw⟩) R s:=by
  obtain ⟨hh,g,d,t,os⟩:=s
  exact PySem.W.make_core (PySem.W.makes_of X hm) (PySem.W.looks_findIn X hi) (fun self=>PySem.W.bind_fn X self hf) (.inl rfl) h
end
def putF (f:Str) (v:V):List (Str×V)→List (Str×V)
  | []=>[(f,v)]
  | (g,x) :: r=>if g=f then (g,v) :: r else (g,x) :: putF f v r
theorem lookup_putF (f g:Str) (v:V):∀ fs:List (Str×V),(putF f v fs).lookup g=if g=f then some v else fs.lookup g
  | []=>by
    show List.lookup g [(f,v)]=_
    by_cases h:g=f
    · have hb:(g == f)=true:=beq_iff_eq.mpr h
      simp only [List.lookup,hb,if_pos h]
    · have hb:(g == f)=false:=beq_eq_false_iff_ne.mpr h
      simp only [List.lookup,hb,if_neg h]
  | (k,x) :: r=>by
    have ih:=lookup_putF f g v r
    rw [show putF f v ((k,x) :: r)=(if k=f then (k,v) :: r else (k,x) :: putF f v r) from rfl]
    by_cases hk:k=f
    · rw [if_pos hk]
      by_cases h:g=k
      · have hb:(g == k)=true:=beq_iff_eq.mpr h
        simp only [List.lookup,hb,if_pos (h.trans hk)]
      · have hb:(g == k)=false:=beq_eq_false_iff_ne.mpr h
        simp only [List.lookup,hb,if_neg (fun e:g=f=>h (e.trans hk.symm))]
    · rw [if_neg hk]
      by_cases h:g=k
      · have hb:(g == k)=true:=beq_iff_eq.mpr h
        simp only [List.lookup,hb,if_neg (fun e:g=f=>hk (h.symm.trans e))]
      · have hb:(g == k)=false:=beq_eq_false_iff_ne.mpr h
        simp only [List.lookup,hb]
        exact ih
theorem keys_putF (f:Str) (v:V):∀ fs:List (Str×V),f∈(putF f v fs).map (·.1)∧∀ g,g∈fs.map (·.1)→g∈(putF f v fs).map (·.1)
  | []=>⟨by simp [putF],fun g h=>by simp at h⟩
  | (k,x) :: r=>by
    obtain ⟨i1,i2⟩:=keys_putF f v r
    rw [show putF f v ((k,x) :: r)=(if k=f then (k,v) :: r else (k,x) :: putF f v r) from rfl]
    by_cases hk:k=f
    · rw [if_pos hk]
      subst hk
      exact ⟨by simp,fun g h=>by simpa using h⟩
    · rw [if_neg hk]
      refine ⟨?_,fun g h=>?_⟩
      · rw [List.map_cons]
        exact List.mem_cons_of_mem _ i1
      · rw [List.map_cons] at h ⊢
        rcases List.mem_cons.mp h with e | e
        · exact List.mem_cons.mpr (.inl e)
        · exact List.mem_cons_of_mem _ (i2 g e)
theorem length_putF (f:Str) (v:V):∀ fs:List (Str×V),(putF f v fs).length≤fs.length + 1
  | []=>by simp [putF]
  | (k,x) :: r=>by
    have ih:=length_putF f v r
    rw [show putF f v ((k,x) :: r)=(if k=f then (k,v) :: r else (k,x) :: putF f v r) from rfl]
    by_cases hk:k=f
    · rw [if_pos hk,List.length_cons,List.length_cons]; omega
    · rw [if_neg hk,List.length_cons,List.length_cons]; omega
theorem RelO.some_of {v:V} {o:Option Value} (r:RelO (some v) o):∃ u,o=some u∧RelV v u:=by
  cases o with
  | none=>exact (show False from r).elim
  | some u=>exact ⟨u,rfl,r⟩
theorem RelO.none_of {o:Option Value} (r:RelO none o):o=none:=by
  cases o with
  | none=>rfl
  | some u=>exact (show False from r).elim
theorem handed_of {v:V} {u:Value} (r:RelV v u):PySem.W.handedIn u=true:=by
  cases v with
  | non=>cases (show u=Value.none from r); rfl
  | bl b=>cases (show u=Value.bool b from r); rfl
  | int i=>obtain ⟨t,e⟩:=(show ∃ t,u=Value.int i t from r); cases e; rfl
  | str x=>obtain ⟨t,e⟩:=(show ∃ t,u=Value.str x t from r); cases e; rfl
  | byt b=>obtain ⟨t,e⟩:=(show ∃ t,u=Value.bytes b t from r); cases e; rfl
  | flt b=>obtain ⟨t,e⟩:=(show ∃ t,u=Value.float b t from r); cases e; rfl
  | ref a=>cases (show u=Value.ref a from r); rfl
  | ty n=>cases (show u=Value.type n from r); rfl
section
variable {P:Program} {w:World} {H H':Hp} {h h':Heap} {a C dx:Addr} {fs fs':List (Str×V)}
theorem ins_get (hok:HOk P w H h) (e:H a=some (.ins C dx fs)):∃ mA,ObjM h a dx C mA∧(∀ f,RelO (fs.lookup f) (mA f))∧PySem.Within mA (fs.map (·.1))∧fs.length≤1000∧H dx=some (.own a):=by
  obtain ⟨d,z,ne,ob,mA,n,r,q⟩:=(show ObjOk P w H h a (.ins C dx fs) from hok a _ e)
  exact ⟨mA,⟨ob,n,ne⟩,r,q,z,d⟩
end
structure Cls (K:PySem.W.Frag) (C:Addr):Prop where
  pg:PySem.W.plainGet K C Str.empty=true
  hd:PySem.W.hasDictIn K C=true
  po:PySem.W.plainOver K C=true
  sa:PySem.W.findIn K (.ref C) "__setattr__"=some (some (.builtin "object.__setattr__"))
theorem Cls.get {K:PySem.W.Frag} {C:Addr} (c:Cls K C) (f:Str):PySem.W.plainGet K C f=true:=c.pg
def NoAttr (K:PySem.W.Frag) (C:Addr) (f:Str):Prop:=PySem.W.findIn K (.ref C) f=some none
theorem NoAttr.taker {K:PySem.W.Frag} {C:Addr} {f:Str} (n:NoAttr K C f):PySem.W.takerIn K C f=some none:=by
  unfold PySem.W.takerIn
  rw [show PySem.W.findIn K (.ref C) f=some none from n]
  rfl
structure Con (K:PySem.W.Frag) (C:Addr) (f:Str) (v:V) (u:Value):Prop where
  at_:PySem.W.findIn K (.ref C) f=some (some u)
  rel:RelV v u
  get:PySem.W.specialIn K u "__get__"=some none
  cp:PySem.W.copiedNames.contains f=false
structure Meth (K:PySem.W.Frag) (C:Addr) (m:Str) (f:Addr):Prop where
  at_:PySem.W.findIn K (.ref C) m=some (some (.ref f))
  fn:PySem.W.isFn K (.ref f)=true
  kp:PySem.W.keepIn K (.ref f)=true
section
variable {X:Cx} {pins:List (Addr×Obj)} {σ:St} {H:Hp} {s:Shared} {a C dx:Addr} {fs:List (Str×V)} {f:Str} {v:V} {A:Around} {E:Value→Shared→Prop}
theorem getattr_ok {b:Bool} {Q:Value→Shared→Prop} (I:Inv X pins σ H s) (e:H a=some (.ins C dx fs)) (c:Cls X.K C) (n:NoAttr X.K C f) (l:fs.lookup f=some v)
    (h:∀ u s',Inv X pins σ H s'→RelV v u→Q u s'):wpAny (model X.prog X.w) A (getAttr (.ref a) f b) Q E s:=by
  obtain ⟨mA,O,r,_,_,_⟩:=ins_get I.hok e
  obtain ⟨u,hu,ru⟩:=RelO.some_of (v:=v) (o:=mA f) (by rw [← l]; exact r f)
  exact get_map I.kIn O (c.get f) c.hd n hu (handed_of ru) (h u _ (I.tok _) ru)
theorem getmeth_ok {m:Str} {g:Addr} {pl:Sem Bool} {Q:Value×List Value→Shared→Prop} (I:Inv X pins σ H s) (e:H a=some (.ins C dx fs)) (c:Cls X.K C) (k:Meth X.K C m g) (l:fs.lookup m=none)
    (h:Q (.ref g,[.ref a]) s):wpAny (model X.prog X.w) A (getMethod (.ref a) m pl) Q E s:=by
  obtain ⟨mA,O,r,_,_,_⟩:=ins_get I.hok e
  have hn:mA m=none:=RelO.none_of (by rw [← l]; exact r m)
  exact get_meth I.kIn O (c.get m) k.at_ k.fn hn h
theorem setattr_ok {y:V} {u:Value} {Q:Unit→Shared→Prop} (I:Inv X pins σ H s) (e:H a=some (.ins C dx fs)) (c:Cls X.K C) (n:NoAttr X.K C f) (hl:fs.length < 1000) (ry:RelV y u)
    (h:∀ s',Inv X pins σ (upd H a (.ins C dx (putF f y fs))) s'→Q () s'):wpAny (model X.prog X.w) A (setAttr (.ref a) f u) Q E s:=by
  obtain ⟨mA,O,r,wi,_,ho⟩:=ins_get I.hok e
  have hz:(fs.map (·.1)).length≤sizeLine:=by rw [List.length_map,sizeLine_eq]; omega
  refine set_map I.kIn O c.sa c.po n.taker c.hd wi hz fun h' O' sb=>h _ ?_
  have hd:∃ o,h'.get? dx=some o:=let ⟨o,_,_,e',_⟩:=O'.ns; ⟨o,e'⟩
  refine I.write (x:=a) (e:=dx) (by rw [e]; exact True.intro) (.inr ho) (fun b q hb z=>(sb.2 b hb).trans z) hd ?_
  refine ⟨by rw [upd_ne O.ne]; exact ho,?_,O.ne,O'.obj,_,O'.ns,fun g=>?_,fun g hg=>?_⟩
  · have:=length_putF f y fs; omega
  · show RelO ((putF f y fs).lookup g) (if g=f then some u else mA g)
    rw [lookup_putF]
    by_cases q:g=f
    · rw [if_pos q,if_pos q]; exact ry
    · rw [if_neg q,if_neg q]; exact r g
  · by_cases q:g=f
    · rw [q]; exact (keys_putF f y fs).1
    · refine (keys_putF f y fs).2 g (wi g fun z=>hg ?_)
      show (if g=f then some u else mA g)=none
      rw [if_neg q]; exact z
theorem Inv.made (I:Inv X pins σ H s):Inv X pins σ (upd (upd H s.heap.objs.size (.own (s.heap.objs.size + 1))) (s.heap.objs.size + 1) (.ins C s.heap.objs.size []))
    {s with heap:=(s.heap.push PySem.W.emptyDict).push (PySem.W.instObj C s.heap.objs.size)}:=by
  have e1:(s.heap.push PySem.W.emptyDict).get? s.heap.objs.size=some PySem.W.emptyDict:=Heap.get?_push_size s.heap rfl
  have e2:((s.heap.push PySem.W.emptyDict).push (PySem.W.instObj C s.heap.objs.size)).get? (s.heap.objs.size + 1)=some (PySem.W.instObj C s.heap.objs.size):=by
    have:=Heap.get?_push_size (s.heap.push PySem.W.emptyDict) (o:=PySem.W.instObj C s.heap.objs.size) rfl
    rwa [Heap.size_push] at this
  have e3:(s.heap.push PySem.W.emptyDict).Ns s.heap.objs.size (fun _=>none):=⟨PySem.W.emptyDict,#[],_,e1,rfl,(fun e he=>absurd he (by simp)),fun _=>rfl⟩
  have I1:=I.laid (a:=s.heap.objs.size) (o:=.own (s.heap.objs.size + 1)) (h':=s.heap.push PySem.W.emptyDict) (t':=s.toks) (fun b u q=>Heap.get?_push_of_some _ q) (Nat.le_refl _) ⟨_,e1⟩
  refine I1.laid (a:=s.heap.objs.size + 1) (o:=.ins C s.heap.objs.size []) (t':=s.toks) (fun b u q=>Heap.get?_push_of_some _ q) (Nat.le_of_eq (Heap.size_push _ _)) ?_
  have ne:s.heap.objs.size≠s.heap.objs.size + 1:=Nat.ne_of_lt (Nat.lt_succ_self _)
  refine ⟨by rw [upd_ne ne,upd_same],Nat.zero_le _,ne,e2,fun _=>none,(Heap.Ns1.of_empty e3).at fun o q=>Heap.get?_push_of_some _ q,fun _=>True.intro,fun y hy=>absurd rfl hy⟩
theorem attr_of {prog:Program} {w:World} {env:Env} {e:Expr} {f:Str} {pos:Pos} {s:Shared} {Q:Value→Shared→Prop} (hb:attributeBase e f env (eval e env)=eval e env)
    (h:wpAny (model prog w) A (eval e env) (fun o s₁=>wpAny (model prog w) A (getAttr o f true) Q E s₁) E s):wpAny (model prog w) A (eval (.Attribute e f pos) env) Q E s:=
  Attribute_any_ h (by rw [arm_eval_Attribute,hb])
end
def tFld (K:PySem.W.Frag) (ta:TE) (f:Str):TE:=fun σ H Q=>ta σ H fun x H1=>∃ a C dx fs v,x=.ref a∧H1 a=some (.ins C dx fs)∧Cls K C∧NoAttr K C f∧fs.lookup f=some v∧Q v H1
def tCon (K:PySem.W.Frag) (ta:TE) (f:Str):TE:=fun σ H Q=>ta σ H fun x H1=>∃ a C dx fs v u,x=.ref a∧H1 a=some (.ins C dx fs)∧Cls K C∧Con K C f v u∧fs.lookup f=none∧Q v H1
def sFld (K:PySem.W.Frag) (ta tv:TE) (f:Str):TS:=fun D σ H=>tv σ H fun y H1=>ta σ H1 fun x H2=>∃ a C dx fs,x=.ref a∧H2 a=some (.ins C dx fs)∧Cls K C∧NoAttr K C f∧fs.length < 1000 ∧
  D.nx σ (upd H2 a (.ins C dx (putF f y fs)))
def InOp (X:Cx) (op:Operator) (rd:V→V→Hp→VK→Prop):Prop:=
  ∀ (pins:List (Addr×Obj)) (s:Shared) (σ:St) (H:Hp) (x y:V) (u v:Value) (Q:VK),Inv X pins σ H s→RelV x u→RelV y v→rd x y H Q→wpAny (model X.prog X.w) X.A (inplaceOp op u v) (EP X pins σ Q) X.xe s
def sFldAug (K:PySem.W.Frag) (ta tv:TE) (rd:V→V→Hp→VK→Prop) (f:Str):TS:=fun D σ H=>ta σ H fun x H1=>∃ a C dx fs v,x=.ref a∧H1 a=some (.ins C dx fs)∧Cls K C∧NoAttr K C f∧fs.lookup f=some v ∧
  tv σ H1 fun y H2=>rd v y H2 fun z H3=>∃ dx' fs',H3 a=some (.ins C dx' fs')∧fs'.length < 1000∧D.nx σ (upd H3 a (.ins C dx' (putF f z fs')))
section
variable {X:Cx} {o e value:Expr} {f:Str} {pos pos' tpos:Pos} {ta tv:TE}
theorem pe_fld (he:PE X e ta) (hb:attributeBase e f X.env (eval e X.env)=eval e X.env):PE X (.Attribute e f pos) (tFld X.K ta f):=by
  intro pins s σ H Q I h
  refine attr_of hb (thn (he pins s σ H _ I h) fun u s1 ⟨x,H1,I1,rx,a,C,dx,fs,v,ex,ea,c,n,l,q⟩=>?_)
  subst ex
  obtain rfl:u=Value.ref a:=rx
  exact getattr_ok I1 ea c n l fun u' s2 I2 ru=>⟨v,H1,I2,ru,q⟩
theorem ps_fld (ha:PE X o ta) (hv:PE X value tv) (hs:swapsWith value (some (.Attribute o f pos')) pos.line X.env=pure false):PS X (.Assign [.Attribute o f pos'] value pos) (sFld X.K ta tv f):=by
  intro pins s σ H D I h
  refine plainObj_wpAny_Assign_Attribute (thn (hv pins s σ H _ I h) fun u s1 ⟨y,H1,I1,ry,q⟩=>thn (ha pins s1 σ H1 _ I1 q) fun ov s2 ⟨x,H2,I2,rx,a,C,dx,fs,ex,ea,c,n,l,q2⟩=>?_) hs
  subst ex
  obtain rfl:ov=Value.ref a:=rx
  exact setattr_ok I2 ea c n l ry fun s3 I3=>⟨σ,_,I3,q2⟩
theorem ps_fldaug {op:Operator} {rd:V→V→Hp→VK→Prop} (ha:PE X o ta) (hv:PE X value tv) (hop:InOp X op rd):PS X (.AugAssign (.Attribute o f tpos) op value pos) (sFldAug X.K ta tv rd f):=by
  intro pins s σ H D I h
  refine wpAny_AugAssign_AttributeAny (thn (ha pins s σ H _ I h) fun ov s1 ⟨x,H1,I1,rx,a,C,dx,fs,v,ex,ea,c,n,l,q⟩=>?_)
  subst ex
  obtain rfl:ov=Value.ref a:=rx
  refine getattr_ok I1 ea c n l fun u s2 I2 ru=>thn (hv pins s2 σ H1 _ I2 q) fun w3 s3 ⟨y,H2,I3,ry,q3⟩=>thn (hop pins s3 σ H2 v y u w3 _ I3 ru ry q3) fun w4 s4 ⟨z,H3,I4,rz,dx',fs',ea',l',q4⟩=>?_
  exact setattr_ok I4 ea' c n l' rz fun s5 I5=>⟨σ,_,I5,q4⟩
def rAdd:V→V→Hp→VK→Prop:=fun x y H Q=>∃ i j,x=.int i∧y=.int j∧Q (.int (i + j)) H
def rSub:V→V→Hp→VK→Prop:=fun x y H Q=>∃ i j,x=.int i∧y=.int j∧Q (.int (i - j)) H
theorem in_add:InOp X .Add rAdd:=by
  rintro pins s σ H x y u v Q I rx ry ⟨i,j,rfl,rfl,q⟩
  obtain ⟨t,rfl⟩:=(show ∃ t,u=Value.int i t from rx)
  obtain ⟨t',rfl⟩:=(show ∃ t',v=Value.int j t' from ry)
  exact PyProof.Rows.iadd_int ⟨.int (i + j),H,I.tok _,⟨_,rfl⟩,q⟩
theorem methcall_of {pl:Sem Bool} {m:Str} {apos:Pos} {args:List Expr} {pins:List (Addr×Obj)} {s:Shared} {σ:St} {H:Hp} {Q:Value→Shared→Prop} {te:TE} (he:PE X e te) (I:Inv X pins σ H s)
    (h:te σ H fun x H1=>∃ a C dx fs g,x=.ref a∧H1 a=some (.ins C dx fs)∧Cls X.K C∧Meth X.K C m g∧fs.lookup m=none ∧
      ∀ s1,Inv X pins σ H1 s1→wpAny (model X.prog X.w) X.A (callWith pos (.ref g) [.ref a] (backTo pos (starEach args X.env)) (backToKw pos (keywordEach [] X.env))) Q X.xe s1)
    (ht:eval (.Call (.Attribute e m apos) args [] pos) X.env=(do
      let ov ← eval e X.env
      standAt apos.atName
      let (f,first) ← holding [ov] (getMethod ov m pl)
      callWith pos f first (backTo pos (starEach args X.env)) (backToKw pos (keywordEach [] X.env)))) :
    wpAny (model X.prog X.w) X.A (eval (.Call (.Attribute e m apos) args [] pos) X.env) Q X.xe s:=by
  refine PySem.W.methodCall_KW (pl:=pl) (thn (he pins s σ H _ I h) fun u s1 ⟨x,H1,I1,rx,a,C,dx,fs,g,ex,ea,c,k,l,q⟩=>?_) ht
  subst ex
  obtain rfl:u=Value.ref a:=rx
  exact getmeth_ok I1 ea c k l (q s1 I1)
end
section
variable {X:Cx} {pins:List (Addr×Obj)} {σ:St} {H:Hp} {s:Shared} {A:Around} {E:Value→Shared→Prop} {Q:Value→Shared→Prop} {c:Value} {b:Bool}
inductive TyOf (K:PySem.W.Frag) (H:Hp):V→Value→Prop where
  | non:TyOf K H .non (.type "NoneType")
  | bl (x:Bool):TyOf K H (.bl x) (.type "bool")
  | int (i:Int):TyOf K H (.int i) (.type "int")
  | str (x:Str):TyOf K H (.str x) (.type "str")
  | flt (x:UInt64):TyOf K H (.flt x) (.type "float")
  | lst {a:Addr} {xs:List V} (e:H a=some (.lst xs)):TyOf K H (.ref a) (.type "list")
  | frz {a:Addr} {o:Obj} {xs:List V} (e:H a=some (.frz o (.lst xs))):TyOf K H (.ref a) (.type "list")
  | tup {a:Addr} {xs:List V} (e:H a=some (.tup xs)):TyOf K H (.ref a) (.type "tuple")
  | dK {a:Addr} {kvs:List (Key×V)} (e:H a=some (.dK kvs)):TyOf K H (.ref a) (.type "dict")
  | dT {a:Addr} {kvs:List (List Key×V)} (e:H a=some (.dT kvs)):TyOf K H (.ref a) (.type "dict")
  | ins {a C dx:Addr} {fs:List (Str×V)} (e:H a=some (.ins C dx fs)) (cl:Cls K C) (ha:PySem.W.findIn K (.ref C) "__class__"=some (some (.builtin "object.__class__")))
      (hn:PySem.W.specialIn K (.builtin "object.__class__") "__get__"=some (some (.builtin "getset_descriptor.__get__"))) (htk:PySem.W.takesIn K (.builtin "object.__class__")=some true)
      (hm:PySem.W.mroIn K C (.type "object")=some true):TyOf K H (.ref a) (.ref C)
theorem isinst_ok {x:V} {u t:Value} (I:Inv X pins σ H s) (rx:RelV x u) (ty:TyOf X.K H x t) (e:PySem.W.kitOne X.K t c=some b) (h:∀ tk,Q (.bool b) {s with toks:=tk}) :
    wpAny (model X.prog X.w) A (call (.builtin "isinstance") [u,c]) Q E s:=by
  cases ty with
  | non=>cases (show u=Value.none from rx); exact PySem.W.kia_one PySem.W.kitx_none I.kIn True.intro e (fun z=>nomatch z) h
  | bl y=>cases (show u=Value.bool y from rx); exact PySem.W.kia_one PySem.W.kitx_bool I.kIn True.intro e (fun z=>nomatch z) h
  | int i=>obtain ⟨t,q⟩:=(show ∃ t,u=Value.int i t from rx); cases q; exact PySem.W.kia_one PySem.W.kitx_int I.kIn True.intro e (fun z=>nomatch z) h
  | str y=>obtain ⟨t,q⟩:=(show ∃ t,u=Value.str y t from rx); cases q; exact PySem.W.kia_one PySem.W.kitx_str I.kIn True.intro e (fun z=>nomatch z) h
  | flt y=>obtain ⟨t,q⟩:=(show ∃ t,u=Value.float y t from rx); cases q; exact PySem.W.kia_one PySem.W.kitx_float I.kIn True.intro e (fun z=>nomatch z) h
  | @lst a xs ea =>
    cases (show u=Value.ref a from rx)
    obtain ⟨_,_,n,_,h1⟩:=(show ObjOk X.prog X.w H s.heap a (.lst xs) from I.hok a _ ea)
    exact PySem.W.kia_one PySem.W.kitx_list I.kIn ⟨_,h1,rfl⟩ e (fun z=>nomatch z) h
  | @frz a ob xs ea =>
    cases (show u=Value.ref a from rx)
    obtain ⟨_,_,_,n,_,h1⟩:=(show ObjOk X.prog X.w H s.heap a (.frz ob (.lst xs)) from I.hok a _ ea)
    exact PySem.W.kia_one PySem.W.kitx_list I.kIn ⟨_,h1,rfl⟩ e (fun z=>nomatch z) h
  | @tup a xs ea =>
    cases (show u=Value.ref a from rx)
    obtain ⟨_,_,_,p⟩:=(show ObjOk X.prog X.w H s.heap a (.tup xs) from I.hok a _ ea)
    obtain ⟨o,h1,h2,_⟩:=p
    exact PySem.W.kia_one PySem.W.kitx_tuple I.kIn ⟨o,h1,h2⟩ e (fun z=>nomatch z) h
  | @dK a kvs ea =>
    cases (show u=Value.ref a from rx)
    obtain ⟨_,_,vs,_,p⟩:=(show ObjOk X.prog X.w H s.heap a (.dK kvs) from I.hok a _ ea)
    obtain ⟨o,es,ep,h1,h2,_⟩:=p
    exact PySem.W.kia_one PySem.W.kitx_dict I.kIn ⟨o,h1,h2.1⟩ e (fun z=>nomatch z) h
  | @dT a kvs ea =>
    cases (show u=Value.ref a from rx)
    obtain ⟨_,_,xs,_,o,es,ep,h1,h2,_⟩:=(show ObjOk X.prog X.w H s.heap a (.dT kvs) from I.hok a _ ea)
    exact PySem.W.kia_one PySem.W.kitx_dict I.kIn ⟨o,h1,h2.1⟩ e (fun z=>nomatch z) h
  | @ins a C dx fs ea cl ha hn htk hm =>
    cases (show u=Value.ref a from rx)
    obtain ⟨mA,O,_⟩:=ins_get I.hok ea
    obtain ⟨od,J,_⟩:=O.look
    exact PySem.W.kia_one (PySem.W.kitx_own (cl.get _) cl.hd ha hn htk hm) I.kIn J e (fun z=>nomatch z) h
end
end L2
namespace L2
open PySem PySem.Spec PyProof.Rows
structure Room (k:Nat) (A:Around):Prop where
  hd:A.handled=none
  dp:A.depth + 3 * k + 5 < recursionLimit
  un:A.units + 16 * k + 200 < cLine
theorem Room.mono {j k:Nat} {A:Around} (r:Room k A) (h:j≤k):Room j A:=⟨r.hd,by have:=r.dp; omega,by have:=r.un; omega⟩
theorem Room.deeper {k:Nat} {A:Around} (r:Room (k + 1) A) (env:Env):Room k (A.deeper env):=
  ⟨r.hd,by have:=r.dp; show A.depth + 1 + 3 * k + 5 < _; omega,by have:=r.un; show A.units + 3 + 16 * k + 200 < _; omega⟩
theorem make_depth {A:Around} {C:Addr} {us:List Value} {kw:List (Str×Value)}:(A.under (.builtin "type.__call__" ⟨.ref C :: us,kw⟩)).depth=A.depth + 1:=by
  first | rfl | simp [Around.under,Code.weight,Code.isCreation,Code.isGuard,Code.isCaller,Code.frames,Code.isFrame,guardIds]
theorem make_units {A:Around} {C:Addr} {us:List Value} {kw:List (Str×Value)}:(A.under (.builtin "type.__call__" ⟨.ref C :: us,kw⟩)).units=A.units + 1:=by
  first | rfl | simp [Around.under,Code.cUnits,Code.frames,Code.isFrame]
theorem Room.make {k:Nat} {A:Around} (r:Room (k + 1) A) (C:Addr) (us:List Value) (kw:List (Str×Value)):Room k (A.under (.builtin "type.__call__" ⟨.ref C :: us,kw⟩)):=
  ⟨r.hd,by have:=r.dp; rw [make_depth]; omega,by have:=r.un; rw [make_units]; omega⟩
theorem Room.depth {k:Nat} {A:Around} (r:Room k A):A.depth < recursionLimit:=by have:=r.dp; omega
theorem Room.units {k:Nat} {A:Around} (r:Room k A):A.units + 64 < cLine:=by have:=r.un; omega
def tNil:TA:=fun _ H Q=>Q [] H
def tCons (ta:TE) (tr:TA):TA:=fun σ H Q=>ta σ H fun x H1=>tr σ H1 fun xs H2=>Q (x :: xs) H2
section
variable {X:Cx} {e:Expr} {es:List Expr} {te:TE} {t:TA} {pos:Pos}
theorem pa_nil:PA X [] tNil:=fun _ _ _ _ H Q I h=>Calls.spliced_nil ⟨[],H,I,.nil,h⟩
theorem pa_cons (ha:PE X e te) (hr:PA X es t) (hs:starEach (e :: es) X.env=(false,eval e X.env) :: starEach es X.env:=by rfl):PA X (e :: es) (tCons te t):=by
  intro pos pins s σ H Q I h
  rw [hs]
  show wpAny _ _ (spliced ((false,eval e X.env) :: backTo pos (starEach es X.env))) _ _ s
  refine Calls.spliced_cons (thn (ha pins s σ H _ I h) fun u s1 ⟨x,H1,I1,r1,q1⟩=>?_)
  exact thn (hr pos pins s1 σ H1 _ I1 q1) fun us s2 ⟨xs,H2,I2,r2,q2⟩=>⟨x :: xs,H2,I2,.cons r1 r2,q2⟩
def tTup (t:TA):TE:=fun σ H Q=>t σ H fun xs H1=>xs.length≤sizeLine∧∀ p,H1 p=none→Q (.ref p) (upd H1 p (.tup xs))
def tLst (t:TA):TE:=fun σ H Q=>t σ H fun xs H1=>xs.length≤sizeLine∧∀ p,H1 p=none→Q (.ref p) (upd H1 p (.lst xs))
theorem pe_tup {x1} (h:PA X es t):PE X (.Tuple es x1 pos) (tTup t):=by
  intro pins s σ H Q I hq
  refine wpAny_Tuple_spliced (thn (h pos pins s σ H _ I hq) fun us s1 ⟨xs,H1,I1,r,z,q⟩=>⟨by rw [← r.length]; exact z,?_⟩)
  have hf:H1 s1.heap.objs.size=none:=I1.hok.fresh (Nat.le_refl _)
  refine ⟨.ref s1.heap.objs.size,upd H1 s1.heap.objs.size (.tup xs),I1.laid (t':=s1.toks) (fun b u e=>Heap.get?_push_of_some _ e) (Nat.le_refl _) ?_,rfl,q _ hf⟩
  exact ⟨z,us,r,⟨_,Heap.get?_push_size _ rfl,rfl,_,rfl⟩⟩
theorem pe_lst (h:PA X es t):PE X (.List es pos) (tLst t):=by
  intro pins s σ H Q I hq
  refine wpAny_List_spliced (thn (h pos pins s σ H _ I hq) fun us s1 ⟨xs,H1,I1,r,z,q⟩=>⟨by rw [← r.length]; exact z,?_⟩)
  have hf:H1 s1.heap.objs.size=none:=I1.hok.fresh (Nat.le_refl _)
  refine ⟨.ref s1.heap.objs.size,upd H1 s1.heap.objs.size (.lst xs),I1.laid (t':=s1.toks) (fun b u e=>Heap.get?_push_of_some _ e) (Nat.le_refl _) ?_,rfl,q _ hf⟩
  exact ⟨z,us,0,r,Heap.get?_push_size _ rfl⟩
end
abbrev Sp:=List V→Hp→VK→XK→Prop
abbrev CXT:=List Env→Hp→Shared→XK→Value→Shared→Prop
structure Env0 (P:Program) (w:World) (K:PySem.W.Frag) (mg:Str→Option Value) (base:Heap) (A:Around) (outer:List Env) (s:Shared) (H:Hp):Prop where
  frames:A.frames=some outer
  mod:Mod K mg base
  bs:∀ b o,base.get? b=some o→s.heap.get? b=some o∧H b=none
  bsz:base.objs.size≤s.heap.objs.size
  funs:s.heap.FunFrames base outer
  frf:∀ b∈frs outer,H b=none
  hok:HOk P w H s.heap
  bare:AllBare s.gens
def CE (outer:List Env) (P:Program) (w:World) (H:Hp) (s:Shared) (Q:VK) (u:Value) (s':Shared):Prop:=
  ∃ v H',s'.os=s.os∧AllBare s'.gens∧Un (frs outer) [] H H' s.heap s'.heap∧HOk P w H' s'.heap∧RelV v u∧Q v H'
def CR (CX:CXT) (outer:List Env) (P:Program) (w:World) (H:Hp) (s:Shared) (Q:VK) (E:XK) (r:Result) (s':Shared):Prop:=
  match r with
  | .ok (.ret u)=>CE outer P w H s Q u s'
  | .ok _=>False
  | .error e=>CX outer H s E e s'
structure FnOk (P:Program) (w:World) (K:PySem.W.Frag) (mg:Str→Option Value) (base:Heap) (CX:CXT) (k:Nat) (f:Addr) (fd:FuncData) (ps:List Str) (sp:Sp):Prop where
  len:∀ vs H Q E,sp vs H Q E→vs.length=ps.length
  run:∀ (A:Around) (outer:List Env) (s:Shared) (H:Hp) (args:Args) (us:List Value) (vs:List V) (Q:VK) (E:XK),Room k A→Env0 P w K mg base A outer s H→BindsTo s fd args (ps.zip us)→Vals vs us→sp vs H Q E →
    codeAny (model P w) A (.call (.ref f) args) (CR CX outer P w H s Q E) s
theorem Env0.make {P:Program} {w:World} {K:PySem.W.Frag} {mg:Str→Option Value} {base:Heap} {A:Around} {outer:List Env} {s:Shared} {H:Hp} (e:Env0 P w K mg base A outer s H) (C:Addr) (us:List Value) (kw:List (Str×Value)) :
    Env0 P w K mg base (A.under (.builtin "type.__call__" ⟨.ref C :: us,kw⟩)) outer s H:=⟨by first | exact e.frames | (simpa [Around.under,Code.envs,Code.isFrame,pushEnvs] using e.frames),e.mod,e.bs,e.bsz,e.funs,e.frf,e.hok,e.bare⟩
section
variable {X:Cx} {pins:List (Addr×Obj)} {σ:St} {H:Hp} {s s':Shared}
theorem Inv.env0 (I:Inv X pins σ H s):Env0 X.prog X.w X.K X.mg X.base X.A X.stack s H:=
  ⟨I.ok.frames,I.ok.mod,I.bs,Nat.le_trans I.ok.bsz I.sz,I.stack,I.stkFree,I.hok,I.bare⟩
theorem Inv.after {Q:VK} {u:Value} (I:Inv X pins σ H s) (h:CE X.stack X.prog X.w H s Q u s'):EP X pins σ Q u s':=by
  obtain ⟨v,H',os,bare,un,hok,r,q⟩:=h
  obtain ⟨hh,g,d,t,os'⟩:=s'
  obtain rfl:os'=s.os:=os
  exact ⟨v,H',I.call (h':=hh) (g':=g) (d':=d) (t':=t) (ch:=[]) un hok bare (fun b z=>absurd z (by simp)),r,q⟩
end
def tCall (sp:Sp) (dvs:List V) (E:XK) (t:TA):TE:=fun σ H Q=>t σ H fun vs H1=>sp (vs++dvs) H1 Q E
def tMeth (C:Addr) (m:Str) (sp:Sp) (dvs:List V) (E:XK) (ta:TE) (t:TA):TE:=fun σ H Q=>ta σ H fun x H1=>∃ a dx fs,x=.ref a∧H1 a=some (.ins C dx fs)∧fs.lookup m=none ∧
  t σ H1 fun vs H2=>sp (x :: (vs++dvs)) H2 Q E
def tMake (C:Addr) (sp:Sp) (dvs:List V) (E:XK) (t:TA):TE:=fun σ H Q=>t σ H fun vs H1=>∀ x dx,H1 x=none→H1 dx=none→dx≠x →
  sp (.ref x :: (vs++dvs)) (upd (upd H1 dx (.own x)) x (.ins C dx [])) (fun v H2=>v=.non∧Q (.ref x) H2) E
def Binds (K:PySem.W.Frag) (fd:FuncData) (ps:List Str) (ds:List Value):Prop:=
  ∀ (s:Shared) (us:List Value),K.In s.heap→(us++ds).length=ps.length→BindsTo s fd ⟨us,[]⟩ (ps.zip (us++ds))
theorem Binds.all {K:PySem.W.Frag} {fd:FuncData} {ps:List Str} (h:∀ us:List Value,us.length=ps.length→bindArgs fd ⟨us,[]⟩=pure (ps.zip us)):Binds K fd ps []:=fun s us _ hl=>by
  rw [List.append_nil] at hl ⊢
  exact .of_eq (h us hl)
def Passes (CX:CXT) (X:Cx) (E:XK):Prop:=∀ (pins:List (Addr×Obj)) (σ:St) (H:Hp) (s:Shared) (e:Value) (s':Shared),Inv X pins σ H s→CX X.stack H s E e s'→X.xe e s'
section
variable {X:Cx} {CX:CXT} {k:Nat} {f C:Addr} {fd:FuncData} {ps:List Str} {sp:Sp} {dvs:List V} {ds:List Value} {E:XK} {x m:Str} {p pos apos:Pos} {e o:Expr} {es:List Expr} {ta:TE} {t:TA}
theorem run_fn {pins:List (Addr×Obj)} {σ:St} {H:Hp} {s:Shared} {Q:VK} {us:List Value} {vs:List V} (F:FnOk X.prog X.w X.K X.mg X.base CX k f fd ps sp) (hr:Room k X.A) (hb:Binds X.K fd ps ds) (hd:Vals dvs ds) (hx:Passes CX X E)
    (I:Inv X pins σ H s) (r:Vals vs us) (h:sp (vs++dvs) H Q E):wpAny (model X.prog X.w) X.A (call (.ref f) us) (EP X pins σ Q) X.xe s:=by
  have r2:Vals (vs++dvs) (us++ds):=r.append hd
  have hl:(us++ds).length=ps.length:=by rw [← r2.length]; exact F.len _ _ _ _ h
  refine wpAny_call (codeAny_mono (F.run X.A X.stack s H ⟨us,[]⟩ (us++ds) (vs++dvs) Q E hr I.env0 (hb s us I.kIn hl) r2 h) fun r s' hq=>?_)
  cases r with
  | error e=>exact hx pins σ H s e s' I hq
  | ok fl =>
    cases fl with
    | ret u=>exact I.after hq
    | next=>exact False.elim hq
    | brk=>exact False.elim hq
    | cont=>exact False.elim hq
theorem pe_call (F:FnOk X.prog X.w X.K X.mg X.base CX k f fd ps sp) (hr:Room k X.A) (hg:Gl X x) (hm:X.mg x=some (.ref f)) (hk:PySem.W.keepIn X.K (.ref f)=true) (hb:Binds X.K fd ps ds) (hd:Vals dvs ds) (hx:Passes CX X E)
    (ha:PA X (e :: es) t) (hdb:(x == ("__debug__":Str))=false:=by decide) (he:starEach (e :: es) X.env=(false,eval e X.env) :: starEach es X.env:=by rfl) (hpl:(backTo pos (starEach es X.env)).any (·.1)=false:=by rfl) :
    PE X (.Call (.Name x p) (e :: es) [] pos) (tCall sp dvs E t):=by
  intro pins s σ H Q I h
  refine wpAny_Call_Name_kw (ld_glob I hg hm ?_ hdb)
  refine PySem.W.callWith_K (h₀:=X.base) I.ok.mod.kin hk (thn (ha pos pins s σ H _ I h) fun us s1 ⟨vs,H1,I1,r,q⟩=>⟨I1.kIn,?_⟩) he hpl
  exact run_fn F hr hb hd hx I1 r q
theorem pe_meth {pl:Sem Bool} (he:PE X o ta) (c:Cls X.K C) (hm:Meth X.K C m f) (F:FnOk X.prog X.w X.K X.mg X.base CX k f fd ps sp) (hr:Room k X.A) (hb:Binds X.K fd ps ds) (hd:Vals dvs ds) (hx:Passes CX X E) (ha:PA X (e :: es) t)
    (hst:starEach (e :: es) X.env=(false,eval e X.env) :: starEach es X.env:=by rfl) (hpl:(backTo pos (starEach es X.env)).any (·.1)=false:=by rfl)
    (ht:eval (.Call (.Attribute o m apos) (e :: es) [] pos) X.env=(do
      let ov ← eval o X.env
      standAt apos.atName
      let (f,first) ← holding [ov] (getMethod ov m pl)
      callWith pos f first (backTo pos (starEach (e :: es) X.env)) (backToKw pos (keywordEach [] X.env))):=by rfl) :
    PE X (.Call (.Attribute o m apos) (e :: es) [] pos) (tMeth C m sp dvs E ta t):=by
  intro pins s σ H Q I h
  refine PySem.W.methodCall_KW (pl:=pl) (thn (he pins s σ H _ I h) fun u s1 ⟨x,H1,I1,rx,a,dx,fs,ex,ea,l,q⟩=>?_) ht
  subst ex
  obtain rfl:u=Value.ref a:=rx
  refine getmeth_ok I1 ea c hm l ?_
  refine PySem.W.callWith_K (first:=[.ref a]) (h₀:=X.base) I.ok.mod.kin hm.kp (thn (ha pos pins s1 σ H1 _ I1 q) fun us s2 ⟨vs,H2,I2,r,q2⟩=>⟨I2.kIn,?_⟩) hst hpl
  exact run_fn (us:=.ref a :: us) (vs:=.ref a :: vs) F hr hb hd hx I2 (.cons rfl r) q2
theorem pe_meth0 {pl:Sem Bool} (he:PE X o ta) (c:Cls X.K C) (hm:Meth X.K C m f) (F:FnOk X.prog X.w X.K X.mg X.base CX k f fd ps sp) (hr:Room k X.A) (hb:Binds X.K fd ps ds) (hd:Vals dvs ds) (hx:Passes CX X E)
    (ht:eval (.Call (.Attribute o m apos) [] [] pos) X.env=(do
      let ov ← eval o X.env
      standAt apos.atName
      let (f,first) ← holding [ov] (getMethod ov m pl)
      callWith pos f first (backTo pos (starEach [] X.env)) (backToKw pos (keywordEach [] X.env))):=by rfl) :
    PE X (.Call (.Attribute o m apos) [] [] pos) (tMeth C m sp dvs E ta tNil):=by
  intro pins s σ H Q I h
  refine PySem.W.methodCall_KW (pl:=pl) (thn (he pins s σ H _ I h) fun u s1 ⟨x,H1,I1,rx,a,dx,fs,ex,ea,l,q⟩=>?_) ht
  subst ex
  obtain rfl:u=Value.ref a:=rx
  refine getmeth_ok I1 ea c hm l ?_
  exact PySem.W.callWith_K0 (first:=[.ref a]) I1.kIn hm.kp (run_fn (us:=[.ref a]) (vs:=[.ref a]) F hr hb hd hx I1 (.cons rfl .nil) q)
structure Mk (K:PySem.W.Frag) (C f:Addr):Prop where
  makes:PySem.W.makesIn K C=true
  init:PySem.W.findIn K (.ref C) "__init__"=some (some (.ref f))
  fn:PySem.W.isFn K (.ref f)=true
  kp:PySem.W.keepIn K (.ref C)=true
theorem run_make {pins:List (Addr×Obj)} {σ:St} {H:Hp} {s:Shared} {Q:VK} {us:List Value} {vs:List V} (M:Mk X.K C f) (F:FnOk X.prog X.w X.K X.mg X.base CX k f fd ps sp) (hr:Room (k + 1) X.A) (hb:Binds X.K fd ps ds) (hd:Vals dvs ds)
    (hx:Passes CX X E) (I:Inv X pins σ H s) (r:Vals vs us)
    (h:∀ x dx,H x=none→H dx=none→dx≠x→sp (.ref x :: (vs++dvs)) (upd (upd H dx (.own x)) x (.ins C dx [])) (fun v H2=>v=.non∧Q (.ref x) H2) E) :
    wpAny (model X.prog X.w) X.A (call (.ref C) us) (EP X pins σ Q) X.xe s:=by
  have hq:=h (s.heap.objs.size + 1) s.heap.objs.size (I.hok.fresh (Nat.le_succ _)) (I.hok.fresh (Nat.le_refl _)) (Nat.ne_of_lt (Nat.lt_succ_self _))
  have I2:=Inv.made (C:=C) I
  have r2:Vals (V.ref (s.heap.objs.size + 1) :: (vs++dvs)) (Value.ref (s.heap.objs.size + 1) :: (us++ds)):=.cons rfl (r.append hd)
  have hl:(Value.ref (s.heap.objs.size + 1) :: us++ds).length=ps.length:=by
    have e:=r2.length
    rw [F.len _ _ _ _ hq] at e
    exact e.symm
  refine wpAny_call (make_map (f:=f) I.kIn M.makes M.init (beq_iff_eq.mp M.fn) (codeAny_mono (F.run _ X.stack _ _ ⟨Value.ref (s.heap.objs.size + 1) :: us,[]⟩ (Value.ref (s.heap.objs.size + 1) :: (us++ds)) _ _ E (hr.make C us [])
    (I2.env0.make C us []) (hb _ (Value.ref (s.heap.objs.size + 1) :: us) I2.kIn hl) r2 hq) fun r s' hq'=>?_))
  cases r with
  | error e=>exact hx pins σ _ _ e s' I2 hq'
  | ok fl =>
    cases fl with
    | ret u =>
      obtain ⟨v,H',I3,rv,ev,q3⟩:=I2.after hq'
      subst ev
      exact ⟨rv,⟨V.ref (s.heap.objs.size + 1),H',I3,rfl,q3⟩⟩
    | next=>exact False.elim hq'
    | brk=>exact False.elim hq'
    | cont=>exact False.elim hq'
theorem pe_make (M:Mk X.K C f) (F:FnOk X.prog X.w X.K X.mg X.base CX k f fd ps sp) (hr:Room (k + 1) X.A) (hg:Gl X x) (hm:X.mg x=some (.ref C)) (hb:Binds X.K fd ps ds) (hd:Vals dvs ds) (hx:Passes CX X E)
    (ha:PA X (e :: es) t) (hdb:(x == ("__debug__":Str))=false:=by decide) (he:starEach (e :: es) X.env=(false,eval e X.env) :: starEach es X.env:=by rfl) (hpl:(backTo pos (starEach es X.env)).any (·.1)=false:=by rfl) :
    PE X (.Call (.Name x p) (e :: es) [] pos) (tMake C sp dvs E t):=by
  intro pins s σ H Q I h
  refine wpAny_Call_Name_kw (ld_glob I hg hm ?_ hdb)
  refine PySem.W.callWith_K (h₀:=X.base) I.ok.mod.kin M.kp (thn (ha pos pins s σ H _ I h) fun us s1 ⟨vs,H1,I1,r,q⟩=>⟨I1.kIn,?_⟩) he hpl
  exact run_make M F hr hb hd hx I1 r q
end
def PK (X:Cx) (kws:List Keyword) (t:TA):Prop:=
  ∀ (pos:Pos) (pins:List (Addr×Obj)) (s:Shared) (σ:St) (H:Hp) (Q:List V→Hp→Prop),Inv X pins σ H s→t σ H Q→wpAny (model X.prog X.w) X.A (evalAll ((backToKw pos (keywordEach kws X.env)).map (·.2))) (AP X pins σ Q) X.xe s
section
variable {X:Cx} {CX:CXT} {k:Nat} {f C:Addr} {fd:FuncData} {ps ks:List Str} {sp:Sp} {E:XK} {x m:Str} {p pos apos kpos:Pos} {e o:Expr} {es:List Expr} {kws:List Keyword} {te ta:TE} {t tk:TA} {nm:Option Str}
structure KBinds (K:PySem.W.Frag) (fd:FuncData) (ps ks:List Str) (g:List Value→List Value→List Value) (gV:List V→List V→List V):Prop where
  to:∀ (s:Shared) (us ws:List Value),K.In s.heap→(g us ws).length=ps.length→BindsTo s fd ⟨us,ks.zip ws⟩ (ps.zip (g us ws))
  rel:∀ {vs:List V} {us:List Value} {zs:List V} {ws:List Value},Vals vs us→Vals zs ws→Vals (gV vs zs) (g us ws)
def tCallK (sp:Sp) (gV:List V→List V→List V) (E:XK) (t tk:TA):TE:=fun σ H Q=>t σ H fun vs H1=>tk σ H1 fun zs H2=>sp (gV vs zs) H2 Q E
variable {g:List Value→List Value→List Value} {gV:List V→List V→List V}
end
structure FnScope (N P:List Str) (sc:Scope):Prop where
  kind:sc.kind=.function
  co:sc.isCoroutine=false
  gen:sc.isGenerator=false
  nd:N.Nodup
  pre:N.take P.length=P
  par:∀ x∈P,sc.names.lookup x=some .local∨sc.names.lookup x=some .cell
  nofree:∀ y∈sc.names,y.2≠.free
theorem bindL_out {kindOf:Str→Option NameKind} {x:Str}:∀ {binds:List (Str×Value)} {m:Str→Option Value},(∀ v,(x,v)∉binds)→bindL kindOf binds m x=m x
  | [],_,_=>rfl
  | (n,v) :: r,m,h=>by
    unfold bindL
    rw [bindL_out fun w hw=>h w (List.mem_cons_of_mem _ hw)]
    split
    · have:x≠n:=by rintro rfl; exact h v List.mem_cons_self
      simp [this]
    · rfl
theorem bindC_out {kindOf:Str→Option NameKind} {x:Str}:∀ {binds:List (Str×Value)} {m:Str→Option Value},(∀ v,(x,v)∉binds)→bindC kindOf binds m x=m x
  | [],_,_=>rfl
  | (n,v) :: r,m,h=>by
    unfold bindC
    rw [bindC_out fun w hw=>h w (List.mem_cons_of_mem _ hw)]
    split
    · rfl
    · have:x≠n:=by rintro rfl; exact h v List.mem_cons_self
      simp [this]
theorem bindL_get {kindOf:Str→Option NameKind} {x:Str} {v:Value}:∀ {P:List Str} {vs:List Value} {i:Nat} {m:Str→Option Value},P.Nodup→P[i]?=some x→vs[i]?=some v→kindOf x=some .local →
    bindL kindOf (P.zip vs) m x=some v
  | [],_,_,_,_,h,_,_=>by simp at h
  | _ :: _,[],_,_,_,_,h,_=>by simp at h
  | p :: P,w :: vs,0,m,nd,h1,h2,hk=>by
    simp at h1 h2; subst h1; subst h2
    show bindL kindOf ((p,w) :: P.zip vs) m p=_
    unfold bindL
    rw [bindL_out fun v hv=>(List.nodup_cons.mp nd).1 (List.of_mem_zip hv).1,if_pos hk]
    simp
  | p :: P,w :: vs,i + 1,m,nd,h1,h2,hk=>by
    show bindL kindOf ((p,w) :: P.zip vs) m x=_
    unfold bindL
    exact bindL_get (i:=i) (List.nodup_cons.mp nd).2 (by simpa using h1) (by simpa using h2) hk
theorem bindC_get {kindOf:Str→Option NameKind} {x:Str} {v:Value}:∀ {P:List Str} {vs:List Value} {i:Nat} {m:Str→Option Value},P.Nodup→P[i]?=some x→vs[i]?=some v→kindOf x≠some .local →
    bindC kindOf (P.zip vs) m x=some v
  | [],_,_,_,_,h,_,_=>by simp at h
  | _ :: _,[],_,_,_,_,h,_=>by simp at h
  | p :: P,w :: vs,0,m,nd,h1,h2,hk=>by
    simp at h1 h2; subst h1; subst h2
    show bindC kindOf ((p,w) :: P.zip vs) m p=_
    unfold bindC
    rw [bindC_out fun v hv=>(List.nodup_cons.mp nd).1 (List.of_mem_zip hv).1,if_neg hk]
    simp
  | p :: P,w :: vs,i + 1,m,nd,h1,h2,hk=>by
    show bindC kindOf ((p,w) :: P.zip vs) m x=_
    unfold bindC
    exact bindC_get (i:=i) (List.nodup_cons.mp nd).2 (by simpa using h1) (by simpa using h2) hk
def start (N:List Str) (vs:List V):St:=vs.map some++List.replicate (N.length - vs.length) none
def cxOf (CX:CXT) (P:Program) (w:World) (K:PySem.W.Frag) (mg:Str→Option Value) (base:Heap) (N:List Str) (qual:Str) (scope:Scope) (f:Addr) (cd:Value) (A:Around) (outer:List Env) (s:Shared) (H:Hp) (E:XK):Cx where
  prog:=P
  w:=w
  K:=K
  mg:=mg
  base:=base
  A:=A.deeper (envOfC qual scope s.heap.objs.size f cd)
  N:=N
  s₀:=s
  H₀:=H
  env:=envOfC qual scope s.heap.objs.size f cd
  outer:=outer
  stack:=envOfC qual scope s.heap.objs.size f cd :: outer
  ex:=[]
  calm:=true
  fn:=fun _=>true
  pn:=[]
  xe:=fun e s'=>wpAny (model P w) (A.deeper (envOfC qual scope s.heap.objs.size f cd)) (leaving (envOfC qual scope s.heap.objs.size f cd) e) (fun _ s''=>CX outer H s E e s'') (fun e' s''=>CX outer H s E e' s'') s'
theorem cell_has {sc:Scope} {n:Nat} {x:Str} (h:sc.names.lookup x=some .cell):∃ c,(cellsFrom n sc.names []).lookup x=some c:=by
  have q:=PySem.W.cellsFrom_some sc.names n [] (.inl h)
  exact Option.isSome_iff_exists.mp q
theorem inv_start {CX:CXT} {P:Program} {w:World} {K:PySem.W.Frag} {mg:Str→Option Value} {base:Heap} {N ps:List Str} {qual:Str} {scope:Scope} {f:Addr} {cd:Value} {A:Around} {outer:List Env} {s s1:Shared} {H:Hp} {E:XK} {us:List Value} {vs:List V}
    (S:FnScope N ps scope) (hd:A.handled=none) (e0:Env0 P w K mg base A outer s H) (hl:vs.length=ps.length) (r:Vals vs us)
    (x:InCallC s s.heap.objs.size (bindL (envOfC qual scope s.heap.objs.size f cd).kindOf (ps.zip us) fun _=>none) (cellsFrom (s.heap.objs.size + 1) scope.names []) (bindC (envOfC qual scope s.heap.objs.size f cd).kindOf (ps.zip us) fun _=>none) s1) :
    Inv (cxOf CX P w K mg base N qual scope f cd A outer s H E) [] (start N vs) H s1:=by
  have hpl:ps.length≤N.length:=by have:=congrArg List.length S.pre; rw [List.length_take] at this; omega
  obtain ⟨h1,tk,rfl,hk⟩:=x.done
  have noA:∀ b:Addr,b∉(cxOf CX P w K mg base N qual scope f cd A outer s H E).ex:=fun b z=>absurd (show b∈([]:List Addr) from z) (by simp)
  refine ⟨⟨e0.mod,S.kind,rfl,rfl,Nat.le_refl _,fun y z c h1 h2=>?_,fun y hy=>?_,fun y c _ h=>?_,fun _=>hd,Around.frames_deeper e0.frames,.inr ⟨rfl,rfl⟩,fun b z=>absurd z (noA b),e0.bs,e0.bsz,fun b _ _=>noA b,fun b z=>absurd z (noA b),e0.funs,e0.frf⟩,
    rfl,e0.bare,Un.kept hk,⟨_,x.toInCall.ns,fun i y v h1 h2 h3=>?_⟩,fun y c h=>⟨_,x.cell y c h⟩,e0.hok.fresh (Nat.le_refl _),fun y c h=>?_,fun p hp=>absurd (show p∈([]:List (Addr×Obj)) from hp) (by simp),e0.hok.kept hk,?_⟩
  · exact name_of_addr x.apart (PySem.mem_of_lookup h1) (PySem.mem_of_lookup h2)
  · have hy:scope.names.lookup y=some .cell∨scope.names.lookup y=some .free:=hy
    rcases hy with hy | hy
    · exact cell_has hy
    · exact absurd rfl (S.nofree _ (PySem.mem_of_lookup hy))
  · exact Nat.le_of_lt (x.above y c (PySem.mem_of_lookup h))
  · have hi:i < vs.length:=by
      unfold start at h2
      by_cases hi:i < vs.length
      · exact hi
      · rw [List.getElem?_append_right (by simpa using hi)] at h2
        rw [List.getElem?_replicate] at h2
        split at h2 <;> cases h2
    have ha:vs[i]?=some v:=by
      unfold start at h2
      rw [List.getElem?_append_left (by simpa using hi),List.getElem?_map] at h2
      cases e:vs[i]? with
      | none=>rw [e] at h2; cases h2
      | some a=>rw [e] at h2; cases h2; rfl
    obtain ⟨u,hu,rv⟩:=r.get ha
    have hp:ps[i]?=some y:=by
      rw [← S.pre,List.getElem?_take_of_lt (by omega)]; exact h1
    have ndP:ps.Nodup:=by rw [← S.pre]; exact S.nd.sublist (List.take_sublist _ _)
    refine ⟨u,rv,?_⟩
    rcases S.par y (List.mem_of_getElem? hp) with k | k
    · exact .inl ⟨k,bindL_get ndP hp hu k⟩
    · obtain ⟨c,e⟩:=cell_has (n:=s.heap.objs.size + 1) k
      refine .inr ⟨.inl k,c,e,?_⟩
      have q:=x.cell y c e
      rw [bindC_get ndP hp hu (by show scope.names.lookup y≠_; rw [k]; decide)] at q
      exact q
  · exact e0.hok.fresh (Nat.le_of_lt (x.above y c (PySem.mem_of_lookup h)))
  · unfold start
    show _=N.length
    rw [List.length_append,List.length_map,List.length_replicate]
    omega
theorem fn_of {CX:CXT} {P:Program} {w:World} {K:PySem.W.Frag} {mg:Str→Option Value} {base:Heap} {k:Nat} {f:Addr} {name qual:Str} {params:Arguments} {body:List Stmt} {scope:Scope} {dV kV doc pm cdv ct oc:Value} {an od:Option Addr}
    {osl:Array (Option Value)} {N ps:List Str} {sp:Sp} (lk:K.lookup f=some ⟨oc,od,.func (PySem.W.fnOf name qual params body scope dV kV doc pm an cdv ct),osl⟩) (hcd:PySem.W.codeIn K cdv qual=true) (S:FnScope N ps scope)
    (len:∀ vs H Q E,sp vs H Q E→vs.length=ps.length)
    (hbody:∀ (A:Around) (outer:List Env) (s:Shared) (H:Hp) (vs:List V) (Q:VK) (E:XK),Room k (A.deeper (envOfC qual scope s.heap.objs.size f cdv))→sp vs H Q E →
      ∃ t,PSs (cxOf CX P w K mg base N qual scope f cdv A outer s H E) body t∧t {nx:=fun _ H'=>Q .non H',rt:=Q} (start N vs) H) :
    FnOk P w K mg base CX (k + 1) f (PySem.W.fnOf name qual params body scope dV kV doc pm an cdv ct) ps sp:=by
  refine ⟨len,fun A outer s H args us vs Q E hr e0 hb r hsp=>?_⟩
  have hl:=len _ _ _ _ hsp
  have KX:K.In s.heap:=e0.mod.kin.keeps fun b o e=>(e0.bs b o e).1
  have lim:s.heap.NoLimit:=e0.mod.nolimit.keeps fun b o e=>(e0.bs b o e).1
  have hkind:∀ y∈ps.zip us,scope.names.lookup y.1=some .local∨(scope.names.lookup y.1=some .cell∧((cellsFrom (s.heap.objs.size + 1) scope.names []).lookup y.1).isSome=true):=fun ⟨n,v⟩ hy=>by
    rcases S.par n (List.of_mem_zip hy).1 with q | q
    · exact .inl q
    · exact .inr ⟨q,PySem.W.cellsFrom_some _ _ _ (.inl q)⟩
  refine codeAny_call_function hr.depth (KX _ _ lk) rfl S.co S.gen rfl (PySem.W.codeRec_of KX hcd) (hb _ _ _ _ ?_)
  refine wpAny_newFunctionEnv_cells S.kind hkind fun env he s1 x=>?_
  subst he
  refine ⟨lim.keeps x.toInCall.keep,codeAny_func ?_⟩
  obtain ⟨t,ht,hq⟩:=hbody A outer s H vs Q E (hr.deeper _) hsp
  have I:Inv (cxOf CX P w K mg base N qual scope f cdv A outer s H E) [] (start N vs) H s1:=inv_start S hr.hd e0 hl r x
  refine wpAny_mono (ht [] s1 (start N vs) H _ I hq) (fun fl s' hs=>?_) fun e s' hs=>hs
  have fin:∀ {σ':St} {H':Hp} {v:V} {u:Value},Inv (cxOf CX P w K mg base N qual scope f cdv A outer s H E) [] σ' H' s'→RelV v u→Q v H'→CE outer P w H s Q u s':=
    fun {σ' H' v u} J rv q=>⟨v,H',J.os,J.bare,J.base,J.hok,rv,q⟩
  cases fl with
  | ret u =>
    obtain ⟨v,σ',H',J,rv,q⟩:=hs
    exact fin J rv q
  | next =>
    obtain ⟨σ',H',J,q⟩:=hs
    exact fin (v:=V.non) (u:=Value.none) J rfl q
  | brk =>
    obtain ⟨_,_,_,q⟩:=hs
    exact False.elim q
  | cont =>
    obtain ⟨_,_,_,q⟩:=hs
    exact False.elim q
end L2
namespace L2
open PySem PySem.Spec PyProof.Rows
section
variable {X:Cx} {x:Str} {p pos:Pos} {e:Expr} {es:List Expr} {t:TA} {id T:String} {r:List V→Hp→VK→Prop}
def tCB (r:List V→Hp→VK→Prop) (t:TA):TE:=fun σ H Q=>t σ H fun vs H1=>r vs H1 Q
theorem pe_callB (hc:CallR X (.builtin id) r) (hg:Gl X x) (hm:X.mg x=none) (hv:bootBuiltins x=some (.builtin id)) (ha:PA X (e :: es) t) (hn:x≠"__name__":=by decide) (hdb:(x == ("__debug__":Str))=false:=by decide)
    (he:starEach (e :: es) X.env=(false,eval e X.env) :: starEach es X.env:=by rfl) (hpl:(backTo pos (starEach es X.env)).any (·.1)=false:=by rfl):PE X (.Call (.Name x p) (e :: es) [] pos) (tCB r t):=by
  intro pins s σ H Q I h
  refine wpAny_Call_Name_kw (ld_blt I hg hm hv ?_ hn hdb)
  exact PyProof.Rows.callWith_builtin1 (thn (ha pos pins s σ H _ I h) fun us s1 ⟨vs,H1,I1,r1,q1⟩=>hc pins s1 σ H1 vs us Q I1 r1 q1) he hpl
theorem pe_callTy (hc:CallR X (.type T) r) (hg:Gl X x) (hm:X.mg x=none) (hv:bootBuiltins x=some (.type T)) (ha:PA X (e :: es) t) (hn:x≠"__name__":=by decide) (hdb:(x == ("__debug__":Str))=false:=by decide)
    (he:starEach (e :: es) X.env=(false,eval e X.env) :: starEach es X.env:=by rfl) (hpl:(backTo pos (starEach es X.env)).any (·.1)=false:=by rfl):PE X (.Call (.Name x p) (e :: es) [] pos) (tCB r t):=by
  intro pins s σ H Q I h
  refine wpAny_Call_Name_kw (ld_blt I hg hm hv ?_ hn hdb)
  exact PyProof.Rows.callWith_type1 (thn (ha pos pins s σ H _ I h) fun us s1 ⟨vs,H1,I1,r1,q1⟩=>hc pins s1 σ H1 vs us Q I1 r1 q1) he hpl
end
end L2
namespace HT
open PySem PyProof.Rows
def lexLt:List Int→List Int→Bool
  | [],[]=>false
  | [],_ :: _=>true
  | _ :: _,[]=>false
  | x :: xs,y :: ys=>if x=y then lexLt xs ys else decide (x < y)
section
open PySem.SeqAt
open PySem.AutoSeq1 (wpAny_loadPart')
open PySem.MeetsSeq PySem.MeetsSeq2 PySem.MeetsSeq3
end
section
variable {prog:Program} {w:World} {A:Around} {E:Value→Shared→Prop} {s:Shared}
theorem cat_tup {t b:Addr} {vs ws:List Value} {Q:Value→Shared→Prop} (ht:IsTup s.heap t vs.toArray) (hb:IsTup s.heap b ws.toArray) (hv:vs≠[])
    (h1:ws=[]→Q (.ref t) s) (h2:ws≠[]→Q (.ref s.heap.objs.size) {s with heap:=s.heap.push {cls:=.type "tuple",data:=.seq (vs++ws).toArray}})
    (hsz:vs.length + ws.length≤sizeLine):wpAny (model prog w) A (binaryOp .Add (.ref t) (.ref b)) Q E s:=by
  obtain ⟨⟨cls,dd,data,sl⟩,ho,hc,n,hd⟩:=id ht
  obtain ⟨⟨cls2,dd2,data2,sl2⟩,ho2,hc2,n2,hd2⟩:=id hb
  simp only at hc hd hc2 hd2
  subst hc hd hc2 hd2
  have e:vs.toArray++ws.toArray=(vs++ws).toArray:=by simp
  by_cases hw:ws=[]
  · exact concat_meets ⟨_,ho,rfl⟩ ⟨_,ho2,rfl⟩ noFill_tuple_add seq_tuple_add PySem.F.slot_tuple_add PySem.F.entry_tuple_add (PySem.F.args_tuple_add_2 _ _)
      (tuple_addW1 t b vs.toArray ws.toArray n n2 dd dd2 sl sl2 (by simpa using hv) (by simp [hw])) ⟨ho,ho2,h1 hw⟩
  · refine concat_meets ⟨_,ho,rfl⟩ ⟨_,ho2,rfl⟩ noFill_tuple_add seq_tuple_add PySem.F.slot_tuple_add PySem.F.entry_tuple_add (PySem.F.args_tuple_add_2 _ _)
      (tuple_addW2 t b vs.toArray ws.toArray n n2 dd dd2 sl sl2 (by simpa using hv) (by simpa using hw) (by rw [List.size_toArray,List.size_toArray]; exact hsz)) ⟨ho,ho2,?_⟩
    rw [e]
    exact h2 hw
def sIx (n d:Nat):Option Int→Nat
  | none=>d
  | some v=>if v < 0 then (v + (n:Int)).toNat else min v.toNat n
theorem sIx_le (n d:Nat) (hd:d≤n) (o:Option Int):sIx n d o≤n:=by
  cases o with
  | none=>exact hd
  | some v =>
    show (if v < 0 then (v + (n:Int)).toNat else min v.toNat n)≤n
    by_cases hv:v < 0
    · rw [if_pos hv]; omega
    · rw [if_neg hv]; exact Nat.min_le_right _ _
theorem clip_eq (v:Int) (n d:Nat):(if v < 0 then max (v + (n:Int)) 0 else min v (n:Int))=((sIx n d (some v):Nat):Int):=by
  show (if v < 0 then max (v + (n:Int)) 0 else min v (n:Int))=(((if v < 0 then (v + (n:Int)).toNat else min v.toNat n):Nat):Int)
  by_cases hv:v < 0
  · simp only [if_pos hv]; omega
  · simp only [if_neg hv]; omega
theorem adjust_gen (lo hi:Option Int) (n:Nat):Builtin.Slice.sliceAdjust lo hi 1 (n:Int)=(((sIx n 0 lo:Nat):Int),((sIx n n hi:Nat):Int)):=by
  have h1:¬ ((1:Int) < 0):=by omega
  unfold Builtin.Slice.sliceAdjust
  simp only [h1,if_false]
  refine Prod.ext ?_ ?_
  · cases lo with
    | none=>rfl
    | some v=>exact clip_eq v n 0
  · cases hi with
    | none=>rfl
    | some v=>exact clip_eq v n n
theorem places_gen (i j:Nat):Builtin.Slice.slicePlaces (i:Int) (j:Int) 1=j - i:=by
  unfold Builtin.Slice.slicePlaces
  have h1:(1:Int) > 0:=by omega
  simp only [h1,if_true,Int.ediv_one]
  split <;> omega
theorem slicePart_ {v:Value} {o:Option Int} {Q:Option Int→Shared→Prop} (p:IsPart v o) (h:Q o s):wpAny (model prog w) A (Builtin.Slice.slicePartIndex v) Q E s:=by
  cases p with
  | none=>exact slicePart_none h
  | int i t=>exact slicePart_int h
theorem sliceApplied_gen {sl:Addr} {vl vu:Value} {lo hi:Option Int} {n:Nat} {Q:Int×Int×Nat→Shared→Prop} (hs:s.heap.IsSliceOf sl vl vu .none) (pl:IsPart vl lo) (pu:IsPart vu hi)
    (h:Q (((sIx n 0 lo:Nat):Int),1,sIx n n hi - sIx n 0 lo) s):wpAny (model prog w) A (Builtin.Slice.sliceApplied (.ref sl) (pure (n:Int))) Q E s:=by
  obtain ⟨os,hos,hcs,hds⟩:=id hs
  unfold Builtin.Slice.sliceApplied Builtin.Slice.sliceFields
  refine wpAny_bind (wpAny_bind (wpAny_field hos hds (x:=vl) rfl (wpAny_bind (wpAny_field hos hds (x:=vu) rfl (wpAny_bind (wpAny_field hos hds (x:=.none) rfl (wpAny_pure ?_)))))))
  refine wpAny_bind (slicePart_none ?_)
  show wpAny _ _ (if ((1:Int) == 0)=true then _ else _) _ _ s
  rw [if_neg (by decide)]
  refine wpAny_bind (slicePart_ pl (wpAny_bind (slicePart_ pu (wpAny_bind (wpAny_pure ?_)))))
  show wpAny _ _ (match Builtin.Slice.sliceAdjust lo hi 1 (n:Int) with | (lo,hi)=>pure (lo,(1:Int),Builtin.Slice.slicePlaces lo hi 1)) _ _ s
  rw [adjust_gen lo hi n]
  show wpAny _ _ (pure (((sIx n 0 lo:Nat):Int),(1:Int),Builtin.Slice.slicePlaces ((sIx n 0 lo:Nat):Int) ((sIx n n hi:Nat):Int) 1)) _ _ s
  rw [places_gen]
  exact wpAny_pure h
theorem pick_gen (xs:Array Value) (i k:Nat):((List.range k).filterMap fun (m:Nat)=>xs[((i:Int) + (m:Int) * 1).toNat]?).toArray=((xs.toList.drop i).take k).toArray:=by
  have e:(fun (m:Nat)=>xs[((i:Int) + (m:Int) * 1).toNat]?)=fun m=>xs[i + m]?:=by
    funext m
    have:((i:Int) + (m:Int) * 1).toNat=i + m:=by omega
    rw [this]
  rw [e]
  have:=pick_run xs i k
  rw [List.filterMap_map] at this
  have e2:((fun x=>xs[x]?) ∘ fun x=>i + x)=fun m=>xs[i + m]?:=rfl
  rw [e2] at this
  rw [this]
theorem getItem_tuple_cut {t sl:Addr} {items:Array Value} {vl vu:Value} {lo hi:Option Int} {Q:Value→Shared→Prop} (ht:IsTup s.heap t items) (hs:s.heap.IsSliceOf sl vl vu .none) (pl:IsPart vl lo) (pu:IsPart vu hi)
    (hw:¬ (sIx items.size 0 lo=0∧sIx items.size items.size hi=items.size))
    (h:Q (.ref s.heap.objs.size) {s with heap:=s.heap.push {cls:=.type "tuple",data:=.seq ((items.toList.drop (sIx items.size 0 lo)).take (sIx items.size items.size hi - sIx items.size 0 lo)).toArray}})
    (hsz:items.size≤sizeLine):wpAny (model prog w) A (getItem (.ref t) (.ref sl)) Q E s:=by
  have htake:sizeOk (.seq ((items.toList.drop (sIx items.size 0 lo)).take (sIx items.size items.size hi - sIx items.size 0 lo)).toArray):=by
    show ((items.toList.drop (sIx items.size 0 lo)).take (sIx items.size items.size hi - sIx items.size 0 lo)).toArray.size≤sizeLine
    rw [List.size_toArray,List.length_take,List.length_drop,Array.length_toList]
    omega
  have hj:sIx items.size items.size hi≤items.size:=sIx_le _ _ (Nat.le_refl _) hi
  obtain ⟨os,hos,hcs,hds⟩:=id hs
  have hTs:s.TypeIs (.ref sl) "slice":=⟨os,hos,hcs⟩
  unfold getItem
  try with_reducible refine wpAny_holding ?_
  first | refine wpAny_bind (wpAny_pure ?_) | skip
  refine wpAny_bind (wpAny_sequenceKey ht.typeIs (by decide) ?_)
  refine wpAny_bind (wpAny_callSpecial?_slot (name:=Str.ofString "__getitem__") ht.typeIs PyProof.Rows.slot_tuple_getitem
    (wpAny_call_entry PyProof.Rows.slot_tuple_getitem ht.typeIs entry_tuple_getitem ?_ (args_tuple_getitem _ _)))
  show wpAny _ _ (Builtin.Tuple.tupleItemsOf (.ref t) >>= _) _ _ s
  refine wpAny_bind (tupleItemsOf_ ht ?_)
  refine wpAny_bind (wpAny_typeOf hTs ?_)
  rw [if_pos (by decide)]
  refine wpAny_bind (sliceApplied_gen hs pl pu ?_)
  have hno:¬ ((((sIx items.size 0 lo:Nat):Int) == 0 && (1:Int) == 1 && (sIx items.size items.size hi - sIx items.size 0 lo) == items.size)=true):=by
    intro q
    rw [Bool.and_eq_true,Bool.and_eq_true] at q
    have q1:((sIx items.size 0 lo:Nat):Int)=0:=eq_of_beq q.1.1
    have q2:sIx items.size items.size hi - sIx items.size 0 lo=items.size:=eq_of_beq q.2
    exact hw ⟨by omega,by omega⟩
  show wpAny _ _ (if (((sIx items.size 0 lo:Nat):Int) == 0 && (1:Int) == 1 && (sIx items.size items.size hi - sIx items.size 0 lo) == items.size)=true then _ else _) _ _ s
  rw [if_neg hno,pick_gen]
  first
    | exact wpAny_bind (m:=Builtin.Tuple.tupleExact _) (wpAny_newObj_type (wpAny_pure ⟨_,rfl,wpAny_pure h⟩) htake)
    | exact wpAny_bind (m:=Builtin.Tuple.tupleExact _) (wpAny_newObj_type (wpAny_bind (wpAny_pure (wpAny_pure ⟨_,rfl,wpAny_pure h⟩))) htake)
    | exact wpAny_bind (wpAny_bind (m:=Builtin.Tuple.tupleExact _) (wpAny_newObj_type (wpAny_pure (wpAny_pure ⟨_,rfl,wpAny_pure h⟩)) htake))
    | exact wpAny_bind (wpAny_bind (m:=Builtin.Tuple.tupleExact _) (wpAny_newObj_type (wpAny_pure ⟨_,rfl,wpAny_pure h⟩) htake))
end
end HT
namespace L2
open PySem PySem.Spec PyProof.Rows
abbrev TO:=St→Hp→(Option Int→Hp→Prop)→Prop
def PO (X:Cx) (e:Option Expr) (t:TO):Prop:=
  ∀ (pins:List (Addr×Obj)) (s:Shared) (σ:St) (H:Hp) (Q:Option Int→Hp→Prop),Inv X pins σ H s→t σ H Q →
    wpAny (model X.prog X.w) X.A (evalPart e X.env) (fun u s'=>∃ o H',Inv X pins σ H' s'∧IsPart u o∧Q o H') X.xe s
def tNoPart:TO:=fun _ H Q=>Q none H
def tPart (t:TE):TO:=fun σ H Q=>t σ H fun x H1=>∃ i,x=.int i∧Q (some i) H1
section
variable {X:Cx} {e:Expr} {te:TE} {lo hi:Option Expr} {tl th:TO} {pos p2:Pos}
theorem po_none:PO X none tNoPart:=by
  intro pins s σ H Q I h
  rw [evalPart_none]
  exact wpAny_pure ⟨none,H,I,.none,h⟩
theorem po_some (h:PE X e te):PO X (some e) (tPart te):=by
  intro pins s σ H Q I hw
  rw [evalPart_some]
  refine thn (h pins s σ H _ I hw) fun u s1 ⟨x,H1,I1,r1,q1⟩=>?_
  obtain ⟨i,rfl,q⟩:=q1
  obtain ⟨t,rfl⟩:=r1
  exact ⟨some i,H1,I1,.int i t,q⟩
def SlR (X:Cx) (r:V→Option Int→Option Int→Hp→VK→Prop):Prop:=
  ∀ (pins:List (Addr×Obj)) (s:Shared) (σ:St) (H:Hp) (x:V) (v vl vu:Value) (lo hi:Option Int) (sl:Addr) (Q:VK),Inv X pins σ H s→RelV x v→s.heap.IsSliceOf sl vl vu .none→IsPart vl lo→IsPart vu hi→r x lo hi H Q →
    ∃ T id,typeLookup (.type T) "__getitem__"=pure (some (.builtin id))∧s.TypeIs v T∧wpAny (model X.prog X.w) X.A (getItem v (.ref sl)) (EP X pins σ Q) X.xe s
def tSl (r:V→Option Int→Option Int→Hp→VK→Prop) (te:TE) (tl th:TO):TE:=fun σ H Q=>te σ H fun x H1=>tl σ H1 fun l H2=>th σ H2 fun u H3=>r x l u H3 Q
theorem pe_slice {r:V→Option Int→Option Int→Hp→VK→Prop} (hr:SlR X r) (he:PE X e te) (hl:PO X lo tl) (hu:PO X hi th):PE X (.Subscript e (.Slice lo hi none p2) pos) (tSl r te tl th):=by
  intro pins s σ H Q I h
  refine Subscript_ (thn (he pins s σ H _ I h) fun v s1 ⟨x,H1,I1,r1,q1⟩=>?_)
  refine wpAny_Slice (thn (hl pins s1 σ H1 _ I1 q1) fun vl s2 ⟨l,H2,I2,pl,q2⟩=>thn (hu pins s2 σ H2 _ I2 q2) fun vu s3 ⟨u,H3,I3,pu,q3⟩=>?_)
  rw [evalPart_none]
  refine wpAny_pure ?_
  have I4:Inv X pins σ H3 {s3 with heap:=s3.heap.push {cls:=.type "slice",data:=.fields #[vl,vu,.none]}}:=I3.kept (t':=s3.toks) fun b ob q=>Heap.get?_push_of_some _ q
  obtain ⟨T,id,hT,ht,hg⟩:=hr pins {s3 with heap:=s3.heap.push {cls:=.type "slice",data:=.fields #[vl,vu,.none]}} σ H3 x v vl vu l u s3.heap.objs.size Q I4 r1 (Heap.IsSliceOf.new ..) pl pu q3
  show wpAny (model X.prog X.w) X.A (subscriptTail e (.Slice lo hi none p2) v (.ref s3.heap.objs.size)) (EP X pins σ Q) X.xe {s3 with heap:=s3.heap.push {cls:=.type "slice",data:=.fields #[vl,vu,.none]}}
  exact tail_any (ops:=[.ref s3.heap.objs.size,v]) ht hT hg (by with_unfolding_all rfl)
def cutV (xs:List V) (lo hi:Option Int):List V:=(xs.drop (HT.sIx xs.length 0 lo)).take (HT.sIx xs.length xs.length hi - HT.sIx xs.length 0 lo)
theorem cutV_length (xs:List V) (lo hi:Option Int):(cutV xs lo hi).length≤xs.length:=by
  unfold cutV
  rw [List.length_take,List.length_drop]
  omega
def rSlT (K:PySem.W.Frag):V→Option Int→Option Int→Hp→VK→Prop:=fun x lo hi H Q=>∃ a xs,x=.ref a∧SqT K H a xs ∧
  ¬ (HT.sIx xs.length 0 lo=0∧HT.sIx xs.length xs.length hi=xs.length)∧∀ p,H p=none→Q (.ref p) (upd H p (.tup (cutV xs lo hi)))
theorem sl_tup:SlR X (rSlT X.K):=by
  intro pins s σ H x v vl vu lo hi sl Q I rx hs pl pu h
  obtain ⟨a,xs,rfl,hx,hw,q⟩:=h
  cases rx
  obtain ⟨its,r,ht,hz⟩:=I.tuple hx
  have hlen:its.toArray.size=xs.length:=by rw [List.size_toArray]; exact r.length.symm
  refine ⟨"tuple",_,PyProof.Rows.slot_tuple_getitem.lookup,ht.typeIs,?_⟩
  refine HT.getItem_tuple_cut ht hs pl pu (by rw [hlen]; exact hw) ?_ (by rw [hlen]; exact hz)
  rw [hlen]
  refine ⟨.ref s.heap.objs.size,_,I.laid (t':=s.toks) (o:=.tup (cutV xs lo hi)) (fun b ob q=>Heap.get?_push_of_some _ q) (Nat.le_refl _) ?_,rfl,q _ (I.hok.fresh (Nat.le_refl _))⟩
  exact ⟨Nat.le_trans (cutV_length xs lo hi) hz,_,(r.drop (HT.sIx xs.length 0 lo)).take (HT.sIx xs.length xs.length hi - HT.sIx xs.length 0 lo),IsTup.new _ _⟩
def rLtT (K:PySem.W.Frag):R2:=fun x y H Q=>∃ a b ns ms,x=.ref a∧y=.ref b∧SqT K H a (ns.map V.int)∧SqT K H b (ms.map V.int)∧Q (.bl (HT.lexLt ns ms)) H
def rCatT (K:PySem.W.Frag):R2:=fun x y H Q=>∃ a b xs ys,x=.ref a∧y=.ref b∧SqT K H a xs∧SqT K H b ys∧xs≠[]∧xs.length + ys.length≤sizeLine ∧
  (ys=[]→Q (.ref a) H)∧(ys≠[]→∀ p,H p=none→Q (.ref p) (upd H p (.tup (xs++ys))))
theorem Vals.nil_iff {xs:List V} {us:List Value} (r:Vals xs us):us=[]↔xs=[]:=by
  cases r with
  | nil=>simp
  | cons _ _=>simp
theorem op_catT:OpR X (binaryOp .Add) (rCatT X.K):=by
  intro pins s σ H x y v u Q I rx ry h
  obtain ⟨a,b,xs,ys,rfl,rfl,ha,hb,hx,hz,q1,q2⟩:=h
  cases rx
  cases ry
  obtain ⟨its,r1,p1,_⟩:=I.tuple ha
  obtain ⟨its2,r2,p2,_⟩:=I.tuple hb
  refine HT.cat_tup p1 p2 (fun z=>hx (r1.nil_iff.mp z)) (fun z=>⟨.ref a,H,I,rfl,q1 (r2.nil_iff.mp z)⟩) (fun z=>?_) (by rw [← r1.length,← r2.length]; exact hz)
  refine ⟨.ref s.heap.objs.size,_,I.laid (t':=s.toks) (o:=.tup (xs++ys)) (fun b ob q=>Heap.get?_push_of_some _ q) (Nat.le_refl _) ?_,rfl,q2 (fun w=>z (r2.nil_iff.mpr w)) _ (I.hok.fresh (Nat.le_refl _))⟩
  exact ⟨by rw [List.length_append]; exact hz,_,r1.append r2,IsTup.new _ _⟩
end
end L2
namespace L2
open PySem PySem.Spec PyProof.Rows
def ixN (n:Nat) (i:Int):Option Nat:=if 0≤i then (if i < n then some i.toNat else none) else if -(n:Int)≤i then some (i + n).toNat else none
def atI {α:Type} (xs:List α) (i:Int):Option α:=(ixN xs.length i).bind fun j=>xs[j]?
theorem ixN_seq {n:Nat} {i:Int} {j:Nat} (h:ixN n i=some j):seqIndex? i n=some j∧j < n∧-(n:Int)≤i∧i < n:=by
  unfold ixN at h
  by_cases h0:0≤i
  · rw [if_pos h0] at h
    by_cases h1:i < n
    · rw [if_pos h1] at h
      have e:i.toNat=j:=Option.some.inj h
      exact ⟨by rw [seqIndex_of h0 h1,e],by omega,by omega,h1⟩
    · rw [if_neg h1] at h; cases h
  · rw [if_neg h0] at h
    by_cases h1:-(n:Int)≤i
    · rw [if_pos h1] at h
      have e:(i + n).toNat=j:=Option.some.inj h
      exact ⟨by rw [seqIndex_neg (by omega) h1,e],by omega,h1,by omega⟩
    · rw [if_neg h1] at h; cases h
theorem atI_get {α:Type} {xs:List α} {i:Int} {v:α} (h:atI xs i=some v):∃ j,seqIndex? i xs.length=some j∧xs[j]?=some v∧j < xs.length∧-(xs.length:Int)≤i∧i < xs.length:=by
  unfold atI at h
  cases e:ixN xs.length i with
  | none=>rw [e] at h; cases h
  | some j =>
    rw [e] at h
    obtain ⟨h1,h2,h3,h4⟩:=ixN_seq e
    exact ⟨j,h1,h,h2,h3,h4⟩
theorem atI_nat {α:Type} {xs:List α} {j:Nat} {v:α} (h:xs[j]?=some v):atI xs (j:Int)=some v:=by
  have hj:j < xs.length:=(List.getElem?_eq_some_iff.mp h).1
  have e:ixN xs.length (j:Int)=some j:=by
    unfold ixN
    rw [if_pos (by omega),if_pos (by omega)]; simp
  unfold atI; rw [e]; exact h
def PlainIx (b:Expr):Prop:=∀ o i,subscripted b false o i=operate [o,i] (getItem o i)
def IxR (X:Cx) (r:R2):Prop:=
  ∀ (value slice:Expr) (pins:List (Addr×Obj)) (s:Shared) (σ:St) (H:Hp) (x y:V) (v u:Value) (Q:VK),Inv X pins σ H s→RelV x v→RelV y u→r x y H Q →
    subscripted slice false v u=operate [v,u] (getItem v u)→wpAny (model X.prog X.w) X.A (subscriptTail value slice v u) (EP X pins σ Q) X.xe s
def MtR (X:Cx) (id:String) (r:V→List V→Hp→VK→Prop):Prop:=
  ∀ (pins:List (Addr×Obj)) (s:Shared) (σ:St) (H:Hp) (x:V) (xs:List V) (v:Value) (us:List Value) (Q:VK),Inv X pins σ H s→RelV x v→Vals xs us→r x xs H Q →
    wpAny (model X.prog X.w) X.A (call (.builtin id) (v :: us)) (EP X pins σ Q) X.xe s
section
variable {X:Cx} {a b:Expr} {ta tb:TE} {pos:Pos}
theorem pe_ix {r:R2} (hr:IxR X r) (ha:PE X a ta) (hb:PE X b tb) (hs:PlainIx b):PE X (.Subscript a b pos) (tOp r ta tb):=by
  intro pins s σ H Q I h
  exact Subscript_ (binT ha hb I h fun v u s2 x y H2 I2 rx ry q=>hr a b pins s2 σ H2 x y v u Q I2 rx ry q (hs _ _))
def rIxL (K:PySem.W.Frag):R2:=fun x y H Q=>∃ p xs i v,x=.ref p∧y=.int i∧SqL K H p xs∧atI xs i=some v∧Q v H
def rIxT (K:PySem.W.Frag):R2:=fun x y H Q=>∃ p xs i v,x=.ref p∧y=.int i∧SqT K H p xs∧atI xs i=some v∧Q v H
def rIxS:R2:=fun x y H Q=>∃ z i c,x=.str z∧y=.int i∧z.length≤sizeLine∧atI z.cps.toList i=some c∧Q (.str ⟨#[c]⟩) H
theorem ix_list:IxR X (rIxL X.K):=by
  intro value slice pins s σ H x y v u Q I rx ry h hs
  obtain ⟨p,xs,i,z,rfl,rfl,hq,he,q⟩:=h
  cases rx
  obtain ⟨t,rfl⟩:=ry
  obtain ⟨its,r,pl,hz⟩:=I.list hq
  obtain ⟨j,h1,h2,h3,h4,h5⟩:=atI_get he
  obtain ⟨w,ew,rw'⟩:=r.get h2
  have hl:=r.length
  have hn:=line63
  have fin:EP X pins σ Q w s:=⟨z,H,I,rw',q⟩
  by_cases h0:0≤i
  · have hj:i.toNat=j:=by
      rw [seqIndex_of h0 h5] at h1
      exact Option.some.inj h1
    exact item_listR pl.isList h0 (by omega) (by rw [hj]; simpa using ew) fin hs
  · have hj:(i + (its.toArray.size:Int)).toNat=j:=by
      rw [seqIndex_neg (by omega) h4] at h1
      rw [List.size_toArray,← hl]
      exact Option.some.inj h1
    exact subscriptTail_builtinR (x:=w) pl.isList.typeIs slot_list_getitem.lookup
      (wpAny_getItem_list_neg (Q:=fun r s'=>r=w∧EP X pins σ Q r s') pl.isList (by omega) (by rw [List.size_toArray] <;> omega) (by omega) (by rw [hj]; simpa using ew) ⟨rfl,fin⟩) hs
theorem ix_tup:IxR X (rIxT X.K):=by
  intro value slice pins s σ H x y v u Q I rx ry h hs
  obtain ⟨p,xs,i,z,rfl,rfl,hq,he,q⟩:=h
  cases rx
  obtain ⟨t,rfl⟩:=ry
  obtain ⟨its,r,pl,hz⟩:=I.tuple hq
  obtain ⟨j,h1,h2,h3,h4,h5⟩:=atI_get he
  obtain ⟨w,ew,rw'⟩:=r.get h2
  have hl:=r.length
  have hn:=line63
  have fin:EP X pins σ Q w s:=⟨z,H,I,rw',q⟩
  exact subscriptTail_builtinR (x:=w) pl.typeIs slot_tuple_getitem.lookup
    (getItem_tuple (j:=j) (Q:=fun r s'=>r=w∧EP X pins σ Q r s') pl (by omega) (by omega) (by rw [List.size_toArray,← hl]; exact h1) (by simpa using ew) ⟨rfl,fin⟩) hs
def rIx (K:PySem.W.Frag):R2:=fun x y H Q=>rIxL K x y H Q∨rIxT K x y H Q∨rIxS x y H Q
theorem mapSeq_set (its:List Value) (n j:Nat) (u:Value):Obj.mapSeq (·.setIfInBounds j u) {cls:=.type "list",data:=.seq its.toArray n}={cls:=.type "list",data:=.seq (its.set j u).toArray n}:=by
  simp [Obj.mapSeq]
theorem Inv.lst {pins:List (Addr×Obj)} {σ:St} {H:Hp} {s:Shared} {p:Addr} {xs:List V} (I:Inv X pins σ H s) (h:H p=some (.lst xs)) :
    ∃ (its:List Value) (n:Nat),Vals xs its∧s.heap.get? p=some {cls:=.type "list",data:=.seq its.toArray n}∧xs.length≤sizeLine:=by
  obtain ⟨z,its,n,r,e⟩:=I.hok p _ h
  exact ⟨its,n,r,e,z⟩
theorem Inv.lstUpd {pins:List (Addr×Obj)} {σ:St} {H:Hp} {s:Shared} {p:Addr} {xs ys:List V} {its its':List Value} {n n':Nat} {f:Obj→Obj} (I:Inv X pins σ H s) (h:H p=some (.lst xs))
    (ho:s.heap.get? p=some {cls:=.type "list",data:=.seq its.toArray n}) (hf:f {cls:=.type "list",data:=.seq its.toArray n}={cls:=.type "list",data:=.seq its'.toArray n'}) (r:Vals ys its') (hz:ys.length≤sizeLine) (t:Nat) :
    Inv X pins σ (upd H p (.lst ys)) {s with heap:=s.heap.update p f,toks:=t}:=by
  have e:(s.heap.update p f).get? p=some {cls:=.type "list",data:=.seq its'.toArray n'}:=by
    rw [Heap.get?_update_self f ho (by rw [hf] <;> rfl),hf]
  refine I.write (x:=p) (e:=p) (by rw [h]; trivial) (.inl rfl) (fun b u hb q=>(Heap.get?_update_other _ _ (Ne.symm hb)).trans q) ⟨_,e⟩ ?_
  exact ⟨hz,its',n',r,e⟩
def rSetL:V→V→V→Hp→(Hp→Prop)→Prop:=fun o i v H Q=>∃ p xs k j,o=.ref p∧i=.int k∧H p=some (.lst xs)∧ixN xs.length k=some j∧Q (upd H p (.lst (xs.set j v)))
theorem set_list:PSet X rSetL:=by
  intro pins s σ H o i v ov iv u Q I ro ri rv h
  obtain ⟨p,xs,k,j,rfl,rfl,hp,hj,q⟩:=h
  cases ro
  obtain ⟨t,rfl⟩:=ri
  obtain ⟨its,n,r,ho,hz⟩:=I.lst hp
  obtain ⟨h1,h2,h3,h4⟩:=ixN_seq hj
  have hl:=r.length
  have hn:=line63
  have I':Inv X pins σ (upd H p (.lst (xs.set j v))) {s with heap:=s.heap.update p (Obj.mapSeq (·.setIfInBounds j u))}:=
    I.lstUpd hp ho (mapSeq_set its n j u) (r.set rv j) (by rw [List.length_set]; exact hz) s.toks
  by_cases h0:0≤k
  · have hk:k.toNat=j:=by
      rw [seqIndex_of h0 h4] at h1
      exact Option.some.inj h1
    exact PySem.W.ki_setAt ho h0 (by omega) (by rw [List.size_toArray,← hl]; exact h4) (by rw [hk]; exact ⟨_,I',q⟩)
  · have hk:(k + (its.toArray.size:Int)).toNat=j:=by
      rw [seqIndex_neg (by omega) h3] at h1
      rw [List.size_toArray,← hl]
      exact Option.some.inj h1
    exact PySem.W.ki_setBack ho (by omega) (by rw [List.size_toArray,← hl]; exact h3) (by omega) (by rw [hk]; exact ⟨_,I',q⟩)
theorem slice_bounds (lo hi:Option Int) (n:Nat):(sliceBounds lo hi none n).1=((HT.sIx n 0 lo:Nat):Int)∧(sliceBounds lo hi none n).2.1=((HT.sIx n n hi:Nat):Int)∧(sliceBounds lo hi none n).2.2=1:=by
  refine ⟨?_,?_,rfl⟩
  · cases lo with
    | none=>simp [sliceBounds,HT.sIx]
    | some i =>
      simp only [sliceBounds,HT.sIx,Option.getD_none,show (1:Int) > 0 by decide,if_true]
      by_cases h:i < 0
      · simp only [h,if_true] <;> omega
      · simp only [h,if_false] <;> omega
  · cases hi with
    | none=>simp [sliceBounds,HT.sIx]
    | some i =>
      simp only [sliceBounds,HT.sIx,Option.getD_none,show (1:Int) > 0 by decide,if_true]
      by_cases h:i < 0
      · simp only [h,if_true] <;> omega
      · simp only [h,if_false] <;> omega
theorem slicePick_cut (its:List Value) (lo hi:Option Int):slicePick its.toArray lo hi none=((its.drop (HT.sIx its.length 0 lo)).take (HT.sIx its.length its.length hi - HT.sIx its.length 0 lo)).toArray:=by
  obtain ⟨h1,h2,h3⟩:=slice_bounds lo hi its.toArray.size
  unfold slicePick
  rw [h1,h2,h3]
  simp only [sliceRange_one,pick_run,List.size_toArray] <;> rfl
def rSlL (K:PySem.W.Frag):V→Option Int→Option Int→Hp→VK→Prop:=fun x lo hi H Q=>∃ a xs,x=.ref a∧SqL K H a xs∧∀ p,H p=none→Q (.ref p) (upd H p (.lst (cutV xs lo hi)))
theorem sl_list:SlR X (rSlL X.K):=by
  intro pins s σ H x v vl vu lo hi sl Q I rx hs pl pu h
  obtain ⟨a,xs,rfl,hx,q⟩:=h
  cases rx
  obtain ⟨its,r,ht,hz⟩:=I.list hx
  have hlen:=r.length
  refine ⟨"list",_,slot_list_getitem.lookup,ht.isList.typeIs,?_⟩
  refine wpAny_getItem_list_slice ht.isList hs pl pu .none (by simp) ?_ (by rw [List.size_toArray] <;> omega)
  rw [slicePick_cut,← hlen]
  refine ⟨.ref s.heap.objs.size,_,I.laid (t':=s.toks) (o:=.lst (cutV xs lo hi)) (fun b ob q=>Heap.get?_push_of_some _ q) (Nat.le_refl _) ?_,rfl,q _ (I.hok.fresh (Nat.le_refl _))⟩
  exact ⟨Nat.le_trans (cutV_length xs lo hi) hz,_,0,(r.drop (HT.sIx xs.length 0 lo)).take (HT.sIx xs.length xs.length hi - HT.sIx xs.length 0 lo),Heap.get?_push_size _ rfl⟩
def flatV:V→Bool
  | .non=>true
  | .bl _=>true
  | .int _=>true
  | .str _=>true
  | _=>false
def eqV:V→V→Bool
  | .non,.non=>true
  | .bl a,.bl b=>a == b
  | .bl a,.int b=>(if a then 1 else 0) == b
  | .int a,.bl b=>a == (if b then 1 else 0)
  | .int a,.int b=>a == b
  | .str a,.str b=>a == b
  | _,_=>false
theorem eqAt_V {A:Around} {s:Shared} {y x:V} {u v:Value} (ry:RelV y u) (rx:RelV x v) (fy:flatV y=true) (fx:flatV x=true):SeqAt.EqAt A s u v (eqV y x):=by
  cases y with
  | non =>
    cases ry
    cases x with
    | non=>cases rx; exact SeqAt.EqAt.same _
    | bl b=>cases rx; exact SeqAt.EqAt.none_bool b
    | int b=>obtain ⟨t,rfl⟩:=rx; exact SeqAt.EqAt.none_int b t
    | str b=>obtain ⟨t,rfl⟩:=rx; exact SeqAt.EqAt.none_str b t
    | _=>exact absurd (show false=true from fx) Bool.false_ne_true
  | bl a =>
    cases ry
    cases x with
    | non=>cases rx; exact SeqAt.EqAt.bool_none a
    | bl b=>cases rx; exact SeqAt.EqAt.bool_bool a b
    | int b=>obtain ⟨t,rfl⟩:=rx; exact SeqAt.EqAt.bool_int a b t
    | str b=>obtain ⟨t,rfl⟩:=rx; exact SeqAt.EqAt.bool_str a b t
    | _=>exact absurd (show false=true from fx) Bool.false_ne_true
  | int a =>
    obtain ⟨t',rfl⟩:=ry
    cases x with
    | non=>cases rx; exact SeqAt.EqAt.int_none a t'
    | bl b=>cases rx; exact SeqAt.EqAt.int_bool a t' b
    | int b=>obtain ⟨t,rfl⟩:=rx; exact SeqAt.EqAt.int_int a t' b t
    | str b=>obtain ⟨t,rfl⟩:=rx; exact SeqAt.EqAt.int_str a t' b t
    | _=>exact absurd (show false=true from fx) Bool.false_ne_true
  | str a =>
    obtain ⟨t',rfl⟩:=ry
    cases x with
    | non=>cases rx; exact SeqAt.EqAt.str_none a t'
    | bl b=>cases rx; exact SeqAt.EqAt.str_bool a t' b
    | int b=>obtain ⟨t,rfl⟩:=rx; exact SeqAt.EqAt.str_int a t' b t
    | str b=>obtain ⟨t,rfl⟩:=rx; exact SeqAt.EqAt.str_str a t' b t
    | _=>exact absurd (show false=true from fx) Bool.false_ne_true
  | _=>exact absurd (show false=true from fy) Bool.false_ne_true
def eqU (x:V) (u:Value):Bool:=match u with
  | .none=>eqV .non x
  | .bool b=>eqV (.bl b) x
  | .int i _=>eqV (.int i) x
  | .str z _=>eqV (.str z) x
  | _=>false
theorem eqU_of {x y:V} {u:Value} (r:RelV y u) (f:flatV y=true):eqU x u=eqV y x:=by
  cases y with
  | non=>cases r; rfl
  | bl b=>cases r; rfl
  | int i=>obtain ⟨t,rfl⟩:=r; rfl
  | str z=>obtain ⟨t,rfl⟩:=r; rfl
  | _=>exact absurd (show false=true from f) Bool.false_ne_true
theorem any_eqU {x:V}:∀ {xs:List V} {us:List Value},Vals xs us→xs.all flatV=true→us.any (eqU x)=xs.any fun y=>eqV y x
  | _,_,.nil,_=>rfl
  | y :: xs,u :: us,.cons r t,f=>by
    rw [List.all_cons,Bool.and_eq_true] at f
    rw [List.any_cons,List.any_cons,eqU_of r f.1,any_eqU t f.2]
theorem mem_eqAt {A:Around} {s:Shared} {x:V} {v:Value} (rx:RelV x v) (fx:flatV x=true):∀ {xs:List V} {us:List Value},Vals xs us→xs.all flatV=true→∀ u∈us,SeqAt.EqAt A s u v (eqU x u)
  | _,_,.nil,_=>fun u hu=>by cases hu
  | y :: xs,u :: us,.cons r t,f=>fun u' hu=>by
    rw [List.all_cons,Bool.and_eq_true] at f
    rcases List.mem_cons.mp hu with rfl | hu
    · rw [eqU_of r f.1]; exact eqAt_V r rx f.1 fx
    · exact mem_eqAt rx fx t f.2 u' hu
def inV (x:V) (xs:List V):Bool:=xs.any fun y=>eqV y x
def rIn (K:PySem.W.Frag) (neg:Bool):R2:=fun x y H Q=>∃ p xs,y=.ref p∧(SqL K H p xs∨SqT K H p xs)∧flatV x=true∧xs.all flatV=true∧Q (.bl (if neg then !inV x xs else inV x xs)) H
theorem op_in_seq:OpR X (compareOp .In) (rIn X.K false):=by
  intro pins s σ H x y v u Q I rx ry h
  obtain ⟨p,xs,rfl,hq,fx,fs,q⟩:=h
  cases ry
  rcases hq with hq | hq
  · obtain ⟨its,r,pl,hz⟩:=I.list hq
    refine SeqAt.in_listAt (eqU x) pl.isList (fun w hw=>mem_eqAt rx fx r fs w (by simpa using hw)) ⟨.bl _,H,I,rfl,?_⟩
    rw [show its.toArray.any (eqU x)=its.any (eqU x) by simp,any_eqU r fs]
    exact q
  · obtain ⟨its,r,pl,hz⟩:=I.tuple hq
    refine SeqAt.in_tupleAt (eqU x) pl (fun w hw=>mem_eqAt rx fx r fs w (by simpa using hw)) ⟨.bl _,H,I,rfl,?_⟩
    rw [show its.toArray.any (eqU x)=its.any (eqU x) by simp,any_eqU r fs]
    exact q
theorem call_len_seq:CallR X (.builtin "len") (fun xs H Q=>∃ p ys,xs=[.ref p]∧(SqL X.K H p ys∨SqT X.K H p ys)∧Q (.int ys.length) H):=by
  intro pins s σ H xs us Q I r h
  obtain ⟨p,ys,rfl,hq,q⟩:=h
  obtain ⟨u,rfl,rx⟩:=vals1 r
  cases rx
  have hn:=line63
  rcases hq with hq | hq
  · obtain ⟨its,r',pl,hz⟩:=I.list hq
    have hlen:=r'.length
    exact Calls.call_len_list pl.isList (by simp only [List.size_toArray] <;> omega) ⟨.int ys.length,H,I.tok _,⟨s.toks + 1,by rw [List.size_toArray,hlen]⟩,q⟩
  · obtain ⟨its,r',pl,hz⟩:=I.tuple hq
    have hlen:=r'.length
    exact len_tuple pl (by simp only [List.size_toArray] <;> omega) ⟨.int ys.length,H,I.tok _,⟨s.toks + 1,by rw [List.size_toArray,hlen]⟩,q⟩
theorem call_list_of:CallR X (.type "list") (fun xs H Q=>∃ p ys,xs=[.ref p]∧(SqL X.K H p ys∨SqT X.K H p ys)∧∀ l,H l=none→Q (.ref l) (upd H l (.lst ys))):=by
  intro pins s σ H xs us Q I r h
  obtain ⟨p,ys,rfl,hq,q⟩:=h
  obtain ⟨u,rfl,rx⟩:=vals1 r
  cases rx
  have fin:∀ (its:List Value),Vals ys its→ys.length≤sizeLine→∀ (h':Heap) (c':Nat),(∀ b o',s.heap.get? b=some o'→h'.get? b=some o') →
      h'.get? s.heap.objs.size=some {cls:=.type "list",dict:=none,data:=.seq its.toArray c',slots:=#[]}→EP X pins σ Q (.ref s.heap.objs.size) {s with heap:=h'}:=fun its r' hz h' c' kp e =>
    ⟨.ref s.heap.objs.size,_,I.laid (t':=s.toks) kp (Nat.le_refl _) (show ObjOk X.prog X.w _ h' _ (.lst ys) from ⟨hz,its,c',r',e⟩),rfl,q _ (I.hok.fresh (Nat.le_refl _))⟩
  rcases hq with hq | hq
  · obtain ⟨its,r',pl,hz⟩:=I.list hq
    have hlen:=r'.length
    obtain ⟨o,ho,hc,n,hd⟩:=pl.isList
    exact call_list_seq p (.inl rfl) ho hc hd (fun h' c' kp e=>fin its r' hz h' c' kp e) (by simp only [List.size_toArray] <;> omega)
  · obtain ⟨its,r',pl,hz⟩:=I.tuple hq
    have hlen:=r'.length
    obtain ⟨o,ho,hc,n,hd⟩:=pl
    exact call_list_seq p (.inr rfl) ho hc hd (fun h' c' kp e=>fin its r' hz h' c' kp e) (by simp only [List.size_toArray] <;> omega)
theorem call_tuple_of:CallR X (.type "tuple") (fun xs H Q=>∃ p ys,xs=[.ref p]∧((SqL X.K H p ys∧∀ l,H l=none→Q (.ref l) (upd H l (.tup ys)))∨(SqT X.K H p ys∧Q (.ref p) H))):=by
  intro pins s σ H xs us Q I r h
  obtain ⟨p,ys,rfl,h⟩:=h
  obtain ⟨u,rfl,rx⟩:=vals1 r
  cases rx
  rcases h with ⟨hq,q⟩ | ⟨hq,q⟩
  · obtain ⟨its,r',pl,hz⟩:=I.list hq
    have hlen:=r'.length
    refine call_tuple_list pl.isList (fun h' kp=>?_) (by simp only [List.size_toArray] <;> omega)
    have I1:Inv X pins σ H {s with heap:=h'}:=I.kept (t':=s.toks) kp
    have I2:Inv X pins σ (upd H h'.objs.size (.tup ys)) {s with heap:=h'.push {cls:=.type "tuple",data:=.seq its.toArray}}:=
      I1.laid (t':=s.toks) (fun b o e=>Heap.get?_push_of_some _ e) (Nat.le_refl _) (show ObjOk X.prog X.w _ _ _ (.tup ys) from ⟨hz,its,r',IsTup.new _ _⟩)
    exact ⟨.ref h'.objs.size,_,I2,rfl,q _ (I1.hok.fresh (Nat.le_refl _))⟩
  · obtain ⟨its,r',pl,hz⟩:=I.tuple hq
    exact call_tuple_same pl ⟨.ref p,H,I,rfl,q⟩
def tyV (K:PySem.W.Frag) (T:String) (x:V) (H:Hp):Prop:=match x with
  | .str _=>T="str"
  | .int _=>T="int"
  | .ref p=>(T="list"∧∃ xs,SqL K H p xs)∨(T="tuple"∧∃ o,K.lookup p=some o∧o.cls=.type "tuple"∧o.dict=none) ∨
      (T="dict"∧((∃ kvs,H p=some (.dK kvs))∨∃ kvs,H p=some (.dT kvs)))∨(T="set"∧∃ S n,H p=some (.set S n))
  | _=>False
theorem tyV_is {pins:List (Addr×Obj)} {σ:St} {H:Hp} {s:Shared} {T:String} {x:V} {v:Value} (I:Inv X pins σ H s) (r:RelV x v) (ty:tyV X.K T x H) :
    s.TypeIs v T∧∀ a,v=.ref a→∃ ob,s.heap.get? a=some ob∧ob.dict=none:=by
  cases x with
  | str z =>
    obtain ⟨t,rfl⟩:=r
    cases (show T="str" from ty)
    exact ⟨typeIs_str s z t,fun _ e=>nomatch e⟩
  | int i =>
    obtain ⟨t,rfl⟩:=r
    cases (show T="int" from ty)
    exact ⟨typeIs_int s i t,fun _ e=>nomatch e⟩
  | ref p =>
    cases r
    rcases ty with ⟨rfl,xs,hq⟩ | ⟨rfl,o,hk,hc,hd⟩ | ⟨rfl,hk⟩ | ⟨rfl,S,n,hk⟩
    · obtain ⟨its,_,pl,_⟩:=I.list hq
      refine ⟨pl.isList.typeIs,fun a e=>?_⟩
      cases e
      obtain ⟨o,n,e,c,hd,_⟩:=pl
      exact ⟨o,e,hd⟩
    · refine ⟨⟨o,I.kIn p o hk,hc⟩,fun a e=>?_⟩
      cases e
      exact ⟨o,I.kIn _ o hk,hd⟩
    · have z:∃ o,s.heap.get? p=some o∧o.ExactDict:=by
        rcases hk with ⟨kvs,hk⟩ | ⟨kvs,hk⟩
        · obtain ⟨_,_,_,_,o,_,_,e,ex,_⟩:=I.hok p _ hk
          exact ⟨o,e,ex⟩
        · obtain ⟨_,_,_,_,o,_,_,e,ex,_⟩:=I.hok p _ hk
          exact ⟨o,e,ex⟩
      obtain ⟨o,e,ex⟩:=z
      refine ⟨⟨o,e,ex.1⟩,fun a e2=>?_⟩
      cases e2
      exact ⟨o,e,ex.2.1⟩
    · obtain ⟨o,_,_,_,e,ex,_⟩:=I.hok p _ hk
      refine ⟨⟨o,e,ex.1⟩,fun a e2=>?_⟩
      cases e2
      exact ⟨o,e,ex.2.1⟩
  | _=>exact False.elim ty
def tBM0 (K:PySem.W.Frag) (T:String) (r:V→List V→Hp→VK→Prop) (to:TE):TE:=fun σ H Q=>to σ H fun x H1=>tyV K T x H1∧r x [] H1 Q
def tBM (K:PySem.W.Frag) (T:String) (r:V→List V→Hp→VK→Prop) (to:TE) (t:TA):TE:=fun σ H Q=>to σ H fun x H1=>tyV K T x H1∧t σ H1 fun xs H2=>r x xs H2 Q
variable {o e:Expr} {es:List Expr} {to:TE} {t:TA} {name:Str} {apos cpos:Pos} {T id:String} {r:V→List V→Hp→VK→Prop}
theorem pe_bm0 (pa:PlainAttrs T) (slot:Slot T name id) (hty:typeOf (.builtin id)=pure (.type "method_descriptor")) (hm:MtR X id r) (ho:PE X o to)
    (hbase:attributeBase o name X.env (eval o X.env)=eval o X.env:=by rfl) (hline:(apos.endLine == cpos.line)=true:=by rfl):PE X (.Call (.Attribute o name apos) [] [] cpos) (tBM0 X.K T r to):=by
  intro pins s σ H Q I h
  refine wpAny_Call_method0_late hbase hline (thn (ho pins s σ H _ I h) fun v s1 ⟨x,H1,I1,r1,ty,q1⟩=>?_)
  obtain ⟨h1,h2⟩:=tyV_is I1 r1 ty
  exact ⟨T,id,pa,slot,hty,h1,h2,Calls.callWith_builtin rfl (PySem.evalArgs_none (hm pins s1 σ H1 x [] v [] Q I1 r1 .nil q1))⟩
theorem pe_bm (pa:PlainAttrs T) (slot:Slot T name id) (hty:typeOf (.builtin id)=pure (.type "method_descriptor")) (hm:MtR X id r) (ho:PE X o to) (ha:PA X (e :: es) t)
    (hbase:attributeBase o name X.env (eval o X.env)=eval o X.env:=by rfl)
    (hfew:((backTo cpos (starEach (e :: es) X.env)).all (fun x=>!x.1) && (backToKw cpos (keywordEach [] X.env)).all (fun x=>x.1.isSome)
      && decide ((e :: es).length + ([]:List Keyword).length + (if ([]:List Keyword).isEmpty then 0 else 1) < 30))=true:=by rfl)
    (hline:(apos.endLine == cpos.line)=true:=by rfl) (hs:starEach (e :: es) X.env=(false,eval e X.env) :: starEach es X.env:=by rfl) (hplain:(backTo cpos (starEach es X.env)).any (·.1)=false:=by rfl) :
    PE X (.Call (.Attribute o name apos) (e :: es) [] cpos) (tBM X.K T r to t):=by
  intro pins s σ H Q I h
  refine wpAny_Call_method_late hbase hfew hline rfl (thn (ho pins s σ H _ I h) fun v s1 ⟨x,H1,I1,r1,ty,q1⟩=>?_)
  obtain ⟨h1,h2⟩:=tyV_is I1 r1 ty
  refine ⟨T,id,pa,slot,hty,h1,h2,?_⟩
  have hA:=ha cpos pins s1 σ H1 _ I1 q1
  rw [hs] at hA ⊢
  refine Calls.callWith_builtin (by show (false || (backTo cpos (starEach es X.env)).any (·.1))=false; rw [hplain] <;> rfl) (Calls.evalArgs_plain ?_)
  exact thn hA fun us s2 ⟨vs,H2,I2,r2,q2⟩=>hm pins s2 σ H2 x vs v us Q I2 r1 r2 q2
end
end L2
namespace L2
open PySem PySem.Spec PyProof.Rows
def MtM (X:Cx) (id:String) (r:V→List V→Hp→VK→Prop):Prop:=
  ∀ (pins:List (Addr×Obj)) (s:Shared) (σ:St) (H:Hp) (x:V) (xs:List V) (v:Value) (us:List Value) (Q:VK),Inv X pins σ H s→RelV x v→Vals xs us→r x xs H Q →
    wpAny (model X.prog X.w) X.A (call (.builtin id) (v :: us)) (EP X pins σ Q) X.xe s
theorem Vals.one:∀ {x:V} {us:List Value},Vals [x] us→∃ u,us=[u]∧RelV x u
  | _,_,.cons r .nil=>⟨_,rfl,r⟩
theorem Vals.zero:∀ {us:List Value},Vals [] us→us=[]
  | _,.nil=>rfl
theorem Vals.dropLast {xs:List V} {us:List Value} (h:Vals xs us):Vals xs.dropLast us.dropLast:=by
  induction h with
  | nil=>exact .nil
  | cons r t ih =>
    cases t with
    | nil=>exact .nil
    | cons q t'=>exact .cons r ih
theorem Vals.eraseIdx:∀ {xs:List V} {us:List Value} (i:Nat),Vals xs us→Vals (xs.eraseIdx i) (us.eraseIdx i)
  | _,_,_,.nil=>.nil
  | _,_,0,.cons _ t=>t
  | _,_,i + 1,.cons r t=>.cons r (Vals.eraseIdx i t)
theorem Vals.reverse {xs:List V} {us:List Value} (h:Vals xs us):Vals xs.reverse us.reverse:=by
  induction h with
  | nil=>exact .nil
  | cons r t ih=>rw [List.reverse_cons,List.reverse_cons]; exact Vals.append ih (.cons r .nil)
theorem erase_last {α:Type} (l:List α):l.eraseIdx (l.length - 1)=l.dropLast:=by
  induction l with
  | nil=>rfl
  | cons a r ih =>
    cases r with
    | nil=>rfl
    | cons b r =>
      have e:(a :: b :: r).length - 1=((b :: r).length - 1) + 1:=by
        have h1:(a :: b :: r).length=r.length + 2:=rfl
        have h2:(b :: r).length=r.length + 1:=rfl
        omega
      rw [e,List.eraseIdx_cons_succ,ih]
      all_goals rfl
theorem len_erase {α:Type}:∀ (l:List α) (i:Nat),(l.eraseIdx i).length≤l.length
  | [],_=>Nat.le_refl _
  | _ :: _,0=>Nat.le_succ _
  | _ :: r,i + 1=>Nat.succ_le_succ (len_erase r i)
section
variable {X:Cx} {pins:List (Addr×Obj)} {σ:St} {H:Hp} {s:Shared} {l b:Addr} {xs ys zs:List V}
theorem Inv.lset {its its':List Value} {n:Nat} {f:Array Value→Array Value} {t':Nat} (I:Inv X pins σ H s) (hH:H l=some (.lst xs))
    (e:s.heap.get? l=some {cls:=.type "list",data:=.seq its.toArray n}) (hf:f its.toArray=its'.toArray) (hv:Vals ys its') (hz:ys.length≤sizeLine) :
    Inv X pins σ (upd H l (.lst ys)) {s with heap:=s.heap.update l (Obj.mapSeq f),toks:=t'}:=by
  have q:=PySem.IsL.update e f
  rw [hf] at q
  refine I.write (x:=l) (e:=l) (by rw [hH]; exact trivial) (.inl rfl) (fun b' u hb hu=>(Heap.get?_update_other s.heap (Obj.mapSeq f) (Ne.symm hb)).trans hu) ⟨_,q⟩ ?_
  exact ⟨hz,its',_,hv,q⟩
theorem Inv.lnew {its:List Value} {t':Nat} (I:Inv X pins σ H s) (hv:Vals ys its) (hz:ys.length≤sizeLine) :
    Inv X pins σ (upd H s.heap.objs.size (.lst ys)) {s with heap:=s.heap.push {cls:=.type "list",data:=.seq its.toArray},toks:=t'}:=
  I.laid (fun _ _ q=>Heap.get?_push_of_some _ q) (Nat.le_refl _) ⟨hz,its,0,hv,Heap.get?_push_size _ rfl⟩
theorem Inv.fresh (I:Inv X pins σ H s):H s.heap.objs.size=none:=I.hok.fresh (Nat.le_refl _)
theorem Inv.lstM (I:Inv X pins σ H s) (hH:H l=some (.lst xs)):xs.length≤sizeLine∧∃ (its:List Value) (n:Nat),Vals xs its∧xs.length=its.length∧s.heap.get? l=some {cls:=.type "list",data:=.seq its.toArray n}:=by
  obtain ⟨z,its,n,r,e⟩:=I.hok l _ hH
  exact ⟨z,its,n,r,r.length,e⟩
theorem notLongL {n:Nat} (h:n≤sizeLine):Builtin.List.listTooLong n=false:=by
  unfold Builtin.List.listTooLong
  exact decide_eq_false (by omega)
end
section
variable {X:Cx}
def rAppend:V→List V→Hp→VK→Prop:=fun x vs H Q=>∃ l xs y,x=.ref l∧vs=[y]∧H l=some (.lst xs)∧xs.length < sizeLine∧Q .non (upd H l (.lst (xs++[y])))
theorem mt_append:MtM X "list.append" rAppend:=by
  intro pins s σ H x vs v us Q I rx rv h
  obtain ⟨l,xs,y,rfl,rfl,hH,hz,q⟩:=h
  cases rx
  obtain ⟨u,rfl,ru⟩:=rv.one
  obtain ⟨z,its,n,r,hl,e⟩:=I.lstM hH
  refine call_meets F.slot_list_append ⟨_,e,rfl⟩ F.entry_list_append (F.args_list_append_2 _ _) (PySem.list_append l its.toArray n u (by rw [List.size_toArray]; omega)) ⟨e,?_⟩
  refine ⟨.non,_,I.lset (its':=its++[u]) hH e (by simp) (r.append (.cons ru .nil)) ?_,rfl,q⟩
  rw [List.length_append,List.length_singleton]
  omega
def rExtend:V→List V→Hp→VK→Prop:=fun x vs H Q=>∃ l b xs zs,x=.ref l∧vs=[.ref b]∧H l=some (.lst xs)∧H b=some (.lst zs)∧xs.length + zs.length≤sizeLine∧Q .non (upd H l (.lst (xs++zs)))
theorem mt_extend:MtM X "list.extend" rExtend:=by
  intro pins s σ H x vs v us Q I rx rv h
  obtain ⟨l,b,xs,zs,rfl,rfl,hH,hB,hz,q⟩:=h
  cases rx
  obtain ⟨u,rfl,ru⟩:=rv.one
  cases ru
  obtain ⟨z,its,n,r,hl,e⟩:=I.lstM hH
  obtain ⟨z2,its2,n2,r2,hl2,e2⟩:=I.lstM hB
  have hsz:its.toArray.size + its2.toArray.size≤sizeLine:=by rw [List.size_toArray,List.size_toArray]; omega
  have hlong:¬ (!its.toArray.isEmpty && Builtin.List.listTooLong (its.toArray.size + its2.toArray.size))=true:=by
    rw [notLongL hsz,Bool.and_false]
    exact Bool.false_ne_true
  refine call_meets F.slot_list_extend ⟨_,e,rfl⟩ F.entry_list_extend (F.args_list_extend_2 _ _)
    (AutoSeq1.list_extend_list_list_0 l its.toArray n b its2.toArray n2 hlong (by rw [List.size_toArray]; omega) (by omega)) ⟨e,e2,?_⟩
  refine ⟨.non,_,I.lset (its':=its++its2) hH e (by simp) (r.append r2) ?_,rfl,q⟩
  rw [List.length_append]
  omega
def rPop:V→List V→Hp→VK→Prop:=fun x vs H Q=>∃ l xs y,x=.ref l∧vs=[]∧H l=some (.lst xs)∧xs[xs.length - 1]?=some y∧Q y (upd H l (.lst xs.dropLast))
theorem mt_pop:MtM X "list.pop" rPop:=by
  intro pins s σ H x vs v us Q I rx rv h
  obtain ⟨l,xs,y,rfl,rfl,hH,hy,q⟩:=h
  cases rx
  have hus:=rv.zero
  subst hus
  obtain ⟨z,its,n,r,hl,e⟩:=I.lstM hH
  obtain ⟨u,hu,ru⟩:=r.get hy
  have hy':its.toArray[its.toArray.size - 1]?=some u:=by
    show its.toArray[its.length - 1]?=some u
    rw [← Array.getElem?_toList,← hl]
    exact hu
  refine call_meets F.slot_list_pop ⟨_,e,rfl⟩ F.entry_list_pop (F.args_list_pop_1 _) (MeetsSeq.list_pop_last l its.toArray n u hy' (by rw [List.size_toArray]; omega)) ⟨e,?_⟩
  refine ⟨y,_,I.lset (its':=its.dropLast) hH e ?_ r.dropLast ?_,ru,q⟩
  · show its.toArray.eraseIdxIfInBounds (its.toArray.size - 1)=its.dropLast.toArray
    rw [List.size_toArray,List.eraseIdxIfInBounds_toArray,erase_last]
  · rw [List.length_dropLast]
    omega
def rPopAt:V→List V→Hp→VK→Prop:=fun x vs H Q=>∃ l xs i k y,x=.ref l∧vs=[.int i]∧H l=some (.lst xs)∧-(2 ^ 63)≤i∧i < 2 ^ 63∧seqIndex? i xs.length=some k∧xs[k]?=some y∧Q y (upd H l (.lst (xs.eraseIdx k)))
theorem mt_popAt:MtM X "list.pop" rPopAt:=by
  intro pins s σ H x vs v us Q I rx rv h
  obtain ⟨l,xs,i,k,y,rfl,rfl,hH,h1,h2,hk,hy,q⟩:=h
  cases rx
  obtain ⟨u,rfl,ru⟩:=rv.one
  obtain ⟨t,rfl⟩:=ru
  obtain ⟨z,its,n,r,hl,e⟩:=I.lstM hH
  obtain ⟨w,hw,rw'⟩:=r.get hy
  refine call_meets F.slot_list_pop ⟨_,e,rfl⟩ F.entry_list_pop (F.args_list_pop_2 _ _)
    (MeetsSeq.list_pop_at l its.toArray n i t k w (fitsIndex_both h1 h2) (by rw [List.size_toArray,← hl]; exact hk) (by rw [← Array.getElem?_toList]; exact hw) (by rw [List.size_toArray]; omega)) ⟨e,?_⟩
  refine ⟨y,_,I.lset (its':=its.eraseIdx k) hH e ?_ (r.eraseIdx k) ?_,rw',q⟩
  · show its.toArray.eraseIdxIfInBounds k=(its.eraseIdx k).toArray
    rw [List.eraseIdxIfInBounds_toArray]
  · have:=len_erase xs k
    omega
def rReverse:V→List V→Hp→VK→Prop:=fun x vs H Q=>∃ l xs,x=.ref l∧vs=[]∧H l=some (.lst xs)∧Q .non (upd H l (.lst xs.reverse))
def rClear:V→List V→Hp→VK→Prop:=fun x vs H Q=>∃ l xs,x=.ref l∧vs=[]∧H l=some (.lst xs)∧Q .non (upd H l (.lst []))
def rCat:R2:=fun x y H Q=>∃ l b xs zs,x=.ref l∧y=.ref b∧H l=some (.lst xs)∧H b=some (.lst zs)∧xs.length + zs.length≤sizeLine∧∀ p,H p=none→Q (.ref p) (upd H p (.lst (xs++zs)))
theorem op_cat:OpR X (binaryOp .Add) rCat:=by
  intro pins s σ H x y v u Q I rx ry h
  obtain ⟨l,b,xs,zs,rfl,rfl,hH,hB,hz,q⟩:=h
  cases rx
  cases ry
  obtain ⟨z,its,n,r,hl,e⟩:=I.lstM hH
  obtain ⟨z2,its2,n2,r2,hl2,e2⟩:=I.lstM hB
  refine PySem.P.add_list e e2 ?_ (by rw [List.size_toArray,List.size_toArray]; omega)
  have ea:its.toArray++its2.toArray=(its++its2).toArray:=by simp
  rw [ea]
  exact ⟨.ref _,_,I.lnew (t':=s.toks) (r.append r2) (by rw [List.length_append]; omega),rfl,q _ I.fresh⟩
def rRep:R2:=fun x y H Q=>∃ l k xs,x=.ref l∧y=.int k∧H l=some (.lst xs)∧-(2 ^ 63)≤k∧k < 2 ^ 63∧xs.length * k.toNat≤sizeLine ∧
  ∀ p,H p=none→Q (.ref p) (upd H p (.lst (List.replicate k.toNat xs).flatten))
end
section
variable {prog:Program} {w:World} {A:Around} {E:Value→Shared→Prop} {s:Shared}
end
section
variable {X:Cx}
end
end L2
namespace Att
open PySem PySem.W PySem.Calls PyProof.Rows
theorem ints_of_wellAll {P:Params} {h:Heap}:∀ (ns:List Int) (vs:List Value),WellAll P h vs (ns.map WData.int)→IntsAre vs ns:=by
  intro ns
  induction ns with
  | nil =>
    intro vs w
    rw [List.map_nil] at w
    cases w
    exact .nil
  | cons n ns ih =>
    intro vs w
    rw [List.map_cons] at w
    cases w with
    | cons a b =>
      cases a
      exact .cons _ _ (ih _ b)
theorem script_of {l:OpenLaw} {n:Nat} (hn:l.most=some n) {P:Params} {h:Heap} {args:List WData} {vals:List Value}
    (hpre:l.row.toRowW.claim.pre args=true) (hwl:WellAll P h vals args) :
    ∃ a vs ns,vals=[Value.ref a]∧args=[WData.list (ns.map WData.int)]∧h.get? a=some {cls:=.type "list",data:=.seq vs.toArray}∧IntsAre vs ns∧ns.length≤n:=by
  have hsh:WShape.hasAll [] args [.list .int]=true:=(pre_splitW hpre).1
  have hc:l.pre.holds [] {args:=args}=true:=(pre_splitW hpre).2
  obtain ⟨d,r,rfl,h1,h2⟩:=hasAllW_cons hsh
  obtain rfl:=hasAllW_nil h2
  obtain ⟨xs,rfl,h3⟩:=hasW_list h1
  obtain ⟨ns,rfl⟩:=items_int h3
  have hlen:ns.length≤n:=by
    unfold OpenLaw.pre at hc
    have h4:(WTm.not (.lt (.lit (.int (n:Int))) (.len (.arg 0)))).holds [] {args:=[.list (ns.map .int)]}=true:=by
      have h4:=(holds_andW hc).1
      rw [hn] at h4
      exact h4
    have h5:=condW_of h4 (w_not (w_lt w_lit (w_len_list (w_arg rfl))))
    rw [List.length_map] at h5
    refine Nat.le_of_not_lt fun q=>?_
    have q':(n:Int) < ((ns.length:Nat):Int):=by omega
    first
      | (rw [decide_eq_true q'] at h5; exact absurd h5 (by decide))
      | (simp at h5; omega)
  cases hwl with
  | cons w1 w2 =>
    cases w2
    cases w1 with
    | list ho hall=>exact ⟨_,_,ns,rfl,rfl,ho,ints_of_wellAll ns _ hall,hlen⟩
theorem post_true (l:OpenLaw) (args:List WData):l.row.toRowW.claim.post args (.bool true) args=true:=
  postW_of (r:=l.row.toRowW) (X:=(true == true))
    (show WShape.has [] (.bool true) .bool=true by first | rfl | decide | simp [WShape.has,WShape.arms,WShape.armsAll])
    (show (WTm.eq .res (.lit (.bool true))).value [] {args:=args,res:=some (.bool true),after:=args}=some (.bool (true == true)) from w_eq_bool (w_res rfl) w_lit) rfl
section
variable {prog:Program} {w:World} {A:Around} {E:Value→Shared→Prop} {s:Shared} {K:Frag}
def noObjs (h:Heap):Heap:={h with objs:=#[]}
def ledger (h:Heap) (L d:Addr):List (Addr×Obj):=(List.range h.objs.size).filterMap fun a=>if a=L∨a=d then none else (h.get? a).map fun o=>(a,o)
end
end Att
namespace L2
open PySem PySem.Spec PyProof.Rows
theorem vals_ints:∀ {vs:List Value} {ns:List Int},IntsAre vs ns→Vals (ns.map V.int) vs
  | _,_,.nil=>.nil
  | _,_,.cons n t h=>.cons ⟨t,rfl⟩ (vals_ints h)
def Only (H:Hp):Prop:=∀ b,H b=none∨∃ o xs,H b=some (.frz o (.lst xs))
theorem law_call {P:Program} {w:World} {K:PySem.W.Frag} {mg mb:Str→Option Value} {CX:CXT} {k:Nat} {fa a:Addr} {fd:FuncData} {x:Str} {sp:Sp} {s₁:Shared} {vs:List Value} {ns:List Int}
    (KX:K.In s₁.heap) (hns:s₁.heap.Ns mainGlobals mg) (hb:s₁.heap.Ns builtinsNs mb) (hbb:∀ x:Str,x≠"__name__"→mb x=bootBuiltins x) (hlim:s₁.heap.NoLimit) (hg:s₁.gens=#[])
    (ha:s₁.heap.get? a=some {cls:=.type "list",data:=.seq vs.toArray}) (hi:IntsAre vs ns) (hl:ns.length≤sizeLine) (hr:Room k callerA)
    (F:∀ base:Heap,K.In base→base.Ns mainGlobals mg→FnOk P w K mg base CX k fa fd [x] sp) (hbind:∀ (s:Shared) (u:Value),BindsTo s fd ⟨[u],[]⟩ [(x,u)])
    (hsp:∀ H:Hp,Only H→SqL K H a (ns.map V.int)→sp [.ref a] H (fun v _=>v=.bl true) fun _ _ _=>False)
    (hCX:∀ H e s',CX [] H s₁ (fun _ _ _=>False) e s'→False) :
    codeAny (model P w) callerA (.call (.ref fa) ⟨[.ref a],[]⟩) (fun r s'=>r=.ok (.ret (.bool true))∧OldK s₁.heap s'.heap∧s'.os=s₁.os∧AllBare s'.gens) s₁:=by
  have rv:=vals_ints hi
  have lenV:=hi.length
  -- from an abstract heap in which nothing but the script may be tracked
  have core:∀ H:Hp,Only H→SqL K H a (ns.map V.int)→HOk P w H s₁.heap→(∀ b,H b≠none→b=a)→(H a≠none→K.lookup a=none) →
      codeAny (model P w) callerA (.call (.ref fa) ⟨[.ref a],[]⟩) (fun r s'=>r=.ok (.ret (.bool true))∧OldK s₁.heap s'.heap∧s'.os=s₁.os∧AllBare s'.gens) s₁:=by
    intro H hO hS hok hA hK
    have base_of:∀ {b:Addr} {o:Obj},s₁.heap.get? b=some o→H b=none→(hidT s₁.heap H).get? b=some o:=fun e n=>hidT_get e n
    have noA:∀ {b:Addr} {o:Obj} {es:Array DictEntry} {ep:Nat},s₁.heap.get? b=some o→o.data=.dict es ep→H b=none:=fun {b o es ep} e d=>by
      cases q:H b with
      | none=>rfl
      | some u =>
        have e':b=a:=hA b (by rw [q]; simp)
        subst e'
        rw [ha] at e; cases e
        have d':Data.seq vs.toArray _=Data.dict es ep:=d
        cases d'
    have nsK:∀ {b:Addr} {m:Str→Option Value},s₁.heap.Ns b m→(hidT s₁.heap H).Ns b m:=fun {b m} ⟨o,es,ep,e,d,r⟩=>⟨o,es,ep,base_of e (noA e d),d,r⟩
    have hKb:K.In (hidT s₁.heap H):=fun b o e=>base_of (KX b o e) (by
      cases q:H b with
      | none=>rfl
      | some u =>
        have e':b=a:=hA b (by rw [q]; simp)
        subst e'
        rw [hK (by rw [q]; simp)] at e; cases e)
    have hM:Mod K mg (hidT s₁.heap H):=⟨hKb,nsK hns,⟨mb,nsK hb,hbb⟩,let ⟨mc,h1,h2⟩:=hlim; ⟨mc,nsK h1,h2⟩⟩
    have e0:Env0 P w K mg (hidT s₁.heap H) callerA [] s₁ H:=⟨rfl,hM,fun b o e=>of_hidT e,Nat.le_of_eq (hidT_size _ _),trivial,fun b hb=>absurd (show b∈([]:List Addr) from hb) (by simp),hok,.of_eq hg⟩
    refine codeAny_mono ((F _ hKb (nsK hns)).run callerA [] s₁ H ⟨[.ref a],[]⟩ [.ref a] [.ref a] _ _ hr e0 (hbind s₁ (.ref a)) (.cons rfl .nil) (hsp H hO hS)) fun r s' h=>?_
    cases r with
    | error e=>exact (hCX H e s' h).elim
    | ok fl =>
      cases fl with
      | next=>exact False.elim h
      | brk=>exact False.elim h
      | cont=>exact False.elim h
      | ret u =>
        obtain ⟨v,H',os,bare,un,hok',r',q⟩:=h
        have q':v=.bl true:=q
        subst q'
        obtain rfl:u=Value.bool true:=r'
        refine ⟨rfl,OldK.of_keep fun b o e=>?_,os,bare⟩
        cases q:H b with
        | none=>exact un.keep b o e q (by intro z; exact absurd (show b∈([]:List Addr) from z) (by simp)) (by simp)
        | some u =>
          rcases hO b with z | ⟨ob,xs,z⟩
          · rw [q] at z; cases z
          · have z2:=un.frzs b ob _ z
            obtain ⟨e1,_⟩:=hok b _ z
            obtain ⟨e2,_⟩:=hok' b _ z2
            rw [e] at e1; cases e1
            exact e2
  cases hk:K.lookup a with
  | some o =>
    -- the script is one of the module's own objects
    have e:=KX a o hk
    rw [ha] at e
    cases e
    refine core (fun _=>none) (fun _=>.inl rfl) (.inr ⟨_,vs.toArray,_,hk,rfl,rfl,rfl,by rw [List.size_toArray,lenV]; exact hl,by simpa using rv⟩) (fun b u z=>by have z':(none:Option HO)=some u:=z; cases z') (fun b z=>absurd rfl z) fun z=>absurd rfl z
  | none =>
    refine core (fun b=>if b=a then some (.frz {cls:=.type "list",data:=.seq vs.toArray} (.lst (ns.map V.int))) else none) (fun b=>?_) (.inl (.inr ⟨{cls:=.type "list",data:=.seq vs.toArray},if_pos rfl⟩)) (fun b u z=>?_) (fun b z=>?_) fun _=>hk
    · by_cases hb:b=a
      · exact .inr ⟨_,_,if_pos hb⟩
      · exact .inl (if_neg hb)
    · by_cases hb:b=a
      · have z':=(if_pos hb).symm.trans z
        cases z'
        subst hb
        exact ⟨ha,by rw [List.length_map]; exact hl,vs,_,rv,ha⟩
      · have z':=(if_neg hb).symm.trans z
        cases z'
    · by_cases hb:b=a
      · exact hb
      · exact absurd (if_neg hb) z
end L2
namespace L2
open PySem PySem.Spec PyProof.Rows
abbrev KOf {K:PySem.W.Frag} {h:Heap} (_:K.In h):PySem.W.Frag:=K
end L2
namespace L2
open PySem PySem.Spec PyProof.Rows
def inClass (s:Stmt) (j:Nat):Stmt:=match s with
  | .ClassDef _ _ _ body _ _ _ _ _ _ _=>body.getD j (.Pass ⟨0,0,0,0⟩)
  | _=>.Pass ⟨0,0,0,0⟩
def defArgs (s:Stmt):Arguments:=match s with
  | .FunctionDef _ a _ _ _ _ _ _ _ _=>a
  | _=>{posonlyargs:=[],args:=[],vararg:=none,kwonlyargs:=[],kw_defaults:=[],kwarg:=none,defaults:=[]}
def defBody (s:Stmt):List Stmt:=match s with
  | .FunctionDef _ _ b _ _ _ _ _ _ _=>b
  | _=>[]
def defScope (s:Stmt):Scope:=match s with
  | .FunctionDef _ _ _ _ _ _ sc _ _ _=>sc
  | _=>{kind:=.function,names:=[],isGenerator:=false,isCoroutine:=false}
abbrev CX0:CXT:=fun _ _ _ _ _ _=>False
abbrev E0:XK:=fun _ _ _=>False
theorem pass0 {X:Cx}:Passes CX0 X E0:=fun _ _ _ _ _ _ _ h=>h.elim
structure Fun (K:PySem.W.Frag) (x qual:Str) (st:Stmt) (f:Addr) (fd:FuncData):Prop where
  ex:∃ (oc:Value) (od:Option Addr) (kV doc pm:Value) (an:Option Addr) (cdv ct:Value) (osl:Array (Option Value)),
    fd=PySem.W.fnOf x qual (defArgs st) (defBody st) (defScope st) .none kV doc pm an cdv ct∧K.lookup f=some ⟨oc,od,.func fd,osl⟩∧PySem.W.codeIn K cdv qual=true
  kp:PySem.W.keepIn K (.ref f)=true
section
variable {P:Program} {w:World} {K:PySem.W.Frag} {mg:Str→Option Value} {base:Heap}
theorem Fun.ok {x qual:Str} {st:Stmt} {f:Addr} {fd:FuncData} {N ps:List Str} {k:Nat} {sp:Sp} (F:Fun K x qual st f fd) (S:FnScope N ps (defScope st)) (len:∀ vs H Q E,sp vs H Q E→vs.length=ps.length)
    (hbody:∀ (cdv:Value) (A:Around) (outer:List Env) (s:Shared) (H:Hp) (vs:List V) (Q:VK) (E:XK),Room k (A.deeper (envOfC qual (defScope st) s.heap.objs.size f cdv))→sp vs H Q E →
      ∃ t,PSs (cxOf CX0 P w K mg base N qual (defScope st) f cdv A outer s H E).nox (defBody st) t∧t {nx:=fun _ H'=>Q .non H',rt:=Q} (start N vs) H):FnOk P w K mg base CX0 (k + 1) f fd ps sp:=by
  obtain ⟨oc,od,kV,doc,pm,an,cdv,ct,osl,rfl,lk,hcd⟩:=F.ex
  refine fn_of lk hcd S len fun A outer s H vs Q E hr hsp=>?_
  obtain ⟨t,h,q⟩:=hbody cdv A outer s H vs Q E hr hsp
  exact ⟨t,h.nox,q⟩
theorem Fun.binds {x qual:Str} {st:Stmt} {f:Addr} {fd:FuncData} {ps:List Str} (F:Fun K x qual st f fd)
    (h:∀ (kV doc pm:Value) (an:Option Addr) (cdv ct:Value) (us:List Value),us.length=ps.length→bindArgs (PySem.W.fnOf x qual (defArgs st) (defBody st) (defScope st) .none kV doc pm an cdv ct) ⟨us,[]⟩=pure (ps.zip us)):Binds K fd ps []:=by
  obtain ⟨oc,od,kV,doc,pm,an,cdv,ct,osl,rfl,lk,hcd⟩:=F.ex
  exact .all (h kV doc pm an cdv ct)
theorem fun_mk {x qual:Str} {st:Stmt} {f:Addr} {oc:Value} {od an:Option Addr} {osl:Array (Option Value)} {kV doc pm cdv ct:Value} (l:K.lookup f=some ⟨oc,od,.func (PySem.W.fnOf x qual (defArgs st) (defBody st) (defScope st) .none kV doc pm an cdv ct),osl⟩)
    (c:PySem.W.codeIn K cdv qual=true) (k:PySem.W.keepIn K (.ref f)=true):Fun K x qual st f (PySem.W.fnOf x qual (defArgs st) (defBody st) (defScope st) .none kV doc pm an cdv ct):=⟨⟨oc,od,kV,doc,pm,an,cdv,ct,osl,rfl,l,c⟩,k⟩
end
theorem hu_of {A:Around} {k:Nat} (hr:Room k A):A.units + 1 < cLine:=Nat.lt_of_le_of_lt (Nat.add_le_add_left (by decide:1≤64) _) hr.units
section
variable {X:Cx}
theorem pv (i:Nat) {x:Str} {pos:Pos} (hN:X.N[i]?=some x:=by rfl) (hv:Vis X.env.scope x:=by first | exact Or.inl rfl | exact Or.inr (Or.inl rfl) | exact Or.inr (Or.inr rfl)) (hd:(x == ("__debug__":Str))=false:=by decide)
    (hcd:(x == ("__classdict__":Str))=false:=by decide):PE X (.Name x pos) (tVar i):=pe_var hN hv hd hcd
end
theorem iteF {A B:Prop} (h:B):if false=true then A else B:=by
  rw [if_neg Bool.false_ne_true]
  exact h
theorem iteT {A B:Prop} (h:A):if true=true then A else B:=by
  rw [if_pos rfl]
  exact h
theorem ite2 {c A B:Prop} [Decidable c] (h1:c→A) (h2:¬ c→B):if c then A else B:=by
  by_cases h:c
  · rw [if_pos h]
    exact h1 h
  · rw [if_neg h]
    exact h2 h
def Same (H H':Hp):Prop:=∀ b o,H b=some o→H' b=some o
theorem Same.refl (H:Hp):Same H H:=fun _ _ h=>h
theorem Same.trans {H H1 H2:Hp} (a:Same H H1) (b:Same H1 H2):Same H H2:=fun c o h=>b c o (a c o h)
theorem Same.free {H H':Hp} (e:Same H H') {l:Addr} (h:H' l=Option.none):H l=Option.none:=by
  cases q:H l with
  | none=>rfl
  | some o =>
    rw [e l o q] at h
    cases h
end L2
namespace L2
open PySem PySem.Spec PyProof.Rows
section
variable {κ:Type} [DecidableEq κ]
def valV (kvs:List (κ×V)) (k:κ):Option V:=(kvs.find? fun kv=>decide (kv.1=k)).map (·.2)
def putK (kvs:List (κ×V)) (k:κ) (v:V):List (κ×V):=
  if (kvs.any fun kv=>decide (kv.1=k))=true then kvs.map (fun kv=>if kv.1=k then (kv.1,v) else kv) else kvs++[(k,v)]
def dropK (kvs:List (κ×V)) (k:κ):List (κ×V):=kvs.filter fun kv=>decide (kv.1≠k)
theorem valV_pos {p:κ×V} {r:List (κ×V)} {k:κ} (e:p.1=k):valV (p :: r) k=some p.2:=by simp [valV,List.find?_cons,e]
theorem valV_neg {p:κ×V} {r:List (κ×V)} {k:κ} (e:¬ p.1=k):valV (p :: r) k=valV r k:=by simp [valV,List.find?_cons,e]
theorem valV_any (k:κ):∀ kvs:List (κ×V),(kvs.any fun kv=>decide (kv.1=k))=(valV kvs k).isSome
  | []=>rfl
  | p :: r=>by
    rw [List.any_cons]
    by_cases e:p.1=k
    · simp only [valV_pos e,decide_eq_true e,Bool.true_or,Option.isSome_some]
    · rw [valV_neg e,decide_eq_false e,Bool.false_or]; exact valV_any k r
theorem length_putK (kvs:List (κ×V)) (k:κ) (v:V):(putK kvs k v).length≤kvs.length + 1:=by
  unfold putK
  split
  · rw [List.length_map]; omega
  · rw [List.length_append,List.length_cons,List.length_nil]; omega
theorem RelO.isSome_eq {o:Option V} {u:Option Value} (r:RelO o u):o.isSome=u.isSome:=by
  cases o with
  | none=>cases u with
    | none=>rfl
    | some _=>exact (show False from r).elim
  | some _=>cases u with
    | none=>exact (show False from r).elim
    | some _=>rfl
theorem KV.val {kvs:List (κ×V)} {vs:List (κ×Value)} (r:KV kvs vs) (k:κ):RelO (valV kvs k) (valueAt vs k):=by
  unfold KV at r
  induction r with
  | nil=>exact True.intro
  | @cons p q ps qs h t ih =>
    obtain ⟨h1,h2⟩:=h
    by_cases e:p.1=k
    · have e':q.1=k:=h1.symm.trans e
      have b:valueAt (q :: qs) k=some q.2:=by simp [valueAt,List.find?_cons,e']
      rw [valV_pos e,b]; exact h2
    · have e':¬ q.1=k:=fun z=>e (h1.trans z)
      have b:valueAt (q :: qs) k=valueAt qs k:=by simp [valueAt,List.find?_cons,e']
      rw [valV_neg e,b]; exact ih
theorem KV.any {kvs:List (κ×V)} {vs:List (κ×Value)} (r:KV kvs vs) (k:κ):(kvs.any fun kv=>decide (kv.1=k))=vs.any fun kv=>decide (kv.1=k):=by
  unfold KV at r
  induction r with
  | nil=>rfl
  | cons h t ih=>rw [List.any_cons,List.any_cons,ih,h.1]
theorem KV.repl {kvs:List (κ×V)} {vs:List (κ×Value)} (r:KV kvs vs) (k:κ) {y:V} {u:Value} (ry:RelV y u) :
    KV (kvs.map fun kv=>if kv.1=k then (kv.1,y) else kv) (vs.map fun kv=>if kv.1=k then (kv.1,u) else kv):=by
  unfold KV at r ⊢
  induction r with
  | nil=>exact .nil
  | @cons p q ps qs h t ih =>
    rw [List.map_cons,List.map_cons]
    refine .cons ?_ ih
    obtain ⟨h1,h2⟩:=h
    by_cases e:p.1=k
    · rw [if_pos e,if_pos (h1.symm.trans e)]; exact ⟨h1,ry⟩
    · rw [if_neg e,if_neg (fun z=>e (h1.trans z))]; exact ⟨h1,h2⟩
theorem KV.put {kvs:List (κ×V)} {vs:List (κ×Value)} (r:KV kvs vs) (k:κ) {y:V} {u:Value} (ry:RelV y u):KV (putK kvs k y) (stored vs k u):=by
  unfold putK stored
  rw [r.any k]
  by_cases e:(vs.any fun kv=>decide (kv.1=k))=true
  · rw [if_pos e,if_pos e]; exact r.repl k ry
  · rw [if_neg e,if_neg e]; exact Paired.snoc r ⟨rfl,ry⟩
theorem KV.length {kvs:List (κ×V)} {vs:List (κ×Value)} (r:KV kvs vs):kvs.length=vs.length:=Paired.length r
end
theorem kV_is {P:Program} {w:World} {k:Key} {u:Value} (r:RelV (kV k) u):(mixKind P w).is k u=true:=by
  cases k with
  | inl i=>obtain ⟨t,e⟩:=(show ∃ t,u=Value.int i t from r); subst e; exact mixKind_int P w i t
  | inr x=>obtain ⟨t,e⟩:=(show ∃ t,u=Value.str x t from r); subst e; exact mixKind_str P w x t
theorem items_are {P:Program} {w:World}:∀ {ks:List Key} {us:List Value},Vals (ks.map kV) us→ItemsAre (mixKind P w) ks us
  | [],_,r=>by rw [List.map_nil] at r; cases r; exact .nil
  | k :: ks,_,r=>by
    rw [List.map_cons] at r
    cases r with
    | cons h t=>exact .cons (kV_is h) (items_are t)
abbrev KT (H:Hp):List (List Key×V)→List (List Key×Addr×Value)→Prop:=Paired fun p q=>p.1=q.1∧H q.2.1=some (.tup (p.1.map kV))∧RelV p.2 q.2.2
theorem KT.val {H:Hp} {kvs:List (List Key×V)} {xs:List (List Key×Addr×Value)} (r:KT H kvs xs) (k:List Key):RelO (valV kvs k) ((atKey xs k).map (·.2)):=by
  induction r with
  | nil=>exact True.intro
  | @cons p q ps qs h t ih =>
    obtain ⟨h1,_,h2⟩:=h
    by_cases e:p.1=k
    · have e':q.1=k:=h1.symm.trans e
      have b:atKey (q :: qs) k=some q.2:=by simp [atKey,List.find?_cons,e']
      rw [valV_pos e,b]; exact h2
    · have e':¬ q.1=k:=fun z=>e (h1.trans z)
      have b:atKey (q :: qs) k=atKey qs k:=by simp [atKey,List.find?_cons,e']
      rw [valV_neg e,b]; exact ih
theorem KT.repl {H:Hp} {kvs:List (List Key×V)} {xs:List (List Key×Addr×Value)} (r:KT H kvs xs) (k:List Key) {y:V} {u:Value} (ry:RelV y u) :
    KT H (kvs.map fun kv=>if kv.1=k then (kv.1,y) else kv) (xs.map (putAt k u)):=by
  induction r with
  | nil=>exact .nil
  | @cons p q ps qs h t ih =>
    rw [List.map_cons,List.map_cons]
    refine .cons ?_ ih
    obtain ⟨h1,h2,h3⟩:=h
    unfold putAt
    by_cases e:p.1=k
    · rw [if_pos e,if_pos (h1.symm.trans e)]; exact ⟨h1,h2,ry⟩
    · rw [if_neg e,if_neg (fun z=>e (h1.trans z))]; exact ⟨h1,h2,h3⟩
theorem KT.put {H:Hp} {kvs:List (List Key×V)} {xs:List (List Key×Addr×Value)} (r:KT H kvs xs) (k:List Key) {b:Addr} {y:V} {u:Value} (hb:H b=some (.tup (k.map kV))) (ry:RelV y u) :
    KT H (putK kvs k y) (storedH xs k b u):=by
  have e:(kvs.any fun kv=>decide (kv.1=k))=(atKey xs k).isSome:=by
    rw [valV_any,(r.val k).isSome_eq,Option.isSome_map]
  unfold putK storedH
  rw [e]
  by_cases q:(atKey xs k).isSome=true
  · rw [if_pos q,if_pos q]; exact r.repl k ry
  · rw [if_neg q,if_neg q]; exact Paired.snoc r ⟨rfl,hb,ry⟩
theorem KT.keeps {H H':Hp} {kvs:List (List Key×V)} {xs:List (List Key×Addr×Value)} (r:KT H kvs xs) (ht:∀ b ys,H b=some (.tup ys)→H' b=some (.tup ys)):KT H' kvs xs:=
  Paired.mapP r fun _ _ z=>⟨z.1,ht _ _ z.2.1,z.2.2⟩
section
variable {P:Program} {w:World} {H:Hp} {h:Heap} {a:Addr}
theorem rd_of {u:HO} (ok:HOk P w H h) (e:Rd H a u):ObjOk P w H h a u:=e.ok ok
theorem dk_rd {kvs:List (Key×V)} (ok:HOk P w H h) (e:Rd H a (.dK kvs)):kvs.length≤sizeLine∧(a == sysModules)=false∧∃ vs,KV kvs vs∧h.DictOf (mixKind P w) a vs:=
  show ObjOk P w H h a (.dK kvs) from rd_of ok e
theorem dk_of {kvs:List (Key×V)} (ok:HOk P w H h) (e:H a=some (.dK kvs)):kvs.length≤sizeLine∧(a == sysModules)=false∧∃ vs,KV kvs vs∧h.DictOf (mixKind P w) a vs:=dk_rd ok (.inl e)
theorem key_of {ks:List Key} (ok:HOk P w H h) (e:H a=some (.tup (ks.map kV))):(tupleKind (mixKind P w)).is h ks a:=by
  obtain ⟨_,its,r,o,h1,h2,n,h3⟩:=(show ObjOk P w H h a (.tup (ks.map kV)) from ok a _ e)
  exact ⟨o,its.toArray,n,h1,h2,h3,by simpa using items_are r⟩
theorem dt_rd {kvs:List (List Key×V)} (ok:HOk P w H h) (e:Rd H a (.dT kvs)):kvs.length≤sizeLine∧(a == sysModules)=false ∧
    ∃ xs,KT H kvs xs∧h.DictOfH (tupleKind (mixKind P w)) a xs:=by
  obtain ⟨z,y,xs,r,o,es,ep,h1,h2,h3,h4,h5⟩:=(show ObjOk P w H h a (.dT kvs) from rd_of ok e)
  refine ⟨z,y,xs,r,o,es,ep,h1,h2,h3,h4,fun x hx=>?_,h5⟩
  have all:∀ {l:List (List Key×V)} {m:List (List Key×Addr×Value)},KT H l m→∀ x∈m,(tupleKind (mixKind P w)).is h x.1 x.2.1:=by
    intro l m q
    induction q with
    | nil=>intro x hx; exact nomatch hx
    | @cons p q ps qs hq t ih =>
      intro x hx
      rcases List.mem_cons.mp hx with e | hx
      · subst e
        exact key_of ok (by rw [← hq.1]; exact hq.2.1)
      · exact ih x hx
  exact all r x hx
theorem dt_of {kvs:List (List Key×V)} (ok:HOk P w H h) (e:H a=some (.dT kvs)):kvs.length≤sizeLine∧(a == sysModules)=false ∧
    ∃ xs,KT H kvs xs∧h.DictOfH (tupleKind (mixKind P w)) a xs:=dt_rd ok (.inl e)
end
def DGet (H:Hp) (a:Addr) (y:V) (r:Option V):Prop:=
  (∃ kvs k,Rd H a (.dK kvs)∧y=kV k∧r=valV kvs k)∨∃ kvs k b,Rd H a (.dT kvs)∧y=.ref b∧H b=some (.tup (k.map kV))∧r=valV kvs k
def DPut (H:Hp) (a:Addr) (y v:V) (H':Hp):Prop:=
  (∃ kvs k,H a=some (.dK kvs)∧y=kV k∧kvs.length < sizeLine∧H'=upd H a (.dK (putK kvs k v))) ∨
  ∃ kvs k b,H a=some (.dT kvs)∧y=.ref b∧H b=some (.tup (k.map kV))∧kvs.length < sizeLine∧H'=upd H a (.dT (putK kvs k v))
theorem DGet.k {H:Hp} {a:Addr} {kvs:List (Key×V)} {k:Key} (e:H a=some (.dK kvs)):DGet H a (kV k) (valV kvs k):=.inl ⟨kvs,k,.inl e,rfl,rfl⟩
theorem DPut.k {H:Hp} {a:Addr} {kvs:List (Key×V)} {k:Key} {v:V} (e:H a=some (.dK kvs)) (hl:kvs.length < sizeLine):DPut H a (kV k) v (upd H a (.dK (putK kvs k v))):=.inl ⟨kvs,k,e,rfl,hl,rfl⟩
section
variable {X:Cx} {pins:List (Addr×Obj)} {σ:St} {H:Hp} {s:Shared} {a:Addr} {y v:V} {u r:Value} {o:Option V} {A:Around} {E:Value→Shared→Prop}
theorem Inv.big (I:Inv X pins σ H s):sysModules < s.heap.objs.size:=by
  have h:mainGlobals < s.heap.objs.size:=(I.mod.glob.keeps I.bk).lt
  exact Nat.lt_trans (by decide) h
theorem d_getItem {Q:Value→Shared→Prop} (hu:A.units + 1 < cLine) (I:Inv X pins σ H s) (g:DGet H a y (some v)) (ry:RelV y u) (h:∀ w' s',Inv X pins σ H s'→RelV v w'→Q w' s') :
    wpAny (model X.prog X.w) A (getItem (.ref a) u) Q E s:=by
  rcases g with ⟨kvs,k,e,ey,l⟩ | ⟨kvs,k,b,e,ey,eb,l⟩
  · subst ey
    obtain ⟨z,hd,vs,rel,dd⟩:=dk_rd I.hok e
    obtain ⟨w',hw,rw'⟩:=RelO.some_of (v:=v) (o:=valueAt vs k) (by rw [l]; exact rel.val k)
    exact wpAny_getItem_of (kV_is ry) dd.mapOf hw (h w' _ (I.tok _) rw')
  · subst ey
    cases (show u=Value.ref b from ry)
    obtain ⟨z,hd,xs,rel,dd⟩:=dt_rd I.hok e
    obtain ⟨w',hw,rw'⟩:=RelO.some_of (v:=v) (o:=(atKey xs k).map (·.2)) (by rw [l]; exact rel.val k)
    obtain ⟨p,hp,hp2⟩:=Option.map_eq_some_iff.mp hw
    refine wpAny_getItem_heap (tupleKind_room_in1 hu) (key_of I.hok eb) dd hp ?_
    rw [hp2]
    exact h w' _ (I.tok _) rw'
theorem d_in {Q:Value→Shared→Prop} (hu:A.units + 1 < cLine) (I:Inv X pins σ H s) (g:DGet H a y o) (ry:RelV y u) (h:∀ s',Inv X pins σ H s'→Q (.bool o.isSome) s') :
    wpAny (model X.prog X.w) A (compareOp .In u (.ref a)) Q E s:=by
  rcases g with ⟨kvs,k,e,ey,l⟩ | ⟨kvs,k,b,e,ey,eb,l⟩
  · subst ey
    obtain ⟨z,hd,vs,rel,dd⟩:=dk_rd I.hok e
    refine wpAny_in_of (kV_is ry) hd dd.mapOf ?_
    rw [← (rel.val k).isSome_eq,← l]
    exact h _ (I.tok _)
  · subst ey
    cases (show u=Value.ref b from ry)
    obtain ⟨z,hd,xs,rel,dd⟩:=dt_rd I.hok e
    refine wpAny_in_heap (tupleKind_room_in1 hu) (key_of I.hok eb) hd dd ?_
    have q:=(rel.val k).isSome_eq
    rw [Option.isSome_map] at q
    rw [← q,← l]
    exact h _ (I.tok _)
theorem d_write {h':Heap} {t':Nat} {ob:HO} (I:Inv X pins σ H s) (mu:Mut (H a)) (hs:Heap.SameBut a s.heap h') (he:∃ q,h'.get? a=some q) (new:ObjOk X.prog X.w (upd H a ob) h' a ob) :
    Inv X pins σ (upd H a ob) {s with heap:=h',toks:=t'}:=
  I.write (x:=a) (e:=a) mu (.inl rfl) (fun b q hb z=>(hs.2 b hb).trans z) he new
theorem dk_new {P:Program} {w:World} {H':Hp} {h':Heap} {kvs:List (Key×V)} {vs:List (Key×Value)} (z:kvs.length≤sizeLine) (hd:(a == sysModules)=false) (rel:KV kvs vs) (dd:h'.DictOf (mixKind P w) a vs) :
    ObjOk P w H' h' a (.dK kvs):=⟨z,hd,vs,rel,dd⟩
theorem d_setItem {H':Hp} {Q:Unit→Shared→Prop} (hu:A.units + 1 < cLine) (I:Inv X pins σ H s) (g:DPut H a y v H') (ry:RelV y u) (rv:RelV v r) (h:∀ s',Inv X pins σ H' s'→Q () s') :
    wpAny (model X.prog X.w) A (setItem (.ref a) u r) Q E s:=by
  rcases g with ⟨kvs,k,e,ey,l,eH⟩ | ⟨kvs,k,b,e,ey,eb,l,eH⟩
  · subst ey eH
    obtain ⟨z,hd,vs,rel,dd⟩:=dk_of I.hok e
    have hz:vs.length≤sizeLine:=by rw [← rel.length]; exact z
    have hl:(putK kvs k v).length≤sizeLine:=by have:=length_putK kvs k v; omega
    refine wpAny_setItem_pairs (hsz:=hz) (kV_is ry) dd fun h' dd' hs=>h _ ?_
    have he:∃ q,h'.get? a=some q:=let ⟨q,_,_,hq,_⟩:=dd'; ⟨q,hq⟩
    exact d_write I (by rw [e]; exact True.intro) hs he (dk_new hl hd (rel.put k rv) dd')
  · subst ey eH
    cases (show u=Value.ref b from ry)
    obtain ⟨z,hd,xs,rel,dd⟩:=dt_of I.hok e
    have hz:xs.length≤sizeLine:=by rw [← Paired.length rel]; exact z
    have hl:(putK kvs k v).length≤sizeLine:=by have:=length_putK kvs k v; omega
    refine wpAny_setItem_heap (hsz:=hz) (tupleKind_room_in1 hu) (key_of I.hok eb) dd fun h' dd' hs=>h _ ?_
    obtain ⟨q,es,ep,hq,h2,h3,h4,_,h5⟩:=dd'
    refine d_write I (by rw [e]; exact True.intro) hs ⟨q,hq⟩ ⟨hl,hd,_,(rel.put k eb rv).keeps fun c ys ec=>?_,q,es,ep,hq,h2,h3,h4,h5⟩
    rw [upd_ne (ne_of ec e (fun z=>nomatch z))]
    exact ec
end
section
variable {X:Cx} {pins:List (Addr×Obj)} {σ:St} {H:Hp} {s:Shared} {a:Addr} {kvs:List (Key×V)} {k:Key} {u:Value} {A:Around} {E:Value→Shared→Prop}
end
def NoSl (i:Expr):Prop:=∀ ov iv,subscripted i false ov iv=operate [ov,iv] (getItem ov iv)
theorem subD_of {prog:Program} {w:World} {A:Around} {E:Value→Shared→Prop} {s:Shared} {env:Env} {value slice:Expr} {pos:Pos} {T id:String} {Q:Value→Shared→Prop}
    (hl:typeLookup (.type T) "__getitem__"=pure (some (.builtin id))) (hs:NoSl slice)
    (h:wpAny (model prog w) A (eval value env) (fun o s₁=>wpAny (model prog w) A (eval slice env) (fun i s₂=>s₂.TypeIs o T∧wpAny (model prog w) A (getItem o i) Q E s₂) E s₁) E s) :
    wpAny (model prog w) A (eval (.Subscript value slice pos) env) Q E s:=by
  refine Subscript_ (wpAny_mono h (fun o s₁ h₁=>wpAny_mono h₁ (fun i s₂ h₂=>?_) fun _ _ x=>x) fun _ _ x=>x)
  obtain ⟨hT,h₂⟩:=h₂
  unfold subscriptTail
  refine wpAny_bind ?_
  rw [getitemInPython_of_ne hT.not_modules]
  refine wpAny_bind (wpAny_specialOf hT hl ?_)
  have fin:wpAny (model prog w) A (subscripted slice false o i) (fun r s₃=>wpAny (model prog w) A (letTemporaryGo value o r >>= fun _=>pure r) Q E s₃) E s₂:=by
    rw [hs o i]
    exact wpAny_operating (wpAny_mono h₂ (fun r s₃ h₃=>wpAny_bind (wpAny_letTemporaryGo (wpAny_pure h₃))) fun _ _ x=>x)
  first
    | exact wpAny_pure (wpAny_bind fin)
    | exact wpAny_bind (wpAny_pure (wpAny_bind fin))
    | exact wpAny_bind fin
theorem dict_typeIs {X:Cx} {pins:List (Addr×Obj)} {σ:St} {H:Hp} {s:Shared} {a:Addr} {y:V} {o:Option V} (I:Inv X pins σ H s) (g:DGet H a y o):s.TypeIs (.ref a) "dict":=by
  rcases g with ⟨kvs,k,e,_,_⟩ | ⟨kvs,k,b,e,_,_,_⟩
  · obtain ⟨_,_,vs,_,dd⟩:=dk_rd I.hok e
    exact dd.typeIs
  · obtain ⟨_,_,xs,_,dd⟩:=dt_rd I.hok e
    exact dd.typeIs
def tDGet (td ty:TE):TE:=fun σ H Q=>td σ H fun x H1=>ty σ H1 fun y H2=>∃ a v,x=.ref a∧DGet H2 a y (some v)∧Q v H2
def tDIn (ty td:TE):TE:=fun σ H Q=>ty σ H fun y H1=>td σ H1 fun x H2=>∃ a o,x=.ref a∧DGet H2 a y o∧Q (.bl o.isSome) H2
def tDNotIn (ty td:TE):TE:=fun σ H Q=>ty σ H fun y H1=>td σ H1 fun x H2=>∃ a o,x=.ref a∧DGet H2 a y o∧Q (.bl (!o.isSome)) H2
def sDPut (td ty tv:TE):TS:=fun D σ H=>tv σ H fun v H1=>td σ H1 fun x H2=>ty σ H2 fun y H3=>∃ a H4,x=.ref a∧DPut H3 a y v H4∧D.nx σ H4
def sDAug (td ty tv:TE) (rd:V→V→Hp→VK→Prop):TS:=fun D σ H=>td σ H fun x H1=>ty σ H1 fun y H2=>∃ a v,x=.ref a∧DGet H2 a y (some v) ∧
  tv σ H2 fun y2 H3=>rd v y2 H3 fun z H4=>∃ H5,DPut H4 a y z H5∧D.nx σ H5
def sDDel (td ty:TE):TS:=fun D σ H=>td σ H fun x H1=>ty σ H1 fun y H2=>∃ a kvs k,x=.ref a∧H2 a=some (.dK kvs)∧y=kV k∧(valV kvs k).isSome=true∧D.nx σ (upd H2 a (.dK (dropK kvs k)))
section
variable {X:Cx} {o i e value:Expr} {pos pos' tpos:Pos} {td ty tv:TE}
theorem pe_dget (hu:X.A.units + 1 < cLine) (ho:PE X o td) (hi:PE X i ty) (hs:NoSl i):PE X (.Subscript o i pos) (tDGet td ty):=by
  intro pins s σ H Q I h
  refine subD_of PySem.F.slot_dict_getitem.lookup hs (thn (ho pins s σ H _ I h) fun u s1 ⟨x,H1,I1,rx,q1⟩=>thn (hi pins s1 σ H1 _ I1 q1) fun iv s2 ⟨y,H2,I2,ry,a,v,ex,g,q2⟩=>?_)
  subst ex
  obtain rfl:u=Value.ref a:=rx
  exact ⟨dict_typeIs I2 g,d_getItem hu I2 g ry fun w' s3 I3 rw'=>⟨v,H2,I3,rw',q2⟩⟩
theorem pc_din (hu:X.A.units + 1 < cLine) (hi:PE X i ty) (ho:PE X o td):PC X .In i o (tDIn ty td):=by
  intro pins s σ H Q I h
  refine thn (hi pins s σ H _ I h) fun iv s1 ⟨y,H1,I1,ry,q1⟩=>thn (ho pins s1 σ H1 _ I1 q1) fun u s2 ⟨x,H2,I2,rx,a,ov,ex,g,q2⟩=>?_
  subst ex
  obtain rfl:u=Value.ref a:=rx
  exact d_in hu I2 g ry fun s3 I3=>⟨.bl ov.isSome,H2,I3,rfl,q2⟩
theorem ps_dput (hu:X.A.units + 1 < cLine) (ho:PE X o td) (hi:PE X i ty) (hv:PE X value tv) (hs:swapsWith value (some (.Subscript o i pos')) pos.line X.env=pure false) :
    PS X (.Assign [.Subscript o i pos'] value pos) (sDPut td ty tv):=by
  intro pins s σ H D I h
  refine wpAny_Assign_Subscript (thn (hv pins s σ H _ I h) fun r s1 ⟨v,H1,I1,rv,q1⟩=>thn (ho pins s1 σ H1 _ I1 q1) fun u s2 ⟨x,H2,I2,rx,q2⟩=>thn (hi pins s2 σ H2 _ I2 q2) fun iv s3 ⟨y,H3,I3,ry,a,H4,ex,g,q3⟩=>?_) hs
  subst ex
  obtain rfl:u=Value.ref a:=rx
  exact d_setItem hu I3 g ry rv fun s4 I4=>⟨σ,H4,I4,q3⟩
end
theorem dk_empty {P:Program} {w:World} {H:Hp} (h:Heap) (hb:sysModules < h.objs.size):ObjOk P w H (h.push {cls:=.type "dict",data:=.dict #[]}) h.objs.size (.dK []):=
  ⟨Nat.zero_le _,beq_eq_false_iff_ne.mpr (Ne.symm (Nat.ne_of_lt hb)),[],.nil,Heap.DictOf.new h⟩
def tDNewK:TE:=fun _ H Q=>∀ p,H p=none→Q (.ref p) (upd H p (.dK []))
def tDNewT:TE:=fun _ H Q=>∀ p,H p=none→Q (.ref p) (upd H p (.dT []))
section
variable {X:Cx} {pos:Pos}
theorem pe_dnewK:PE X (.Dict [] [] pos) tDNewK:=fun pins s σ H Q I h =>
  wpAny_Dict_empty ⟨.ref s.heap.objs.size,_,I.laid (a:=s.heap.objs.size) (o:=.dK []) (t':=s.toks) (fun _ _ q=>Heap.get?_push_of_some _ q) (Nat.le_refl _) (dk_empty s.heap I.big),rfl,h _ (I.hok.fresh (Nat.le_refl _))⟩
end
def tPairs:List (TE×TE)→St→Hp→(List (V×V)→Hp→Prop)→Prop
  | [],_,H,Q=>Q [] H
  | (tk,tv) :: r,σ,H,Q=>tk σ H fun x H1=>tv σ H1 fun y H2=>tPairs r σ H2 fun ps H3=>Q ((x,y) :: ps) H3
abbrev VV:List (V×V)→List (Value×Value)→Prop:=Paired fun p q=>RelV p.1 q.1∧RelV p.2 q.2
def PPs (X:Cx) (pos:Pos) (keys:List (Option Expr)) (values:List Expr) (trs:List (TE×TE)):Prop:=
  ∀ (pins:List (Addr×Obj)) (s:Shared) (σ:St) (H:Hp) (Q:List (V×V)→Hp→Prop),Inv X pins σ H s→tPairs trs σ H Q →
    wpAny (model X.prog X.w) X.A (evalPairs (pairTrees keys values X.env pos)) (fun vs s'=>∃ ps H',Inv X pins σ H' s'∧VV ps vs∧Q ps H') X.xe s
theorem pps_nil {X:Cx} {pos:Pos}:PPs X pos [] [] []:=fun pins s σ H Q I h=>pairTrees_nil_walk ⟨[],H,I,.nil,h⟩
theorem pps_cons {X:Cx} {pos:Pos} {k v:Expr} {ks:List (Option Expr)} {vs:List Expr} {tk tv:TE} {trs:List (TE×TE)} (hk:PE X k tk) (hv:PE X v tv) (hr:PPs X pos ks vs trs) :
    PPs X pos (some k :: ks) (v :: vs) ((tk,tv) :: trs):=fun pins s σ H Q I h =>
  pairTrees_cons_walk (thn (hk pins s σ H _ I h) fun u s1 ⟨x,H1,I1,rx,q1⟩=>thn (hv pins s1 σ H1 _ I1 q1) fun w2 s2 ⟨y,H2,I2,ry,q2⟩ =>
    thn (hr pins s2 σ H2 _ I2 q2) fun ws s3 ⟨ps,H3,I3,rel,q3⟩=>⟨(x,y) :: ps,H3,I3,.cons ⟨rx,ry⟩ rel,q3⟩)
def mergeK (kvs more:List (Key×V)):List (Key×V):=more.foldl (fun acc kv=>putK acc kv.1 kv.2) kvs
theorem KV.merge:∀ {more:List (Key×V)} {rs:List (Key×Value)} {kvs:List (Key×V)} {vs:List (Key×Value)},KV more rs→KV kvs vs→KV (mergeK kvs more) (merged vs rs):=by
  intro more rs kvs vs r
  unfold KV at r
  induction r generalizing kvs vs with
  | nil=>intro q; exact q
  | @cons p q ps qs h t ih =>
    intro r0
    have e:KV (putK kvs p.1 p.2) (stored vs q.1 q.2):=by
      have:=r0.put p.1 h.2
      rw [← h.1]; exact this
    exact ih e
theorem length_mergeK:∀ (more kvs:List (Key×V)),(mergeK kvs more).length≤kvs.length + more.length
  | [],kvs=>by show kvs.length≤kvs.length + 0; omega
  | p :: r,kvs=>by
    have h1:=length_mergeK r (putK kvs p.1 p.2)
    have h2:=length_putK kvs p.1 p.2
    show (mergeK (putK kvs p.1 p.2) r).length≤_
    rw [List.length_cons]; omega
theorem carries_of {P:Program} {w:World}:∀ {kvs:List (Key×V)} {ws:List (Value×Value)},VV (kvs.map fun kv=>(kV kv.1,kv.2)) ws→∃ rs,Carries (mixKind P w) ws rs∧KV kvs rs
  | [],_,r=>by rw [List.map_nil] at r; cases r; exact ⟨[],True.intro,.nil⟩
  | p :: kvs,_,r=>by
    rw [List.map_cons] at r
    cases r with
    | @cons a b as bs h t =>
      obtain ⟨rs,c,q⟩:=carries_of (P:=P) (w:=w) t
      obtain ⟨b1,b2⟩:=b
      exact ⟨(p.1,b2) :: rs,⟨kV_is h.1,rfl,c⟩,.cons ⟨rfl,h.2⟩ q⟩
def tDisp (trs:List (TE×TE)):TE:=fun σ H Q=>∀ p,H p=none→tPairs trs σ (upd H p (.dK [])) fun ps H2=>H2 p=some (.dK [])∧∃ kvs:List (Key×V),ps=kvs.map (fun kv=>(kV kv.1,kv.2))∧kvs.length≤15∧Q (.ref p) (upd H2 p (.dK (mergeK [] kvs)))
theorem pe_disp {X:Cx} {pos:Pos} {keys:List (Option Expr)} {values:List Expr} {trs:List (TE×TE)} (h:PPs X pos keys values trs) (hall:keys.all (·.isSome)=true) (hl:keys.length=values.length) (h0:keys≠[])
    (h15:keys.length≤15):PE X (.Dict keys values pos) (tDisp trs):=by
  intro pins s σ H Q I q
  have hn:=I.hok.fresh (Nat.le_refl s.heap.objs.size)
  have I1:=I.laid (a:=s.heap.objs.size) (o:=.dK []) (h':=s.heap.push {cls:=.type "dict",data:=.dict #[]}) (t':=s.toks) (fun _ _ q=>Heap.get?_push_of_some _ q) (Nat.le_refl _) (dk_empty s.heap I.big)
  refine wpAny_Dict_walk (knd:=mixKind X.prog X.w) hall hl h0 h15 (thn (h pins _ σ _ _ I1 (q _ hn)) fun ws s2 ⟨ps,H2,I2,rel,e,kvs,ep,lk,q2⟩=>?_)
  subst ep
  obtain ⟨rs,c,rk⟩:=carries_of (P:=X.prog) (w:=X.w) rel
  obtain ⟨z,hd,vs0,r0,dd⟩:=dk_of I2.hok e
  cases r0
  refine ⟨rs,c,dd,fun h' dd' hs=>⟨.ref s.heap.objs.size,_,?_,rfl,q2⟩⟩
  have hz:(mergeK [] kvs).length≤sizeLine:=by
    have h1:=length_mergeK kvs []
    rw [List.length_nil] at h1
    rw [sizeLine_eq]; omega
  have he:∃ q,h'.get? s.heap.objs.size=some q:=let ⟨q,_,_,hq,_⟩:=dd'; ⟨q,hq⟩
  exact d_write I2 (by rw [e]; exact True.intro) hs he (dk_new hz hd (rk.merge .nil) dd')
structure M1 (X:Cx) (o:Expr) (m:Str) (apos:Pos) (e:Expr) (cpos:Pos):Prop where
  base:attributeBase o m X.env (eval o X.env)=eval o X.env
  few:((backTo cpos (starEach [e] X.env)).all (fun x=>!x.1) && (backToKw cpos (keywordEach [] X.env)).all (fun x=>x.1.isSome)
    && decide (([e]:List Expr).length + ([]:List Keyword).length + (if ([]:List Keyword).isEmpty then 0 else 1) < 30))=true
  line:(apos.endLine == cpos.line)=true
  trees:backTo cpos (starEach [e] X.env)=[(false,eval e X.env)]
structure M2 (X:Cx) (o:Expr) (m:Str) (apos:Pos) (e f:Expr) (cpos:Pos):Prop where
  base:attributeBase o m X.env (eval o X.env)=eval o X.env
  few:((backTo cpos (starEach [e,f] X.env)).all (fun x=>!x.1) && (backToKw cpos (keywordEach [] X.env)).all (fun x=>x.1.isSome)
    && decide (([e,f]:List Expr).length + ([]:List Keyword).length + (if ([]:List Keyword).isEmpty then 0 else 1) < 30))=true
  line:(apos.endLine == cpos.line)=true
  trees:backTo cpos (starEach [e,f] X.env)=[(false,eval e X.env),(false,eval f X.env)]
def IsD (H:Hp) (a:Addr):Prop:=(∃ kvs,Rd H a (.dK kvs))∨∃ kvs,Rd H a (.dT kvs)
section
variable {X:Cx} {pins:List (Addr×Obj)} {σ:St} {H:Hp} {s:Shared} {a:Addr} {y d:V} {u r:Value} {o:Option V} {A:Around} {E:Value→Shared→Prop}
end
def tDGet1 (td ty:TE):TE:=fun σ H Q=>td σ H fun x H1=>∃ a,x=.ref a∧IsD H1 a∧ty σ H1 fun y H2=>∃ o,DGet H2 a y o∧Q (o.getD .non) H2
def tDGet2 (td ty tx:TE):TE:=fun σ H Q=>td σ H fun x H1=>∃ a,x=.ref a∧IsD H1 a∧ty σ H1 fun y H2=>tx σ H2 fun z H3=>∃ o,DGet H3 a y o∧Q (o.getD z) H3
def tDPop1 (td ty:TE):TE:=fun σ H Q=>td σ H fun x H1=>∃ a,x=.ref a∧IsD H1 a∧ty σ H1 fun y H2=>∃ kvs k v,H2 a=some (.dK kvs)∧y=kV k∧valV kvs k=some v∧Q v (upd H2 a (.dK (dropK kvs k)))
def tDPop2 (td ty tx:TE):TE:=fun σ H Q=>td σ H fun x H1=>∃ a,x=.ref a∧IsD H1 a∧ty σ H1 fun y H2=>tx σ H2 fun z H3=>∃ kvs k,H3 a=some (.dK kvs)∧y=kV k ∧
  (∀ v,valV kvs k=some v→Q v (upd H3 a (.dK (dropK kvs k))))∧(valV kvs k=none→Q z H3)
section
variable {X:Cx} {o e f:Expr} {apos cpos:Pos} {td ty tx:TE}
end
section
variable {X:Cx} {pins:List (Addr×Obj)} {σ:St} {H:Hp} {s:Shared} {a:Addr} {kvs:List (Key×V)} {A:Around} {E:Value→Shared→Prop}
end
section
variable {X:Cx} {pins:List (Addr×Obj)} {σ:St} {H:Hp} {s:Shared} {a:Addr} {y:V} {u:Value} {A:Around} {E:Value→Shared→Prop}
end
end L2
namespace L2
open PySem PySem.Spec PyProof.Rows
section
variable {X:Cx}
end
section
variable {κ:Type} [DecidableEq κ]
end
end L2
set_option maxHeartbeats 4000000
namespace L2
open PySem PySem.Spec PyProof.Rows
theorem ObjOk.has {P:Program} {w:World} {H:Hp} {h:Heap} {a:Addr} {o:HO} (x:ObjOk P w H h a o):∃ ob,h.get? a=some ob:=by
  cases o with
  | lst xs=>obtain ⟨_,_,_,_,e⟩:=x; exact ⟨_,e⟩
  | tup xs=>obtain ⟨_,_,_,ob,e,_⟩:=x; exact ⟨_,e⟩
  | dK kvs=>obtain ⟨_,_,_,_,o,_,_,e,_⟩:=x; exact ⟨_,e⟩
  | dT kvs=>obtain ⟨_,_,_,_,o,_,_,e,_⟩:=x; exact ⟨_,e⟩
  | set S n=>obtain ⟨o,_,_,_,e,_⟩:=x; exact ⟨_,e⟩
  | ins C dx fs=>obtain ⟨_,_,_,e,_⟩:=x; exact ⟨_,e⟩
  | own y=>exact x
  | xd fs=>obtain ⟨_,⟨_,_,_,e,_⟩,_⟩:=x; exact ⟨_,e⟩
  | rng lo hi=>obtain ⟨_,_,_,e⟩:=x; exact ⟨_,e⟩
  | frz ob u=>obtain ⟨e,_⟩:=x; exact ⟨_,e⟩
  | tbl ps=>exact ⟨_,(show h.get? a=some _ from x)⟩
  | met f y=>exact ⟨_,(show h.get? a=some _ from x)⟩
  | ext φ=>obtain ⟨_,e,_⟩:=x; exact e
theorem HOk.has {P:Program} {w:World} {H:Hp} {h:Heap} (x:HOk P w H h) {b:Addr} (n:H b≠none):∃ ob,h.get? b=some ob:=by
  cases z:H b with
  | none=>exact absurd z n
  | some u=>exact (x b u z).has
def FlD (B:Heap) (l:List Env) (e:Addr) (cls fl:Value) (h:Heap):Prop:=
  B.StaysIn h∧B.get? e=none∧h.FunFrames B l∧∃ oe vs T oT ts,h.get? e=some oe∧oe.cls=cls∧oe.dict=none∧oe.data=.fields vs∧vs[1]?=some (.ref T)∧B.get? T=none∧T≠e∧h.get? T=some oT∧oT.data=.fields ts∧ts[3]?=some fl
theorem dict_mapF (o:Obj) (f:Array Value→Array Value):(o.mapFields f).dict=o.dict:=by
  obtain ⟨c,d,dt,sl⟩:=o
  cases dt <;> rfl
section
variable {M:Model} {A:Around} {E:Value→Shared→Prop} {s:Shared} {B:Heap} {env:Env} {outer l:List Env} {L e:Addr} {cls fl:Value} {Q:Unit→Shared→Prop}
theorem fl_entry {oe:Obj} {vs:Array Value} {head:Value} {nx:Bool} (hfr:A.frames=some (env :: outer)) (hl:s.heap.FunFrames B (env :: outer)) (hf:env.frame=some L) (he:s.heap.get? e=some oe) (hB:B.StaysIn s.heap) (hn:B.get? e=none)
    (hd:oe.data=.fields vs) (hz:1 < vs.size) (hdc:oe.dict=none) (k:∀ h',FlD B (env :: outer) e oe.cls (rawInt L) h'→s.heap.UpToSlots h'→Q () {s with heap:=h'}) :
    wpAny M A (do let a ← frameOf env; let pl ← entryPlaceOf L nx; let b ← EntryCells.newEntry head a .none (rawInt L) .none pl; setField (.ref e) 1 b) Q E s:=by
  have ef:e∉(env :: outer).filterMap (·.frame):=fun hm=>by
    obtain ⟨_,o,ho,q⟩:=hl.mem hm
    rw [he] at ho
    cases ho
    exact q vs hd
  refine wpAny_bind (wpAny_frameOf_fun hfr hl hf fun h1 g1=>wpAny_bind (wpAny_entryPlaceOf fun pl hpl=>?_))
  unfold EntryCells.newEntry newFields
  refine wpAny_bind (wpAny_newObj_type ?_ (hpl.sizeOk5 _ _ _ _ _))
  have e1:h1.get? e=some oe:=(g1.2.1 e ef).trans he
  have b1:B.StaysIn h1:=fun b o z=>(g1.2.1 b fun hm=>by rw [(hl.mem hm).1] at z; cases z).trans (hB b o z)
  have ne:h1.objs.size≠e:=Nat.ne_of_gt (Heap.lt_size e1)
  generalize hob:({cls:=.type "traceback",dict:=none,data:=.fields ([head,.ref L,.none,rawInt L,.none]++(if pl.isEmpty then List.replicate 6 Value.none else pl)).toArray}:Obj)=ob
  have e2:(h1.push ob).get? e=some oe:=Heap.get?_push_of_some _ e1
  have t2:(h1.push ob).get? h1.objs.size=some ob:=Heap.get?_push_size h1 (by rw [← hob]; rfl)
  refine wpAny_setField e2 hd hz (k _ ?_ ?_)
  · have d3:=Obj.data_mapFields hd (·.setIfInBounds 1 (Value.ref h1.objs.size))
    have keep:∀ b o,b≠e→h1.get? b=some o→((h1.push ob).update e (Obj.mapFields (·.setIfInBounds 1 (Value.ref h1.objs.size)))).get? b=some o:=fun b o q z=>by
      rw [Heap.get?_update_other _ _ (Ne.symm q)]
      exact Heap.get?_push_of_some _ z
    refine ⟨fun b o z=>keep b o (fun q=>by rw [q,hn] at z; cases z) (b1 b o z),hn,hl.of_keeps fun b o z q=>?_,_,_,h1.objs.size,ob,_,Heap.get?_update_self _ e2 (Obj.isFreed_of_fields d3),Obj.cls_mapFields _ _,(dict_mapF _ _).trans hdc,d3,by simp [hz],b1.fresh,ne,?_,by rw [← hob],?_⟩
    · obtain ⟨sl,w⟩:=g1.2.2 b o z
      exact ⟨_,keep b _ (fun y=>by rw [y,he] at z; cases z; exact q vs hd) w,rfl⟩
    · rw [Heap.get?_update_other _ _ (Ne.symm ne)]
      exact t2
    · first | (simp; done) | (rcases hpl with rfl | ⟨_,_,_,_,_,_,_,rfl⟩ <;> simp)
  · intro b o z q
    obtain ⟨sl,w⟩:=g1.2.2 b o z
    refine ⟨sl,?_⟩
    rw [Heap.get?_update_other _ _ (fun y=>by rw [← y,he] at z; cases z; exact q vs hd)]
    exact Heap.get?_push_of_some _ w
theorem fl_notT {T:Addr} {oT:Obj} {ts:Array Value} {h:Heap} (hT:h.get? T=some oT) (hdT:oT.data=.fields ts) {b:Addr} {o:Obj} (hb:h.get? b=some o) (q:∀ vs,o.data≠.fields vs):b≠T:=fun y=>by
  rw [y,hT] at hb
  cases hb
  exact q ts hdT
theorem fl_note (hfr:A.frames=some (env :: outer)) (hf:env.frame=some L) (x:FlD B (env :: outer) e cls .none s.heap) (k:∀ h',FlD B (env :: outer) e cls (rawInt L) h'→s.heap.UpToSlots h'→Q () {s with heap:=h'}) :
    wpAny M A (noteFrame (.ref e) env) Q E s:=by
  obtain ⟨hB,hn,hl,oe,vs,T,oT,ts,he,rfl,hdc,hd,h1,nT,Te,hT,dT,h3⟩:=x
  unfold noteFrame
  simp only [hf]
  refine wpAny_bind (wpAny_field he hd h1 ?_)
  rw [if_pos (show (Value.ref T != Value.none)=true from by simp)]
  refine wpAny_bind (wpAny_field hT dT h3 ?_)
  rw [if_neg (show ¬ ((Value.none == rawInt L)=true) from by simp [rawInt])]
  refine wpAny_bind (wpAny_setField hT dT (Array.getElem?_eq_some_iff.mp h3).1 ?_)
  have ot:∀ b,b≠T→(s.heap.update T (Obj.mapFields (·.setIfInBounds 3 Value.none))).get? b=s.heap.get? b:=fun b hb=>Heap.get?_update_other _ _ (Ne.symm hb)
  refine fl_entry (s:={s with heap:=s.heap.update T (Obj.mapFields (·.setIfInBounds 3 Value.none))}) hfr (hl.of_keeps fun b o z q=>⟨o,(ot b (fl_notT hT dT z q)).trans z,rfl⟩) hf ((ot e (Ne.symm Te)).trans he)
    (fun b o z=>(ot b fun y=>by rw [y,nT] at z; cases z).trans (hB b o z)) hn hd (Array.getElem?_eq_some_iff.mp h1).1 hdc fun h' y1 y2=>k h' y1 fun b o z q=>y2 b o ((ot b (fl_notT hT dT z q)).trans z) q
theorem fl_lands (x:FlD B l e cls fl s.heap) (k:∀ h',FlD B l e cls .none h'→s.heap.UpToSlots h'→Q () {s with heap:=h'}):wpAny M A (setFlight (.ref e) none) Q E s:=by
  obtain ⟨hB,hn,hl,oe,vs,T,oT,ts,he,hc,hdc,hd,h1,nT,Te,hT,dT,h3⟩:=x
  have z3:3 < ts.size:=(Array.getElem?_eq_some_iff.mp h3).1
  have ot:∀ b,b≠T→(s.heap.update T (Obj.mapFields (·.setIfInBounds 3 ((none:Option Addr).elim Value.none fun f=>rawInt f)))).get? b=s.heap.get? b:=fun b hb=>Heap.get?_update_other _ _ (Ne.symm hb)
  unfold setFlight
  refine wpAny_bind (wpAny_field he hd h1 ?_)
  rw [if_pos (show (Value.ref T != Value.none)=true from by simp)]
  refine wpAny_setField hT dT z3 (k _ ⟨fun b o z=>(ot b fun y=>by rw [y,nT] at z; cases z).trans (hB b o z),hn,hl.of_keeps fun b o z q=>⟨o,(ot b (fl_notT hT dT z q)).trans z,rfl⟩,oe,vs,T,_,_,(ot e (Ne.symm Te)).trans he,hc,hdc,hd,h1,nT,Te,Heap.get?_update_self _ hT (Obj.isFreed_of_fields (Obj.data_mapFields dT _)),Obj.data_mapFields dT _,by simp [z3]⟩
    fun b o z q=>⟨o.slots,(ot b (fl_notT hT dT z q)).trans z⟩)
theorem FlD.tail (x:FlD B (env :: outer) e cls fl s.heap):FlD B outer e cls fl s.heap:=by
  obtain ⟨a,b,⟨_,_,c⟩,d⟩:=x
  exact ⟨a,b,c,d⟩
theorem FlD.there {h:Heap} (x:FlD B l e cls fl h):∃ ob,h.get? e=some ob∧ob.cls=cls:=by
  obtain ⟨_,_,_,oe,_,_,_,_,he,hc,_⟩:=x
  exact ⟨oe,he,hc⟩
theorem fl_leaves (hfr:A.frames=some (env :: outer)) (hf:env.frame=some L) (x:FlD B (env :: outer) e cls .none s.heap) (k:∀ h',FlD B outer e cls .none h'→s.heap.UpToSlots h'→Q () {s with heap:=h'}):wpAny M A (leaving env (.ref e)) Q E s:=by
  unfold leaving
  refine wpAny_bind (fl_note hfr hf x fun h1 x1 u1=>fl_lands (s:={s with heap:=h1}) x1 fun h2 x2 u2=>k h2 (FlD.tail (s:={s with heap:=h2}) x2) (u1.trans u2))
theorem fl_made {h:Heap} {args:List Value} (hfr:A.frames=some (env :: outer)) (hf:env.frame=some L) (hB:B.StaysIn h) (hl:h.FunFrames B (env :: outer)) (x:Heap.MadeExcOf h s.heap e cls args)
    (k:∀ h',FlD B outer e cls .none h'→s.heap.UpToSlots h'→Q () {s with heap:=h'}):wpAny M A (leaving env (.ref e)) Q E s:=by
  obtain ⟨t,he,htn,ht⟩:=x.there
  have en:B.get? e=none:=by
    cases q:B.get? e with
    | none=>rfl
    | some o=>have z:=hB e o q; rw [x.new] at z; cases z
  unfold leaving noteFrame
  simp only [hf]
  refine wpAny_bind (wpAny_bind (wpAny_field (x:=Value.none) he rfl rfl ?_))
  rw [if_neg (show ¬ ((Value.none != Value.none)=true) by decide)]
  exact fl_entry hfr (hl.of_keeps fun b o z _=>⟨o,x.keeps b o z,rfl⟩) hf he (fun b o z=>x.keeps b o (hB b o z)) en rfl (show 1 < 6 by decide) rfl fun h1 x1 u1=>fl_lands (s:={s with heap:=h1}) x1 fun h2 x2 u2=>k h2 (FlD.tail (s:={s with heap:=h2}) x2) (u1.trans u2)
end
def Fly (B:Heap) (stk:List Env) (ea C:Addr) (h:Heap):Prop:=FlD B stk ea (.ref C) .none h
def CXo (P:Program) (w:World):CXT:=fun outer H s E e s' =>
  ∃ (ea C:Addr) (H':Hp) (B:Heap),e=.ref ea∧E (.ref C) none H'∧s'.os=s.os∧AllBare s'.gens∧Un (frs outer) [] H H' s.heap s'.heap∧HOk P w H' s'.heap∧Fly B outer ea C s'.heap ∧
    ∀ b o,(H' b≠none∨∃ o',s.heap.get? b=some o')→b∉frs outer→s'.heap.get? b=some o→B.get? b=some o
theorem Un.left {fs stk:List Addr} {H₀ H:Hp} {h₀ h h' B:Heap} (u:Un fs [] H₀ H h₀ h) (hB:B.StaysIn h') (cov:∀ b o,(H b≠none∨∃ o',h₀.get? b=some o')→b∉stk→h.get? b=some o→B.get? b=some o)
    (hst:∀ b o,h₀.get? b=some o→b∈stk→b∈fs) (sl:∀ b∈fs,∀ o,h.get? b=some o→∃ sl,h'.get? b=some {o with slots:=sl}):Un fs [] H₀ H h₀ h' where
  keep:=fun b o e n hb hx=>hB b o (cov b o (.inr ⟨o,e⟩) (fun z=>hb (hst b o e z)) (u.keep b o e n hb hx))
  slot:=fun b o e n hb hx=>by
    obtain ⟨s1,e1⟩:=u.slot b o e n hb hx
    obtain ⟨s2,e2⟩:=sl b hb _ e1
    exact ⟨s2,e2⟩
  free:=u.free
  there:=fun b o e hx=>by
    obtain ⟨o',e'⟩:=u.there b o e hx
    by_cases hb:b∈stk
    · obtain ⟨s2,e2⟩:=sl b (hst b o e hb) _ e'
      exact ⟨_,e2⟩
    · exact ⟨o',hB b o' (cov b o' (.inr ⟨o,e⟩) hb e')⟩
  tups:=u.tups
  frzs:=u.frzs
  tbls:=u.tbls
theorem HOk.left {P:Program} {w:World} {H:Hp} {h h' B:Heap} (ok:HOk P w H h) (hB:B.StaysIn h') (cov:∀ b o,H b≠none→h.get? b=some o→B.get? b=some o):HOk P w H h':=fun a o e =>
  (ok a o e).stay (fun b u hb q=>hB b u (cov b u (by
    rcases hb with z | z
    · rw [z,e]; simp
    · rw [z]; simp) q)) (fun _ q=>q) (fun _ _ q=>q)
section
variable {X:Cx} {pins:List (Addr×Obj)} {σ:St} {H:Hp} {s:Shared} {E E':XK}
theorem Inv.oldfs (I:Inv X pins σ H s):∀ b o,X.s₀.heap.get? b=some o→b∈frs X.stack→b∈X.fs:=fun b o e hb=>by
  rcases List.mem_cons.mp (I.stkSub b hb) with z | z
  · exact absurd (Nat.lt_of_lt_of_le (Heap.lt_size e) I.ok.above) (by rw [z]; exact Nat.lt_irrefl _)
  · exact z
theorem Inv.ntr (I:Inv X pins σ H s):∀ b,H b≠none→b∉frs X.stack:=fun b hn z=>hn (I.stkFree b z)
theorem Inv.slotsOf (I:Inv X pins σ H s) {h':Heap} (sm:s.heap.UpToSlots h'):∀ b∈X.fs,∀ o,s.heap.get? b=some o→∃ sl,h'.get? b=some {o with slots:=sl}:=fun b hb o e=>by
  obtain ⟨_,o',ho',hd⟩:=I.funs.mem hb
  rw [e] at ho'
  cases ho'
  exact sm b o e hd
structure BodyX (X:Cx) (E:XK):Prop where
  stk:X.stack=X.env :: X.outer
  fr:X.env.frame=some X.env.locals
  ex:X.ex=[]
  xe:X.xe=fun e s'=>wpAny (model X.prog X.w) X.A (leaving X.env e) (fun _ s''=>CXo X.prog X.w X.outer X.H₀ X.s₀ E e s'') (fun e' s''=>CXo X.prog X.w X.outer X.H₀ X.s₀ E e' s'') s'
theorem body_cx {P:Program} {w:World} {K:PySem.W.Frag} {mg:Str→Option Value} {base:Heap} {N:List Str} {qual:Str} {scope:Scope} {f:Addr} {cd:Value} {A:Around} {outer:List Env} :
    BodyX (cxOf (CXo P w) P w K mg base N qual scope f cd A outer s H E) E:=⟨rfl,rfl,rfl,rfl⟩
theorem BodyX.raises (hb:BodyX X E) (I:Inv X pins σ H s) {h':Heap} {e C:Addr} {vs:List Value} (hx:Heap.MadeExcOf s.heap h' e (.ref C) vs) (q:E (.ref C) none H):X.xe (.ref e) {s with heap:=h'}:=by
  rw [hb.xe]
  have hfr:X.A.frames=some (X.env :: X.outer):=by rw [I.ok.frames,hb.stk]
  have hin:∀ env∈X.stack,∀ a,env.frame=some a→a∈frs X.stack:=fun env he a ha=>List.mem_filterMap.mpr ⟨env,he,ha⟩
  have fl:s.heap.FunFrames (PySem.W.hideAll s.heap (frs X.stack)) (X.env :: X.outer):=by
    have z:=PySem.W.funFrames_hide I.stack hin
    rw [hb.stk] at z ⊢
    exact z
  have ub:Un X.fs [] X.H₀ H X.s₀.heap s.heap:=by
    have z:=I.base
    rw [hb.ex] at z
    exact z
  have keepB:∀ b o,b∉frs X.stack→s.heap.get? b=some o→(PySem.W.hideAll s.heap (frs X.stack)).get? b=some o:=fun b o n e=>PySem.W.hideAll_get _ e n
  refine fl_made (B:=PySem.W.hideAll s.heap (frs X.stack)) (h:=s.heap) hfr hb.fr (fun b o z=>PySem.W.of_hideAll _ z) fl hx fun h'' x1 x4=>?_
  have sm:s.heap.UpToSlots h'':=(Heap.UpToSlots.of_keeps hx.keeps).trans x4
  refine ⟨e,C,H,_,rfl,q,I.os,I.bare,ub.left (stk:=frs X.stack) x1.1 (fun b o _ n e=>keepB b o n e) I.oldfs (I.slotsOf sm),I.hok.left x1.1 (fun b o n e=>keepB b o (I.ntr b n) e),x1,?_⟩
  intro b o c n e1
  have nb:b∉frs X.stack:=by
    rcases c with c | ⟨o',c⟩
    · exact I.ntr b c
    · exact fun z=>n (I.oldfs b o' c z)
  obtain ⟨o1,e2⟩:∃ o1,s.heap.get? b=some o1:=by
    rcases c with c | ⟨o',c⟩
    · exact I.hok.has c
    · exact ub.there b o' c (by simp)
  have e3:h''.get? b=some o1:=x1.1 b o1 (keepB b o1 nb e2)
  have e4:h''.get? b=some o:=e1
  rw [e3] at e4
  cases e4
  exact keepB b _ nb e2
theorem BodyX.passes (hb:BodyX X E) (hE:∀ c d H,E' c d H→E c d H):Passes (CXo X.prog X.w) X E':=fun pins σ H s e s' I h=>by
  obtain ⟨ea,C,H',B,rfl,q,os,bare,un,hok,fl,cov⟩:=h
  have J:Inv X pins σ H' s':=I.call' (ch:=[]) os un hok bare (fun b z=>absurd z (by simp))
  rw [hb.xe]
  have hfr:X.A.frames=some (X.env :: X.outer):=by rw [I.ok.frames,hb.stk]
  have ub:Un X.fs [] X.H₀ H' X.s₀.heap s'.heap:=by
    have z:=J.base
    rw [hb.ex] at z
    exact z
  have ui:Un X.fs [] X.H₀ H X.s₀.heap s.heap:=by
    have z:=I.base
    rw [hb.ex] at z
    exact z
  have cov1:∀ b o,(H' b≠none∨∃ o',X.s₀.heap.get? b=some o')→b∉frs X.stack→s'.heap.get? b=some o→B.get? b=some o:=fun b o c n e =>
    cov b o (c.imp_right fun ⟨o',z⟩=>ui.there b o' z (by simp)) n e
  have fl':FlD B (X.env :: X.outer) ea (.ref C) .none s'.heap:=by
    rw [← hb.stk]
    exact fl
  refine fl_leaves hfr hb.fr fl' fun h'' x1 x2=>?_
  refine ⟨ea,C,H',B,rfl,hE _ _ _ q,J.os,J.bare,ub.left (stk:=frs X.stack) x1.1 cov1 J.oldfs (J.slotsOf x2),J.hok.left x1.1 (fun b o n e=>cov1 b o (.inl n) (J.ntr b n) e),x1,?_⟩
  intro b o c n e1
  have nb:b∉frs X.stack:=by
    rcases c with c | ⟨o',c⟩
    · exact J.ntr b c
    · exact fun z=>n (J.oldfs b o' c z)
  obtain ⟨o1,e2⟩:∃ o1,s'.heap.get? b=some o1:=by
    rcases c with c | ⟨o',c⟩
    · exact J.hok.has c
    · exact ub.there b o' c (by simp)
  have e3:h''.get? b=some o1:=x1.1 b o1 (cov1 b o1 c nb e2)
  have e4:h''.get? b=some o:=e1
  rw [e3] at e4
  cases e4
  exact cov1 b _ c nb e2
end
section
variable {X:Cx} {E:XK} {x:Str} {C:Addr} {np cpos pos:Pos} {e₀:Expr} {rest:List Expr} {ta:TA} {K:PySem.W.Frag} {h:Heap}
theorem exc_obj {bmB:List Value} {newId:String} (X:K.In h) (q:PySem.W.excIn K C bmB newId=true) :
    ∃ bm N nm q bs hdct sn sub ab col dd k0 k1 k2 k3 k5 mN,h.get? C=some (excClassObj nm q C N bs bm hdct sn sub ab col dd k0 k1 k2 k3 k5 newId)∧h.Ns N mN∧mN "__init__"=none∧OwnTail h bmB bm:=by
  unfold PySem.W.excIn at q
  split at q
  · rename_i dd cd sl ho
    split at q
    · rename_i C' bm k0 k1 k2 k3 n k5 hm hs
      simp only [Bool.and_eq_true,beq_iff_eq,Bool.not_eq_true'] at q
      obtain ⟨⟨⟨⟨⟨rfl,rfl⟩,hdel⟩,ht⟩,hok⟩,hni⟩:=q
      obtain ⟨nm,bs,mro,ns,qn,hd,sn,sub,ab,col,del⟩:=cd
      dsimp only at hm hdel hok hni
      subst hm hdel
      have e:sl=#[k0,k1,k2,k3,some (.builtin n),k5]:=by
        obtain ⟨l⟩:=sl
        have hs':l=[k0,k1,k2,k3,some (.builtin n),k5]:=hs
        rw [hs']
      subst e
      exact ⟨bm,ns,nm,qn,bs,hd,sn,sub,ab,col,dd,k0,k1,k2,k3,k5,_,X _ _ ho,.of_isNs (PySem.W.isNs_of_in X hok),PySem.W.nsMap_none_of_in X hok hni,PySem.W.tail_of_in X ht⟩
    · cases q
  · cases q
def vErr:List Value:=[.type "ValueError",.type "Exception",.type "BaseException",.type "object"]
def tRaise (C:Addr) (E:XK) (ta:TA):TS:=fun _ σ H=>ta σ H fun vs H1=>vs.length≤sizeLine∧E (.ref C) none H1
theorem ps_raise (hb:BodyX X E) (hc:X.calm=true) (hg:Gl X x) (hm:X.mg x=some (.ref C)) (hx:PySem.W.excIn X.K C vErr "ValueError.__new__"=true) (ha:PA X (e₀ :: rest) ta)
    (hd:(x == ("__debug__":Str))=false:=by decide) (he:starEach (e₀ :: rest) X.env=(false,eval e₀ X.env) :: starEach rest X.env:=by rfl) (hpl:(backTo cpos (starEach rest X.env)).any (·.1)=false:=by rfl) :
    PS X (.Raise (some (.Call (.Name x np) (e₀ :: rest) [] cpos)) none pos) (tRaise C E ta):=by
  intro pins s σ H D I h
  obtain ⟨bm,N,nm,q,bs,hdct,sn,sub,ab,col,dd,k0,k1,k2,k3,k5,mN,hC,hN,hni,T⟩:=exc_obj I.ok.mod.kin hx
  have base:vErr.contains (.type "BaseException")=true:=F.excBase_ValueError.hasBase
  refine wpAny_Raise_call_subT (C:=C) (nm:=nm) (q:=q) (N:=N) (bs:=bs) (bm:=bm) (hdct:=hdct) (sn:=sn) (sub:=sub) (ab:=ab) (col:=col) (dd:=dd) (k0:=k0) (k1:=k1) (k2:=k2) (k3:=k3) (k5:=k5)
    F.excBase_ValueError (mN:=mN) (T.hasType base) (I.ok.hd hc) (by rw [he]; show (false || (backTo cpos (starEach rest X.env)).any (·.1))=false; rw [hpl]; rfl) hni (ld_glob I hg hm ⟨rfl,?_⟩ hd)
  have h1:=ha cpos pins s σ H _ I h
  rw [he] at h1 ⊢
  refine Calls.evalArgs_plain (wpAny_mono h1 (fun us s2 z=>?_) fun _ _ y=>y)
  obtain ⟨vs,H1,I1,r,hl,q1⟩:=z
  exact ⟨rfl,by rw [← r.length]; exact hl,I1.bk _ _ hC,hN.keeps I1.bk,T.keeps I1.bk,fun h' e hm=>hb.raises I1 hm q1⟩
end
section
variable {X:Cx} {pins:List (Addr×Obj)} {σ:St} {H:Hp} {s:Shared} {T:Addr→St→Hp→Prop}
def Tcov (X:Cx) (pins:List (Addr×Obj)) (H:Hp) (B h:Heap):Prop:=
  ∀ b o,(H b≠none∨(b∉X.ex∧∃ o',X.s₀.heap.get? b=some o')∨∃ p∈X.pn++pins,p.1=b)→b∉frs X.stack→h.get? b=some o→B.get? b=some o
def tryW (X:Cx) (pins:List (Addr×Obj)) (T:Addr→St→Hp→Prop):Value→Shared→Prop:=fun e s' =>
  ∃ ea C B σ H,e=.ref ea∧Inv X pins σ H s'∧Fly B X.stack ea C s'.heap∧Tcov X pins H B s'.heap∧T C σ H
abbrev Cx.tr (X:Cx) (pins:List (Addr×Obj)) (T:Addr→St→Hp→Prop):Cx:={X with xe:=tryW X pins T,pn:=X.pn++pins}
theorem Inv.tr (I:Inv X pins σ H s) (T:Addr→St→Hp→Prop):Inv (X.tr pins T) [] σ H s:=
  ⟨⟨I.ok.mod,I.ok.kind,I.ok.glob,I.ok.blt,I.ok.above,I.ok.inj,I.ok.has,I.ok.cab,I.ok.hd,I.ok.frames,I.ok.stk,I.ok.exf,I.ok.bs,I.ok.bsz,I.ok.noex,I.ok.exfs,I.ok.funs,I.ok.frf⟩,I.os,I.bare,I.base,I.loc,I.cell,I.free,I.freeC,
    fun p hp=>I.pin p (by simpa using hp),I.hok,I.len⟩
theorem Inv.untr {pins':List (Addr×Obj)} (I:Inv (X.tr pins T) pins' σ H s):Inv X pins σ H s:=
  ⟨⟨I.ok.mod,I.ok.kind,I.ok.glob,I.ok.blt,I.ok.above,I.ok.inj,I.ok.has,I.ok.cab,I.ok.hd,I.ok.frames,I.ok.stk,I.ok.exf,I.ok.bs,I.ok.bsz,I.ok.noex,I.ok.exfs,I.ok.funs,I.ok.frf⟩,I.os,I.bare,I.base,I.loc,I.cell,I.free,I.freeC,
    fun p hp=>I.pin p (List.mem_append_left _ hp),I.hok,I.len⟩
theorem cell_sl {h h':Heap} {c:Addr} {v:Option Value} (x:h.IsCell c v) (sm:h.UpToSlots h'):h'.IsCell c v:=by
  obtain ⟨o,ho,hd⟩:=x
  obtain ⟨sl,e⟩:=sm c o ho (fun vs q=>by rw [hd] at q; cases q)
  exact ⟨_,e,hd⟩
theorem Inv.landed {B h':Heap} (I:Inv X pins σ H s) (hB:B.StaysIn h') (cov:Tcov X pins H B s.heap) (sm:s.heap.UpToSlots h'):Inv X pins σ H {s with heap:=h'}:=by
  refine ⟨I.ok,I.os,I.bare,⟨fun b o e n hb hx=>?_,fun b o e n hb hx=>?_,I.base.free,fun b o e hx=>?_,I.base.tups,I.base.frzs,I.base.tbls⟩,?_,fun x c e=>?_,I.free,I.freeC,fun p hp=>?_,I.hok.left hB (fun b o n e=>cov b o (.inl n) (I.ntr b n) e),I.len⟩
  · exact hB b o (cov b o (.inr (.inl ⟨hx,o,e⟩)) (fun z=>hb (I.oldfs b o e z)) (I.base.keep b o e n hb hx))
  · obtain ⟨s1,e1⟩:=I.base.slot b o e n hb hx
    obtain ⟨s2,e2⟩:=I.slotsOf sm b hb _ e1
    exact ⟨s2,e2⟩
  · obtain ⟨o',e'⟩:=I.base.there b o e hx
    by_cases hb:b∈frs X.stack
    · obtain ⟨s2,e2⟩:=I.slotsOf sm b (I.oldfs b o e hb) _ e'
      exact ⟨_,e2⟩
    · exact ⟨o',hB b o' (cov b o' (.inr (.inl ⟨hx,o,e⟩)) hb e')⟩
  · obtain ⟨m,hn,hl⟩:=I.loc
    refine ⟨m,sm.ns hn,fun i x v e1 e2 e3=>?_⟩
    obtain ⟨u,r,l⟩:=hl i x v e1 e2 e3
    refine ⟨u,r,?_⟩
    rcases l with l | ⟨k,c,e,l⟩
    · exact .inl l
    · exact .inr ⟨k,c,e,cell_sl l sm⟩
  · obtain ⟨v,q⟩:=I.cell x c e
    exact ⟨v,cell_sl q sm⟩
  · obtain ⟨e,n,l,f,d⟩:=I.pin p hp
    exact ⟨hB _ _ (cov p.1 p.2 (.inr (.inr ⟨p,hp,rfl⟩)) (fun z=>(List.mem_cons.mp (I.stkSub _ z)).elim l f) e),n,l,f,d⟩
theorem Tcov.land {B h':Heap} (I:Inv X pins σ H s) (hB:B.StaysIn h') (cov:Tcov X pins H B s.heap):Tcov X pins H B h':=fun b o c n e=>by
  obtain ⟨o1,e1⟩:∃ o1,s.heap.get? b=some o1:=by
    rcases c with c | ⟨hx,o',c⟩ | ⟨p,hp,rfl⟩
    · exact I.hok.has c
    · exact I.base.there b o' c hx
    · exact ⟨_,(I.pin p hp).1⟩
  have e2:=hB b o1 (cov b o1 c n e1)
  rw [e] at e2
  cases e2
  exact cov b _ c n e1
abbrev Cx.hdl (X:Cx) (ea:Addr):Cx:={X with A:=X.A.mark (some (.ref ea)),calm:=false,xe:=fun _ _=>False}
theorem Inv.hdl (I:Inv X pins σ H s) (ea:Addr):Inv (X.hdl ea) pins σ H s:=
  ⟨⟨I.ok.mod,I.ok.kind,I.ok.glob,I.ok.blt,I.ok.above,I.ok.inj,I.ok.has,I.ok.cab,fun z=>Bool.noConfusion z,I.ok.frames,I.ok.stk,I.ok.exf,I.ok.bs,I.ok.bsz,I.ok.noex,I.ok.exfs,I.ok.funs,I.ok.frf⟩,I.os,I.bare,I.base,I.loc,I.cell,I.free,I.freeC,
    I.pin,I.hok,I.len⟩
theorem Inv.unhdl {ea:Addr} (ok:X.Ok) (I:Inv (X.hdl ea) pins σ H s):Inv X pins σ H s:=⟨ok,I.os,I.bare,I.base,I.loc,I.cell,I.free,I.freeC,I.pin,I.hok,I.len⟩
abbrev TH:=Addr→TS
def PHs (X:Cx) (hs:List ExceptHandler) (th:TH):Prop:=
  ∀ (pins:List (Addr×Obj)) (s:Shared) (σ:St) (H:Hp) (D:Ends) (ea C:Addr) (B:Heap),Inv X pins σ H s→Fly B X.stack ea C s.heap→Tcov X pins H B s.heap→th C D σ H →
    wpAny (model X.prog X.w) X.A (handleBy (.ref ea) X.env hs) (SP X pins D) X.xe s
def thNil:TH:=fun _ _ _ _=>False
theorem phs_nil:PHs X [] thNil:=fun _ _ _ _ _ _ _ _ _ _ _ h=>h.elim
def thCons (K:PySem.W.Frag) (Ci:Addr) (t:TS) (th:TH):TH:=fun C D σ H =>
  (PySem.W.exmOne K (.ref C) (.ref Ci)=some true∧t D σ H)∨(PySem.W.exmOne K (.ref C) (.ref Ci)=some false∧th C D σ H)
def tTry (T:Addr→St→Hp→Prop) (tb:TS) (th:TH):TS:=fun D σ H=>tb D σ H∧∀ C σ' H',σ'.length=σ.length→T C σ' H'→th C D σ' H'
theorem ps_try {body:List Stmt} {h₀:ExceptHandler} {hs:List ExceptHandler} {pos:Pos} {tb:TS} {th:TH} (T:Addr→St→Hp→Prop) (hb:∀ pins,PSs (X.tr pins T) body tb) (hh:PHs X (h₀ :: hs) th)
    (hst:X.stack=X.env :: X.outer:=by rfl) (hfr:X.env.frame=some X.env.locals:=by rfl):PS X (.Try body (h₀ :: hs) [] [] pos) (tTry T tb th):=by
  intro pins s σ H D I h
  obtain ⟨h1,h2⟩:=h
  refine wpAny_Try_except (wpAny_mono (hb pins [] s σ H D (I.tr T) h1) (fun f s1 q=>?_) (fun e s1 q=>?_))
  · cases f with
    | next=>obtain ⟨σ',H',J,q⟩:=q; exact wpAny_execs_nil ⟨σ',H',J.untr,q⟩
    | ret v=>obtain ⟨v,σ',H',J,r,q⟩:=q; exact ⟨v,σ',H',J.untr,r,q⟩
    | brk=>obtain ⟨σ',H',J,q⟩:=q; exact ⟨σ',H',J.untr,q⟩
    | cont=>obtain ⟨σ',H',J,q⟩:=q; exact ⟨σ',H',J.untr,q⟩
  · obtain ⟨ea,C,B,σ',H',rfl,J,fl,cov,t⟩:=q
    have fl1:FlD B (X.env :: X.outer) ea (.ref C) .none s1.heap:=by
      rw [← hst]
      exact fl
    refine fl_note (by rw [J.ok.frames,hst]) hfr fl1 fun h4 x4 s4=>?_
    refine fl_lands x4 fun h5 fl5 s5=>?_
    have J5:=J.landed fl5.1 cov (s4.trans s5)
    rw [← hst] at fl5
    exact hh pins _ σ' H' D ea C B J5 fl5 (Tcov.land J fl5.1 cov) (h2 C σ' H' (by rw [J.len,I.len]) t)
def PassesS (CX:CXT) (X:Cx) (E:St→XK):Prop:=∀ (pins:List (Addr×Obj)) (σ:St) (H:Hp) (s:Shared) (e:Value) (s':Shared),Inv X pins σ H s→CX X.stack H s (E σ) e s'→X.xe e s'
def tryE (T:Addr→St→Hp→Prop):St→XK:=fun σ c _ H=>∃ C,c=.ref C∧T C σ H
theorem try_passes:PassesS (CXo X.prog X.w) (X.tr pins T) (tryE T):=fun pins' σ H s e s' I h=>by
  obtain ⟨ea,C,H',B,rfl,⟨C',hC,q⟩,os,bare,un,hok,fl,cov⟩:=h
  cases hC
  have J:Inv (X.tr pins T) pins' σ H' s':=I.call' (ch:=[]) os un hok bare (fun b z=>absurd z (by simp))
  refine ⟨ea,C,B,σ,H',rfl,J.untr,fl,fun b o c n e=>cov b o ?_ n e,q⟩
  rcases c with c | ⟨c1,o',c2⟩ | ⟨p,hp,rfl⟩
  · exact .inl c
  · exact .inr (I.base.there b o' c2 c1)
  · exact .inr ⟨_,(I.pin p (List.mem_append_left _ hp)).1⟩
def tCallS (sp:Sp) (E:St→XK) (t:TA):TE:=fun σ H Q=>t σ H fun vs H1=>sp vs H1 Q (E σ)
variable {CX:CXT} {k:Nat} {f:Addr} {fd:FuncData} {ps:List Str} {sp:Sp} {E:St→XK} {x:Str} {p pos:Pos} {e:Expr} {es:List Expr} {t:TA}
theorem pe_callS (F:FnOk X.prog X.w X.K X.mg X.base CX k f fd ps sp) (hr:Room k X.A) (hg:Gl X x) (hm:X.mg x=some (.ref f)) (hk:PySem.W.keepIn X.K (.ref f)=true) (hb:Binds X.K fd ps []) (hx:PassesS CX X E) (ha:PA X (e :: es) t)
    (hdb:(x == ("__debug__":Str))=false:=by decide) (he:starEach (e :: es) X.env=(false,eval e X.env) :: starEach es X.env:=by rfl) (hpl:(backTo pos (starEach es X.env)).any (·.1)=false:=by rfl) :
    PE X (.Call (.Name x p) (e :: es) [] pos) (tCallS sp E t):=by
  intro pins s σ H Q I h
  refine wpAny_Call_Name_kw (ld_glob I hg hm ?_ hdb)
  refine PySem.W.callWith_K (h₀:=X.base) I.ok.mod.kin hk (thn (ha pos pins s σ H _ I h) fun us s1 z=>?_) he hpl
  obtain ⟨vs,H1,I1,r,q⟩:=z
  refine ⟨I1.kIn,?_⟩
  have hl:(us++[]).length=ps.length:=by
    rw [List.append_nil,← r.length]
    exact F.len _ _ _ _ q
  have hb1:=hb s1 us I1.kIn hl
  rw [List.append_nil] at hb1
  refine wpAny_call (codeAny_mono (F.run X.A X.stack s1 H1 ⟨us,[]⟩ us vs Q (E σ) hr I1.env0 hb1 r q) fun r s' hq=>?_)
  cases r with
  | error e=>exact hx pins σ H1 s1 e s' I1 hq
  | ok fl =>
    cases fl with
    | ret u=>exact I1.after hq
    | next=>exact False.elim hq
    | brk=>exact False.elim hq
    | cont=>exact False.elim hq
end
theorem Fun.okX {P:Program} {w:World} {K:PySem.W.Frag} {mg:Str→Option Value} {base:Heap} {x qual:Str} {st:Stmt} {f:Addr} {fd:FuncData} {N ps:List Str} {k:Nat} {sp:Sp} (F:Fun K x qual st f fd) (S:FnScope N ps (defScope st)) (len:∀ vs H Q E,sp vs H Q E→vs.length=ps.length)
    (hbody:∀ (cdv:Value) (A:Around) (outer:List Env) (s:Shared) (H:Hp) (vs:List V) (Q:VK) (E:XK),Room k (A.deeper (envOfC qual (defScope st) s.heap.objs.size f cdv))→sp vs H Q E →
      ∃ t,PSs (cxOf (CXo P w) P w K mg base N qual (defScope st) f cdv A outer s H E) (defBody st) t∧t {nx:=fun _ H'=>Q .non H',rt:=Q} (start N vs) H):FnOk P w K mg base (CXo P w) (k + 1) f fd ps sp:=by
  obtain ⟨oc,od,kV,doc,pm,an,cdv,ct,osl,rfl,lk,hcd⟩:=F.ex
  exact fn_of lk hcd S len fun A outer s H vs Q E hr hsp=>hbody cdv A outer s H vs Q E hr hsp
end L2
namespace L2
open PySem PySem.Spec PyProof.Rows
theorem compLoop_any {prog:Program} {w:World} {A:Around} {R:Result→Shared→Prop} {s:Shared} {elt target iter:Expr} {ifs:List Expr} {scope:Scope} {pos:Pos} {it acc:Value} {env:Env} (J:Nat→Shared→Prop)
    (turn:∀ n s,J n s→wpAny (model prog w) A (pyNext it) (fun r s1=>match r with
      | none=>R (.ok .next) s1
      | some v=>wpAny (model prog w) A (letOwnedTupleGo target it v) (fun _ s2=>wpAny (model prog w) A (assign target env v) (fun _ s3 =>
          wpAny (model prog w) A (forIn ifs true fun c r=>if r=true then do let ok ← isTrue c env (eval c env); pure (ForInStep.yield ok) else pure (ForInStep.yield r)) (fun ok s4 =>
            if ok=true then wpAny (model prog w) A (eval elt env) (fun x s5=>wpAny (model prog w) A (call (.builtin "list.append") [acc,x]) (fun _ s6=>∃ m,m < n∧J m s6) (fun _ _=>False) s5) (fun _ _=>False) s4
            else ∃ m,m < n∧J m s4) (fun _ _=>False) s3) (fun _ _=>False) s2) (fun _ _=>False) s1) (fun _ _=>False) s)
    (n:Nat) (h:J n s):codeAny (model prog w) A (.compLoop (.ListComp elt [⟨target,iter,ifs,0⟩] scope pos) 0 it acc env) R s:=by
  refine codeAny_loop rfl J (fun n s hI=>?_) n h
  show wpAny _ A ((compTurn (.ListComp elt [⟨target,iter,ifs,0⟩] scope pos) 0 it acc env).onRaise
    (fun x=>do noteFrame x env; theTreesLotGoes x)) _ _ s
  refine wpAny_noted ?_
  rw [compTurn_list]
  refine wpAny_bind (wpAny_standAt (wpAny_bind (wpAny_mono (turn n s hI) (fun r s1 h1=>?_) fun _ _ z=>z.elim)))
  cases r with
  | none=>exact wpAny_pure h1
  | some v =>
    refine wpAny_bind (wpAny_mono h1 (fun _ s2 h2=>?_) fun _ _ z=>z.elim)
    refine wpAny_bind (wpAny_mono h2 (fun _ s3 h3=>?_) fun _ _ z=>z.elim)
    refine wpAny_bind (wpAny_mono h3 (fun ok s4 h4=>?_) fun _ _ z=>z.elim)
    cases ok with
    | false=>exact wpAny_pure ⟨rfl,h4⟩
    | true =>
      refine wpAny_bind (wpAny_bind (wpAny_mono h4 (fun x s5 h5=>?_) fun _ _ z=>z.elim))
      exact wpAny_bind (wpAny_mono h5 (fun _ s6 h6=>wpAny_pure (wpAny_pure ⟨rfl,h6⟩)) fun _ _ z=>z.elim)
theorem rl_local {env:Env}:∀ {names:List (Str×NameKind)} {x:Str},
    (names.map fun (n,k)=>if (k == NameKind.free && env.scope.kind == .function && env.kindOf n == some .cell) then (n,NameKind.cell) else (n,k)).lookup x=some .local→names.lookup x=some .local
  | [],_,h=>by simp at h
  | (n,k) :: r,x,h=>by
    have ih:=@rl_local env r x
    rw [List.map_cons] at h
    dsimp only at h
    by_cases hc:(k == NameKind.free && env.scope.kind == .function && env.kindOf n == some .cell)=true
    · rw [if_pos hc] at h
      cases hx:x == n with
      | true=>simp [List.lookup_cons,hx] at h
      | false =>
        simp only [List.lookup_cons,hx] at h ⊢
        exact ih h
    · rw [if_neg hc] at h
      cases hx:x == n with
      | true =>
        simp only [List.lookup_cons,hx] at h ⊢
        exact h
      | false =>
        simp only [List.lookup_cons,hx] at h ⊢
        exact ih h
theorem rl_far {env:Env}:∀ {names:List (Str×NameKind)} {x:Str},
    ((names.map fun (n,k)=>if (k == NameKind.free && env.scope.kind == .function && env.kindOf n == some .cell) then (n,NameKind.cell) else (n,k)).lookup x=some .cell ∨
     (names.map fun (n,k)=>if (k == NameKind.free && env.scope.kind == .function && env.kindOf n == some .cell) then (n,NameKind.cell) else (n,k)).lookup x=some .free)→names.lookup x=some .cell∨names.lookup x=some .free
  | [],_,h=>by simp at h
  | (n,k) :: r,x,h=>by
    have ih:=@rl_far env r x
    rw [List.map_cons] at h
    dsimp only at h
    by_cases hc:(k == NameKind.free && env.scope.kind == .function && env.kindOf n == some .cell)=true
    · rw [if_pos hc] at h
      have hk:k=.free:=by
        have z:=(Bool.and_eq_true_iff.mp (Bool.and_eq_true_iff.mp hc).1).1
        exact eq_of_beq z
      cases hx:x == n with
      | true =>
        simp only [List.lookup_cons,hx]
        rw [hk]
        exact .inr rfl
      | false =>
        simp only [List.lookup_cons,hx] at h ⊢
        exact ih h
    · rw [if_neg hc] at h
      cases hx:x == n with
      | true =>
        simp only [List.lookup_cons,hx] at h ⊢
        exact h
      | false =>
        simp only [List.lookup_cons,hx] at h ⊢
        exact ih h
def clOf (env:Env):List (Str×NameKind)→List (Str×Addr)→List (Str×Addr)
  | [],cs=>cs
  | (n,k) :: r,cs=>clOf env r (if k=.free then (match env.cells.lookup n with | some c=>(n,c) :: cs | none=>cs) else cs)
theorem clOf_for {env:Env}:∀ (names:List (Str×NameKind)) (cs:List (Str×Addr)),(∀ y∈names,y.2=.free→∃ c,env.cells.lookup y.1=some c) →
    (forIn names cs fun x r=>(do
      if (x.2 == NameKind.free)=true then do
        let c ← cellOf env x.1
        pure (ForInStep.yield ((x.1,c) :: r))
      else pure (ForInStep.yield r):Sem (ForInStep (List (Str×Addr)))))=(pure (clOf env names cs):Sem (List (Str×Addr)))
  | [],cs,_=>rfl
  | (n,k) :: r,cs,h=>by
    have ih:=fun cs'=>clOf_for r cs' (fun y hy=>h y (List.mem_cons_of_mem _ hy))
    rw [List.forIn_cons]
    by_cases hk:k=.free
    · subst hk
      obtain ⟨c,hc⟩:=h _ List.mem_cons_self rfl
      have e1:cellOf env n=pure c:=by
        unfold cellOf
        rw [show env.cells.lookup n=some c from hc]
      have e2:clOf env ((n,.free) :: r) cs=clOf env r ((n,c) :: cs):=by
        show clOf env r (if NameKind.free=.free then (match env.cells.lookup n with | some c=>(n,c) :: cs | none=>cs) else cs)=_
        rw [if_pos rfl,show env.cells.lookup n=some c from hc]
      rw [e2,← ih]
      simp [e1]
    · have e2:clOf env ((n,k) :: r) cs=clOf env r cs:=by
        show clOf env r (if k=.free then _ else cs)=_
        rw [if_neg hk]
      rw [e2,← ih]
      have e3:(k == NameKind.free)=false:=by
        cases k <;> first | rfl | exact absurd rfl hk
      simp [e3]
theorem clOf_sub {env:Env}:∀ {names:List (Str×NameKind)} {cs:List (Str×Addr)} {n:Str} {c:Addr},(∀ n c,cs.lookup n=some c→env.cells.lookup n=some c)→(clOf env names cs).lookup n=some c→env.cells.lookup n=some c
  | [],_,_,_,h,e=>h _ _ e
  | (m,k) :: r,cs,n,c,h,e=>by
    refine clOf_sub (names:=r) (fun n' c' e'=>?_) e
    by_cases hk:k=.free
    · rw [if_pos hk] at e'
      cases hm:env.cells.lookup m with
      | none =>
        rw [hm] at e'
        exact h _ _ e'
      | some d =>
        rw [hm] at e'
        dsimp only at e'
        rw [List.lookup_cons] at e'
        split at e'
        · rename_i z
          rw [eq_of_beq z,hm]
          exact e'
        · exact h _ _ e'
    · rw [if_neg hk] at e'
      exact h _ _ e'
theorem clOf_more {env:Env}:∀ (names:List (Str×NameKind)) (cs:List (Str×Addr)) (n:Str),(∃ c,cs.lookup n=some c)→∃ c,(clOf env names cs).lookup n=some c
  | [],_,_,h=>h
  | (m,k) :: r,cs,n,h=>by
    refine clOf_more r _ n ?_
    by_cases hk:k=.free
    · rw [if_pos hk]
      cases hm:env.cells.lookup m with
      | none=>exact h
      | some d =>
        dsimp only
        rw [List.lookup_cons]
        split
        · exact ⟨_,rfl⟩
        · exact h
    · rw [if_neg hk]
      exact h
theorem clOf_has {env:Env}:∀ {names:List (Str×NameKind)} {cs:List (Str×Addr)} {n:Str},(n,NameKind.free)∈names→(∃ c,env.cells.lookup n=some c)→∃ c,(clOf env names cs).lookup n=some c
  | [],_,_,h,_=>by cases h
  | (m,k) :: r,cs,n,h,hc=>by
    rcases List.mem_cons.mp h with e | e
    · obtain ⟨e1,e2⟩:=Prod.mk.inj e
      subst e1 e2
      obtain ⟨c,hc⟩:=hc
      refine clOf_more r _ n ⟨c,?_⟩
      rw [if_pos rfl,hc]
      dsimp only
      rw [List.lookup_cons,beq_self_eq_true]
    · exact clOf_has (names:=r) e hc
structure CompOk (X:Cx) (scope:Scope) (NN:List Str):Prop where
  nocell:∀ y∈scope.names,y.2≠.cell
  kind:scope.kind=.function
  names:∀ y∈scope.names,y.2=.local→scope.names.lookup y.1=some .local
  far:∀ y∈scope.names,y.2=.free→X.env.kindOf y.1=some .cell∨X.env.kindOf y.1=some .free
  len:NN.length=X.N.length
  apart:∀ (i:Nat) (n:Str),NN[i]?=some n→scope.names.lookup n≠some .local∧(X.N[i]?=some n∨scope.names.lookup n=none)
theorem CompOk.closed {X:Cx} {scope:Scope} (hf:∀ y∈scope.names,y.2≠.free) (hc:∀ y∈scope.names,y.2≠.cell) (hk:scope.kind=.function) (hn:∀ y∈scope.names,y.2=.local→scope.names.lookup y.1=some .local)
    (ha:∀ n∈X.N,scope.names.lookup n≠some .local):CompOk X scope X.N where
  nocell:=hc
  kind:=hk
  names:=hn
  far:=fun y hy e=>absurd e (hf y hy)
  len:=rfl
  apart:=fun i n e=>⟨ha n (List.mem_of_getElem? e),.inl e⟩
theorem CompOk.open {X:Cx} {scope:Scope} {NN N:List Str} {sc:Scope} (hN:X.N=N) (hsc:X.env.scope=sc) (hc:∀ y∈scope.names,y.2≠.cell) (hk:scope.kind=.function) (hn:∀ y∈scope.names,y.2=.local→scope.names.lookup y.1=some .local)
    (hf:∀ y∈scope.names,y.2=.free→sc.names.lookup y.1=some .cell) (hl:NN.length=N.length) (ha:∀ p∈NN.zip N,scope.names.lookup p.1≠some .local∧(p.2=p.1∨scope.names.lookup p.1=none)):CompOk X scope NN where
  nocell:=hc
  kind:=hk
  names:=hn
  far:=fun y hy e=>.inl (by have z:=hf y hy e; rw [← hsc] at z; exact z)
  len:=by rw [hN]; exact hl
  apart:=fun i n e=>by
    have lt:i < N.length:=by rw [← hl]; exact (List.getElem?_eq_some_iff.mp e).1
    have e2:N[i]?=some N[i]:=List.getElem?_eq_getElem lt
    have z:=ha (n,N[i]) (List.mem_of_getElem? (i:=i) (by rw [List.getElem?_zip_eq_some]; exact ⟨e,e2⟩))
    refine ⟨z.1,?_⟩
    rcases z.2 with z | z
    · left
      rw [hN,e2]
      exact congrArg some z
    · exact .inr z
abbrev cxC (X:Cx) (scope:Scope) (NL:List Str) (fp:List Addr) (s₂:Shared) (H₂:Hp) (C:Addr):Cx:=
  {X with N:=NL,s₀:=s₂,H₀:=H₂,env:=compEnvC scope (clOf X.env scope.names []) C X.env,outer:=X.stack,ex:=fp,fn:=fun _=>false,pn:=[],xe:=fun _ _=>False}
def PTs (X:Cx) (ifs:List Expr) (t:TT):Prop:=
  ∀ (pins:List (Addr×Obj)) (s:Shared) (σ:St) (H:Hp) (Q:Bool→Hp→Prop),Inv X pins σ H s→t σ H Q →
    wpAny (model X.prog X.w) X.A (forIn ifs true fun c r=>if r=true then do let ok ← isTrue c X.env (eval c X.env); pure (ForInStep.yield ok) else pure (ForInStep.yield r)) (TP X pins σ Q) X.xe s
def tAll:TT:=fun _ H Q=>Q true H
theorem pts_nil {X:Cx}:PTs X [] tAll:=fun pins s σ H Q I h=>wpAny_tests_nil ⟨H,I,h⟩
theorem pts_one {X:Cx} {c:Expr} {t:TT} (h:PT X c t):PTs X [c] t:=fun pins s σ H Q I q=>wpAny_tests_one (h pins s σ H Q I q)
def tComp (n:Nat) (wi:TI) (g:TG) (tc:TT) (te:TE):TE:=fun σ H Q=>wi σ H fun J H1=>∃ W:Nat→Nat→List V→Hp→Prop,(∃ m,W 0 m [] H1)∧∀ i m ys H,W i m ys H→ys.length < sizeLine ∧
  ((J.stop i H∧∀ p,H p=none→Q (.ref p) (upd H p (.lst ys))) ∨
   (J.go i H∧∃ N:List V→Hp→Prop,(∀ ys' H',N ys' H'→∃ m',m' < m∧W (i + 1) m' ys' H')∧∀ x H',J.yld i H x H'→g x (List.replicate n none++σ) H' fun σ2 H2=>σ2.drop n=σ∧tc σ2 H2 fun b H3 =>
      if b=true then te σ2 H3 fun y H4=>N (ys++[y]) H4 else N ys H3))
section
variable {X:Cx}
theorem drop_get {σ σ2:St} {n:Nat} (h:σ2.drop n=σ) (i:Nat) (v:V) (e:(List.replicate n none++σ)[i]?=some (some v)):σ2[i]?=some (some v):=by
  by_cases hi:i < n
  · rw [List.getElem?_append_left (by simpa using hi),List.getElem?_replicate,if_pos hi] at e
    cases e
  · rw [List.getElem?_append_right (by simpa using hi),List.length_replicate] at e
    rw [← h,List.getElem?_drop] at e
    rw [show n + (i - n)=i by omega] at e
    exact e
theorem comp_gen {elt target iter:Expr} {ifs:List Expr} {scope:Scope} {NN:List Str} {pos pos':Pos} {wi:TI} {g:TG} {tc:TT} {te:TE} {use:Option (Value→Sem Unit)} {Qv:Value→Shared→Prop} (own:List Str) (ok:CompOk X scope NN) (hc:X.calm=true) (hi:PI X target iter wi)
    (hg:∀ fp s₂ H₂ C,PG (cxC X scope (own++NN) fp s₂ H₂ C) target g) (ht:∀ fp s₂ H₂ C,PTs (cxC X scope (own++NN) fp s₂ H₂ C) ifs tc) (he:∀ fp s₂ H₂ C,PE (cxC X scope (own++NN) fp s₂ H₂ C) elt te)
    (hs:∀ x,foldedSetIterable iter X.env x=pure x) {pins:List (Addr×Obj)} {s:Shared} {σ:St} {H:Hp} {Q:VK} (I:Inv X pins σ H s) (h:tComp own.length wi g tc te σ H Q)
    (hfin:∀ (s4:Shared) (C D:Addr) (H':Hp) (m:Str→Option Value),s4.heap.Ns C m→Inv X pins σ H' s4→H' C=none→C≠X.env.locals→X.s₀.heap.objs.size≤C→(∀ x c,X.env.cells.lookup x=some c→c≠C)→(∀ p∈X.pn++pins,p.1≠C)→Q (.ref D) H' →
      compPost (model X.prog X.w) X.A X.xe use Qv (.ref D) C (.ok .next) s4) :
    wpAny (model X.prog X.w) X.A (comprehension (.ListComp elt [⟨target,iter,ifs,0⟩] scope pos) scope X.env pos' (newList []) false (eval iter X.env) use) Qv X.xe s:=by
  have hfr:∀ y∈scope.names,y.2=.free→∃ c,X.env.cells.lookup y.1=some c:=fun y hy e=>I.ok.has _ (ok.far y hy e)
  have okclos:closureFor scope X.env=pure (clOf X.env scope.names []):=by
    unfold closureFor
    rw [← clOf_for scope.names [] hfr]
    simp
  have oksub:∀ n c,(clOf X.env scope.names []).lookup n=some c→X.env.cells.lookup n=some c:=fun n c e=>clOf_sub (fun n c e=>by simp at e) e
  have okfar:∀ n,(scope.names.lookup n=some .cell∨scope.names.lookup n=some .free)→(∃ c,(clOf X.env scope.names []).lookup n=some c)∧(X.env.kindOf n=some .cell∨X.env.kindOf n=some .free):=fun n e=>by
    rcases e with e | e
    · exact absurd rfl (ok.nocell _ (PySem.mem_of_lookup e))
    · have m:=PySem.mem_of_lookup e
      exact ⟨clOf_has m (hfr _ m rfl),ok.far _ m rfl⟩
  refine wpAny_comprehension_free (use:=use) rfl hs okclos ok.kind ok.names (thn (hi pins s σ H _ I h) fun xv s1 h1=>thn h1 fun itv s2 h2=>?_)
  obtain ⟨it,fp,tn,J,H2,e,I2,T,st2,f2,W,⟨m0,w0⟩,turn⟩:=h2
  subst e
  have fpLt:∀ b∈fp,b < s2.heap.objs.size:=fun b hb=>by
    obtain ⟨o,e,_⟩:=T.obj _ _ st2 b hb
    exact Heap.lt_size e
  refine wpAny_newObj_type (wpAny_newFunctionEnv ok.nocell (by intro y hy; simp at hy) (fun h1 hns hsb=>?_) ok.kind)
  dsimp only at hns hsb ⊢
  generalize hP:s2.heap.push {cls:=.type "list",dict:=none,data:=.seq ([]:List Value).toArray}=P at hns hsb ⊢
  have hC:P.objs.size=s2.heap.objs.size + 1:=by rw [← hP,Heap.size_push]
  have hDC:s2.heap.objs.size≠P.objs.size:=by rw [hC]; exact Nat.ne_of_lt (Nat.lt_succ_self _)
  have leC:s2.heap.objs.size≤P.objs.size:=by rw [hC]; exact Nat.le_succ _
  have old:∀ b o,s2.heap.get? b=some o→h1.get? b=some o:=fun b o e =>
    hsb.extBut b o (by rw [hC]; exact Nat.ne_of_lt (Nat.lt_succ_of_lt (Heap.lt_size e))) (Heap.get?_push_of_some _ (hP ▸ Heap.get?_push_of_some _ e))
  have accAt:h1.get? s2.heap.objs.size=some {cls:=.type "list",data:=.seq ([]:List Value).toArray 0}:=hsb.extBut _ _ hDC (Heap.get?_push_of_some _ (hP ▸ Heap.get?_push_size _ rfl))
  -- the block's context is well made
  have okC:(cxC X scope (own++NN) fp s2 H2 P.objs.size).Ok:=by
    refine ⟨I.ok.mod,ok.kind,I.ok.glob,I.ok.blt,by show s2.heap.objs.size≤P.objs.size; omega,fun y z c a b=>I.ok.inj y z c (oksub _ _ a) (oksub _ _ b),fun y hy=>(okfar y (rl_far hy)).1,fun y c z _=>Bool.noConfusion z,I.ok.hd,I.ok.frames,.inl rfl,
      fun b hb=>⟨fun z=>?_,fun y c e=>(f2 b hb).2.2.2.2.1 y c (oksub _ _ e)⟩,I2.bs,Nat.le_trans I.ok.bsz I2.sz,fun b o e hb=>?_,fun b hb z=>?_,I2.stack,I2.stkFree⟩
    · exact Nat.ne_of_lt (Nat.lt_of_lt_of_le (fpLt b hb) leC) z
    · rcases (f2 b hb).2.2.2.1 with q | q
      · exact I.ok.noex b o e q
      · exact absurd (Nat.lt_of_lt_of_le (Heap.lt_size e) (Nat.le_trans I.ok.bsz q)) (Nat.lt_irrefl _)
    · rcases List.mem_cons.mp (I2.stkSub b z) with q | q
      · exact (f2 b hb).2.1 q
      · exact (f2 b hb).2.2.1 q
  have fpOk:∀ {H':Hp} {o:Obj},(∀ b∈fp,H' b=none)→∀ b∈fp,FpOk (cxC X scope (own++NN) fp s2 H2 P.objs.size) [(s2.heap.objs.size,o)] H' b:=fun {H' o} hn b hb=>by
    have lt:=fpLt b hb
    refine ⟨hn b hb,fun z=>?_,fun z=>okC.exfs b hb z,.inl hb,fun y c e=>(okC.exf b hb).2 y c e,fun p hp z=>?_⟩
    · exact Nat.ne_of_lt (Nat.lt_of_lt_of_le lt leC) z
    · have hp':p=(s2.heap.objs.size,o):=by simpa using hp
      subst hp'
      exact Nat.ne_of_lt lt (Eq.symm z)
  have cellNe:∀ y c,(clOf X.env scope.names []).lookup y=some c→c < s2.heap.objs.size:=fun y c e=>by
    obtain ⟨v,q⟩:=I2.cell y c (oksub _ _ e)
    exact q.lt
  have start:Inv (cxC X scope (own++NN) fp s2 H2 P.objs.size) [] (List.replicate own.length none++σ) H2 {s2 with heap:=h1,toks:=s2.toks + ([]:List (Str×Value)).length}:=by
    refine ⟨okC,rfl,I2.bare,Un.kept old,⟨_,hns,fun i y v e1 e2 e3=>?_⟩,fun y c e=>?_,I2.hok.fresh (by show s2.heap.objs.size≤P.objs.size; omega),fun y c e=>I2.freeC y c (oksub _ _ e),fun p hp=>absurd (show p∈([]:List (Addr×Obj)) from by simpa using hp) (by simp),I2.hok.kept old,?_⟩
    · by_cases hi:i < own.length
      · rw [List.getElem?_append_left (by simpa using hi),List.getElem?_replicate,if_pos hi] at e2
        cases e2
      · have e1n:NN[i - own.length]?=some y:=by
          have z:(own++NN)[i]?=some y:=e1
          rw [List.getElem?_append_right (by omega)] at z
          exact z
        rw [List.getElem?_append_right (by simpa using hi),List.length_replicate] at e2
        obtain ⟨ap1,ap2⟩:=ok.apart _ y e1n
        rcases e3 with e3 | e3
        · exact absurd (rl_local e3) ap1
        · obtain ⟨⟨c,hcl⟩,kc⟩:=okfar y (rl_far e3)
          have e1':X.N[i - own.length]?=some y:=by
            rcases ap2 with z | z
            · exact z
            · rcases rl_far e3 with q | q <;> (rw [z] at q; cases q)
          obtain ⟨m,hn,hl⟩:=I2.loc
          obtain ⟨u,r,l⟩:=hl (i - own.length) y v e1' e2 (.inr kc)
          refine ⟨u,r,.inr ⟨e3,c,hcl,?_⟩⟩
          rcases l with ⟨l,_⟩ | ⟨_,c',e',q⟩
          · rcases kc with kc | kc <;> (rw [l] at kc; cases kc)
          · rw [oksub _ _ hcl] at e'
            cases e'
            exact q.keeps old
    · obtain ⟨v,q⟩:=I2.cell y c (oksub _ _ e)
      exact ⟨v,q.keeps old⟩
    · show (List.replicate own.length none++σ).length=(own++NN).length
      rw [List.length_append,List.length_append,List.length_replicate,I2.len,ok.len]
  have nDC:s2.heap.objs.size≠P.objs.size:=hDC
  have nDf:s2.heap.objs.size∉frs X.stack:=fun z=>by
    rcases List.mem_cons.mp (I2.stkSub _ z) with q | q
    · exact Nat.ne_of_lt I2.lt (Eq.symm q)
    · exact I2.nofs (Nat.le_refl _) q
  have loop:∀ s₃:Shared,s₃={s2 with heap:=h1,toks:=s2.toks + ([]:List (Str×Value)).length} →
      codeAny (model X.prog X.w) X.A (.compLoop (.ListComp elt [⟨target,iter,ifs,0⟩] scope pos) 0 (.ref it) (.ref s2.heap.objs.size) (compEnvC scope (clOf X.env scope.names []) P.objs.size X.env))
        (compPost (model X.prog X.w) X.A X.xe use Qv (.ref s2.heap.objs.size) P.objs.size) s₃:=by
    rintro s₃ rfl
    refine compLoop_any (fun n s'=>∃ (i:Nat) (ys:List V) (H':Hp) (its:List Value) (k:Nat),Inv (cxC X scope (own++NN) fp s2 H2 P.objs.size) [] (List.replicate own.length none++σ) H' s'∧tn i s'.heap∧(∀ b∈fp,H' b=none)∧H' s2.heap.objs.size=none∧Vals ys its ∧
      s'.heap.get? s2.heap.objs.size=some {cls:=.type "list",data:=.seq its.toArray k}∧W i n ys H') ?_ m0
      ⟨0,[],H2,[],0,start,T.keep _ _ _ st2 (fun b _ o e=>old b o e),fun b hb=>(f2 b hb).1,I2.hok.fresh (Nat.le_refl _),.nil,accAt,w0⟩
    rintro n s3 ⟨i,ys,H3,its,k,I3,st3,fr3,nD,rv,hD,w3⟩
    have Ip:Inv (cxC X scope (own++NN) fp s2 H2 P.objs.size) [(s2.heap.objs.size,{cls:=.type "list",data:=.seq its.toArray k})] (List.replicate own.length none++σ) H3 s3:=I3.pins_of fun p hp=>by
      have hp':p=(s2.heap.objs.size,{cls:=.type "list",data:=.seq its.toArray k}):=by simpa using hp
      subst hp'
      exact ⟨hD,nD,nDC,nDf,fun v z=>by cases z⟩
    obtain ⟨hl,hw⟩:=turn i n ys H3 w3
    rcases hw with ⟨stop,fin⟩ | ⟨go,N,hN,step⟩
    · refine thn (T.done (cxC X scope (own++NN) fp s2 H2 P.objs.size) rfl rfl rfl hc i _ s3 _ H3 _ Ip (fpOk fr3) st3 stop) fun r s4 z=>?_
      obtain ⟨hr,I4⟩:=z
      subst hr
      obtain ⟨m,hn,_⟩:=I4.loc
      have hD4:s4.heap.get? s2.heap.objs.size=some {cls:=.type "list",data:=.seq its.toArray k}:=(I4.pin _ (List.mem_append_right _ List.mem_cons_self)).1
      obtain ⟨h',eh'⟩:∃ h',h'=s4.heap:=⟨_,rfl⟩
      have sb':∀ b o,b≠P.objs.size→s4.heap.get? b=some o→h'.get? b=some o:=fun b o hb e=>by rw [eh']; exact e
      have oldNe:∀ b o,s2.heap.get? b=some o→b≠P.objs.size∧b≠s2.heap.objs.size:=fun b o e=>by
        have lt:=Heap.lt_size e
        exact ⟨Nat.ne_of_lt (Nat.lt_of_lt_of_le lt leC),Nat.ne_of_lt lt⟩
      have trNe:∀ b u,H3 b=some u→b≠P.objs.size∧b≠s2.heap.objs.size:=fun b u e=>by
        refine ⟨fun z=>?_,fun z=>?_⟩
        · have q:H3 P.objs.size=none:=I4.free
          rw [← z,e] at q
          cases q
        · rw [z,nD] at e
          cases e
      have un:Un (frs X.stack) fp H2 (upd H3 s2.heap.objs.size (.lst ys)) s2.heap h':=by
        have B:=I4.base
        refine ⟨fun b o e q hb hx=>sb' b o (oldNe b o e).1 (B.keep b o e q hb hx),fun b o e q hb hx=>?_,fun b o e q hx=>?_,fun b o e hx=>?_,fun b xs e=>?_,fun b o u e=>?_,fun b ps e=>?_⟩
        · obtain ⟨sl,e1⟩:=B.slot b o e q hb hx
          exact ⟨sl,sb' _ _ (oldNe b o e).1 e1⟩
        · rw [upd_ne (oldNe b o e).2]
          exact B.free b o e q hx
        · obtain ⟨o',e1⟩:=B.there b o e hx
          exact ⟨o',sb' _ _ (oldNe b o e).1 e1⟩
        · have q:=B.tups b xs e
          rw [upd_ne (trNe _ _ q).2]
          exact q
        · have q:=B.frzs b o u e
          rw [upd_ne (trNe _ _ q).2]
          exact q
        · obtain ⟨more,q⟩:=B.tbls b ps e
          refine ⟨more,?_⟩
          rw [upd_ne (trNe _ _ q).2]
          exact q
      have hok:HOk X.prog X.w (upd H3 s2.heap.objs.size (.lst ys)) h':=fun b u e=>by
        by_cases hb:b=s2.heap.objs.size
        · subst hb
          rw [upd_same] at e
          cases e
          exact ⟨Nat.le_of_lt hl,its,k,rv,sb' _ _ nDC hD4⟩
        · rw [upd_ne hb] at e
          refine (I4.hok b u e).stay (fun c v hc q=>sb' c v ?_ q) (fun c q=>?_) fun c xs q=>?_
          · rcases hc with z | z
            · rw [z]
              exact (trNe _ _ e).1
            · exact (trNe _ _ z).1
          · rw [upd_ne (trNe _ _ q).2]
            exact q
          · rw [upd_ne (trNe _ _ q).2]
            exact q
      have J:=I2.call' (s':={s4 with heap:=h'}) (ch:=fp) I4.os un hok I4.bare fun b hb=>⟨(f2 b hb).2.2.2.1,(f2 b hb).2.1,(f2 b hb).2.2.2.2.1,(f2 b hb).2.2.2.2.2⟩
      subst eh'
      refine hfin s4 P.objs.size s2.heap.objs.size (upd H3 s2.heap.objs.size (.lst ys)) m hn J ?_ ?_ ?_ (fun y c e=>?_) (fun q hq=>?_) (fin _ nD)
      · rw [upd_ne nDC.symm]
        exact I4.free
      · exact Nat.ne_of_gt (Nat.lt_of_lt_of_le I2.lt leC)
      · exact Nat.le_trans I2.sz leC
      · obtain ⟨v,z⟩:=I2.cell y c e
        exact Nat.ne_of_lt (Nat.lt_of_lt_of_le z.lt leC)
      · exact Nat.ne_of_lt (Nat.lt_of_lt_of_le (Heap.lt_size (I2.pin q hq).1) leC)
    · refine thn (T.item (cxC X scope (own++NN) fp s2 H2 P.objs.size) rfl rfl rfl hc i _ s3 _ H3 _ Ip (fpOk fr3) st3 go) fun r s4 z=>?_
      obtain ⟨u,hr,h4⟩:=z
      subst hr
      refine thn h4 fun _ s5 z=>?_
      obtain ⟨x,H5,I5,r5,y5,st5,fr5⟩:=z
      have I5':=I5.pinned (fpOk fr5) (T.obj _ _ st5)
      refine thn (hg fp s2 H2 P.objs.size _ s5 _ H5 x u _ I5' r5 (step x H5 y5)) fun _ s6 z=>?_
      obtain ⟨σ6,H6,I6,hσ,q6⟩:=z
      refine thn (ht fp s2 H2 P.objs.size _ s6 σ6 H6 _ I6 q6) fun okb s7 z=>?_
      obtain ⟨H7,I7,q7⟩:=z
      have pinD:∀ {H8:Hp} {s8:Shared},Inv (cxC X scope (own++NN) fp s2 H2 P.objs.size) ([(s2.heap.objs.size,{cls:=.type "list",data:=.seq its.toArray k})]++pinsAt fp s5.heap) σ6 H8 s8 →
          s8.heap.get? s2.heap.objs.size=some {cls:=.type "list",data:=.seq its.toArray k}∧H8 s2.heap.objs.size=none:=fun I8=>by
        have z:=I8.pin (s2.heap.objs.size,{cls:=.type "list",data:=.seq its.toArray k}) (List.mem_append_right _ (List.mem_append_left _ List.mem_cons_self))
        exact ⟨z.1,z.2.1⟩
      have pinF:∀ {H8:Hp} {s8:Shared},Inv (cxC X scope (own++NN) fp s2 H2 P.objs.size) ([(s2.heap.objs.size,{cls:=.type "list",data:=.seq its.toArray k})]++pinsAt fp s5.heap) σ6 H8 s8 →
          tn (i + 1) s8.heap∧∀ b∈fp,H8 b=none:=fun {H8 s8} I8=>by
        refine ⟨T.keep _ _ _ st5 fun b hb o e=>(I8.pin (b,o) (List.mem_append_right _ (List.mem_append_right _ (mem_pinsAt hb e)))).1,fun b hb=>?_⟩
        obtain ⟨o,e,_⟩:=T.obj _ _ st5 b hb
        exact (I8.pin (b,o) (List.mem_append_right _ (List.mem_append_right _ (mem_pinsAt hb e)))).2.1
      have len6:(List.replicate own.length none++σ).length=σ6.length:=by rw [I6.len,start.len]
      cases okb with
      | false =>
        have q7':N ys H7:=q7
        obtain ⟨m',lt,w'⟩:=hN _ _ q7'
        obtain ⟨d1,d2⟩:=pinD I7
        obtain ⟨p1,p2⟩:=pinF I7
        have J7:Inv (cxC X scope (own++NN) fp s2 H2 P.objs.size) [] σ6 H7 s7:=I7.pins_of (fun p hp=>absurd hp (by simp))
        exact ⟨m',lt,i + 1,ys,H7,its,k,J7.weak len6 (drop_get hσ),p1,p2,d2,rv,d1,w'⟩
      | true =>
        refine thn (he fp s2 H2 P.objs.size _ s7 σ6 H7 _ I7 q7) fun v8 s8 z=>?_
        obtain ⟨y,H8,I8,r8,n8⟩:=z
        obtain ⟨m',lt,w'⟩:=hN _ _ n8
        obtain ⟨d1,d2⟩:=pinD I8
        obtain ⟨p1,p2⟩:=pinF I8
        refine append_at (hsz:=by rw [List.size_toArray,← rv.length]; exact Nat.le_of_lt hl) d1 fun h9 sb hD9=>?_
        have J8:Inv (cxC X scope (own++NN) fp s2 H2 P.objs.size) [] σ6 H8 s8:=I8.pins_of (fun p hp=>absurd hp (by simp))
        have J9:Inv (cxC X scope (own++NN) fp s2 H2 P.objs.size) [] σ6 H8 {s8 with heap:=h9}:=J8.turned (t':=s8.toks) (it:=s2.heap.objs.size) (fun b o hb e=>sb.extBut b o hb e) d2 nDC (.inr (Nat.le_refl _)) (fun y c e=>Nat.ne_of_lt (cellNe y c e)) (fun p hp=>absurd hp (by simp))
        refine ⟨m',lt,i + 1,ys++[y],H8,its++[v8],k + 1,J9.weak len6 (drop_get hσ),T.keep _ _ _ p1 (fun b hb o e=>sb.extBut b o (Nat.ne_of_lt (fpLt b hb)) e),p2,d2,rv.append (.cons r8 .nil),?_,w'⟩
        show h9.get? _=_
        rw [hD9,List.push_toArray]
  exact codeAny_compStart_list (loop _ rfl) (T.self X.A 0 _ _ _ (T.keep _ _ _ st2 (fun b _ o e=>old b o e)) (loop _ rfl))
theorem pe_comp {elt target iter:Expr} {ifs:List Expr} {scope:Scope} {NN:List Str} {pos:Pos} {wi:TI} {g:TG} {tc:TT} {te:TE} (own:List Str) (ok:CompOk X scope NN) (hc:X.calm=true) (hi:PI X target iter wi)
    (hg:∀ fp s₂ H₂ C,PG (cxC X scope (own++NN) fp s₂ H₂ C) target g) (ht:∀ fp s₂ H₂ C,PTs (cxC X scope (own++NN) fp s₂ H₂ C) ifs tc) (he:∀ fp s₂ H₂ C,PE (cxC X scope (own++NN) fp s₂ H₂ C) elt te)
    (hs:∀ x,foldedSetIterable iter X.env x=pure x:=by intro _; rfl):PE X (.ListComp elt [⟨target,iter,ifs,0⟩] scope pos) (tComp own.length wi g tc te):=by
  intro pins s σ H Q I h
  rw [eval_ListComp]
  refine comp_gen (use:=none) own ok hc hi hg ht he hs I h fun s4 C D H' m hn J n1 n2 n3 n4 n5 q=>?_
  exact ⟨m,hn,fun h' sb=>⟨.ref D,H',J.turned (t':=s4.toks) (it:=C) (fun b o hb e=>sb.extBut b o hb e) n1 n2 (.inr n3) n4 n5,rfl,q⟩⟩
theorem ps_comp {elt target iter:Expr} {ifs:List Expr} {scope:Scope} {NN:List Str} {pos pos' spos:Pos} {wi:TI} {g:TG} {tc:TT} {te:TE} {i:Nat} {x:Str} (own:List Str) (ok:CompOk X scope NN) (hc:X.calm=true) (hN:X.N.Nodup) (hx0:X.N[i]?=some x) (hx:Loc X.env.scope x) (hi:PI X target iter wi)
    (hg:∀ fp s₂ H₂ C,PG (cxC X scope (own++NN) fp s₂ H₂ C) target g) (ht:∀ fp s₂ H₂ C,PTs (cxC X scope (own++NN) fp s₂ H₂ C) ifs tc) (he:∀ fp s₂ H₂ C,PE (cxC X scope (own++NN) fp s₂ H₂ C) elt te)
    (hs:∀ x,foldedSetIterable iter X.env x=pure x:=by intro _; rfl) (hf:X.fn x=true∨X.env.scope.names.lookup x=some .local:=by first | exact .inl rfl | exact .inr rfl | assumption)
    (hsw:swapsWith (.ListComp elt [⟨target,iter,ifs,0⟩] scope pos) (some (.Name x pos')) spos.line X.env=pure true:=by rfl):PS X (.Assign [.Name x pos'] (.ListComp elt [⟨target,iter,ifs,0⟩] scope pos) spos) (tAsg (tComp own.length wi g tc te) (gName i)):=by
  intro pins s σ H D I h
  rw [exec_Assign_Name_used _ _ _ _ hsw]
  refine wpAny_bind (wpAny_standAt (wpAny_bind ?_))
  show wpAny _ X.A (do let _ ← comprehension (.ListComp elt [⟨target,iter,ifs,0⟩] scope pos) scope X.env _ (newList []) false (eval iter X.env) (some (assign (.Name x pos') X.env))) _ _ s
  refine wpAny_bind (wpAny_mono (comp_gen (use:=some (assign (.Name x pos') X.env)) (Qv:=fun _ s'=>SP X pins D .next s') own ok hc hi hg ht he hs I h fun s4 C DD H' m hn J n1 n2 n3 n4 n5 q=>?_) (fun _ s' hq=>wpAny_pure (wpAny_pure hq)) fun _ _ e=>e)
  show wpAny _ X.A (assign (.Name x pos') X.env (.ref DD)) _ _ s4
  refine wpAny_assign_Name (store_ok2 J hN hx0 hx (show RelV (.ref DD) (.ref DD) from rfl) (fun s' J' z=>?_) hf)
  obtain ⟨a,sb,ha⟩:=z
  have na:C≠a:=by
    rcases ha with ha | ha
    · rw [ha]
      exact n2
    · exact (n4 x a ha).symm
  refine ⟨m,hn.at' fun o e=>sb.extBut C o na e,fun h' sb2=>⟨_,H',J'.turned (t':=s'.toks) (it:=C) (fun b o hb e=>sb2.extBut b o hb e) n1 n2 (.inr n3) n4 n5,q⟩⟩
end
section
variable {K:PySem.W.Frag} {a:Addr} {xs:List V} {n:Nat} {g:TG} {tc:TT} {te:TE} {σ:St} {H:Hp} {Q:VK}
theorem comp_list (Pv:Nat→List V→Hp→Prop) (h0:Pv 0 [] H) (hl:∀ i ys H,i≤xs.length→Pv i ys H→SqL K H a xs∧ys.length < sizeLine)
    (hs:∀ i x ys H,xs[i]?=some x→Pv i ys H→g x (List.replicate n none++σ) H fun σ2 H2=>σ2.drop n=σ∧tc σ2 H2 fun b H3=>if b=true then te σ2 H3 fun y H4=>Pv (i + 1) (ys++[y]) H4 else Pv (i + 1) ys H3)
    (hd:∀ ys H,Pv xs.length ys H→∀ p,H p=none→Q (.ref p) (upd H p (.lst ys))) :
    ∃ W:Nat→Nat→List V→Hp→Prop,(∃ m,W 0 m [] H)∧∀ i m ys H,W i m ys H→ys.length < sizeLine∧(((Itl K a).stop i H∧∀ p,H p=none→Q (.ref p) (upd H p (.lst ys))) ∨
      ((Itl K a).go i H∧∃ N:List V→Hp→Prop,(∀ ys' H',N ys' H'→∃ m',m' < m∧W (i + 1) m' ys' H')∧∀ x H',(Itl K a).yld i H x H'→g x (List.replicate n none++σ) H' fun σ2 H2=>σ2.drop n=σ∧tc σ2 H2 fun b H3 =>
        if b=true then te σ2 H3 fun y H4=>N (ys++[y]) H4 else N ys H3)):=by
  refine ⟨fun i m ys H=>m=xs.length - i∧i≤xs.length∧Pv i ys H,⟨xs.length,by simp,Nat.zero_le _,h0⟩,?_⟩
  rintro i m ys H ⟨rfl,hi,p⟩
  obtain ⟨q,z⟩:=hl i ys H hi p
  refine ⟨z,?_⟩
  by_cases hlt:i < xs.length
  · refine .inr ⟨⟨xs,xs[i],q,by simp [hlt]⟩,Pv (i + 1),fun ys' H' p'=>⟨xs.length - (i + 1),by omega,rfl,hlt,p'⟩,fun x H' y=>?_⟩
    obtain ⟨e,y⟩:=y
    subst e
    exact hs i x ys _ (y xs q) p
  · have e:i=xs.length:=by omega
    subst e
    exact .inl ⟨⟨xs,q,Nat.le_refl _⟩,hd ys H p⟩
theorem comp_tup (Pv:Nat→List V→Hp→Prop) (h0:Pv 0 [] H) (hl:∀ i ys H,i≤xs.length→Pv i ys H→SqT K H a xs∧ys.length < sizeLine)
    (hs:∀ i x ys H,xs[i]?=some x→Pv i ys H→g x (List.replicate n none++σ) H fun σ2 H2=>σ2.drop n=σ∧tc σ2 H2 fun b H3=>if b=true then te σ2 H3 fun y H4=>Pv (i + 1) (ys++[y]) H4 else Pv (i + 1) ys H3)
    (hd:∀ ys H,Pv xs.length ys H→∀ p,H p=none→Q (.ref p) (upd H p (.lst ys))) :
    ∃ W:Nat→Nat→List V→Hp→Prop,(∃ m,W 0 m [] H)∧∀ i m ys H,W i m ys H→ys.length < sizeLine∧(((Itt K a).stop i H∧∀ p,H p=none→Q (.ref p) (upd H p (.lst ys))) ∨
      ((Itt K a).go i H∧∃ N:List V→Hp→Prop,(∀ ys' H',N ys' H'→∃ m',m' < m∧W (i + 1) m' ys' H')∧∀ x H',(Itt K a).yld i H x H'→g x (List.replicate n none++σ) H' fun σ2 H2=>σ2.drop n=σ∧tc σ2 H2 fun b H3 =>
        if b=true then te σ2 H3 fun y H4=>N (ys++[y]) H4 else N ys H3)):=by
  refine ⟨fun i m ys H=>m=xs.length - i∧i≤xs.length∧Pv i ys H,⟨xs.length,by simp,Nat.zero_le _,h0⟩,?_⟩
  rintro i m ys H ⟨rfl,hi,p⟩
  obtain ⟨q,z⟩:=hl i ys H hi p
  refine ⟨z,?_⟩
  by_cases hlt:i < xs.length
  · refine .inr ⟨⟨xs,xs[i],q,by simp [hlt]⟩,Pv (i + 1),fun ys' H' p'=>⟨xs.length - (i + 1),by omega,rfl,hlt,p'⟩,fun x H' y=>?_⟩
    obtain ⟨e,y⟩:=y
    subst e
    exact hs i x ys _ (y xs q) p
  · have e:i=xs.length:=by omega
    subst e
    exact .inl ⟨⟨xs,q,Nat.le_refl _⟩,hd ys H p⟩
end
end L2
namespace PySem
section
variable {prog:Program} {w:World} {A:Around} {E:Value→Shared→Prop} {s:Shared}
def dlPair {prog:Program} {w:World} {K:Type} [DecidableEq K] (knd:KeyKind prog w K) (h:Heap) (p:K×Value) (x:Value):Prop:=
  ∃ (a:Addr) (kv:Value) (o:Obj) (n:Nat),x=.ref a∧h.get? a=some o∧o.cls=.type "tuple"∧o.data=.seq #[kv,p.2] n∧knd.is p.1 kv=true
variable {K:Type} [DecidableEq K] {knd:KeyKind prog w K}
end
end PySem
namespace L2
open PySem PySem.Spec PyProof.Rows
section
variable {X:Cx}
theorem log_small {n:Nat} (h:n < 2 ^ 64):n.log2 < 9000:=by
  by_cases z:n=0
  · subst z
    decide
  · exact Nat.lt_trans ((Nat.log2_lt z).mpr h) (by decide)
def CDivB (_ j:Int):Prop:=0 < j∧j < 2 ^ 64
theorem op_fdivB:OpR X (binaryOp .FloorDiv) (rI CDivB fun i j=>.int (i / j)):=opI fun i j _ _ _ _ _ hc q=>by
  have h1:(0:Int) < j:=hc.1
  have h2:j < 2 ^ 64:=hc.2
  have h3:j.natAbs < 2 ^ 64:=by omega
  exact floordiv_int (by omega) (by rw [Int.fdiv_eq_ediv_of_nonneg i (by omega)]; exact q) (.inl (PyProof.noPylong_of_log2 (log_small h3)))
def CDivM (_ j:Int):Prop:=j≠0∧j.natAbs < 2 ^ 64
theorem op_fdivM:OpR X (binaryOp .FloorDiv) (rI CDivM fun i j=>.int (i.fdiv j)):=opI fun _ _ _ _ _ _ _ hc q=>floordiv_int hc.1 q (.inl (PyProof.noPylong_of_log2 (log_small hc.2)))
theorem op_mulB:OpR X (binaryOp .Mult) (rI IntMulOk fun i j=>.int (i * j)):=opI fun _ _ _ _ _ _ _ hc q=>mul_int q hc
theorem call_isinst:CallR X (.builtin "isinstance") (fun xs H Q=>∃ x n t b,xs=[x,.ty n]∧TyOf X.K H x t∧PySem.W.kitOne X.K t (.type n)=some b∧Q (.bl b) H):=by
  intro pins s σ H xs us Q I r h
  obtain ⟨x,n,t,b,rfl,ty,e,q⟩:=h
  obtain ⟨u,w',rfl,rx,rt⟩:=vals2 r
  cases (show w'=Value.type n from rt)
  exact isinst_ok I rx ty e fun tk=>⟨.bl b,H,I.tok _,rfl,q⟩
def PairsIn (H:Hp):List (Key×V)→List V→Prop:=Paired fun (p:Key×V) x=>∃ a,x=V.ref a∧H a=some (.tup [kV p.1,p.2])
end
end L2
namespace Att
open PySem PySem.W PySem.Calls PyProof.Rows
theorem weight_mem:∀ (xs:List WData) (x:WData),x∈xs→WData.weight x≤WData.weightAll xs
  | [],_,h=>by cases h
  | y :: r,x,h=>by
    unfold WData.weightAll
    rcases List.mem_cons.mp h with e | e
    · subst e
      omega
    · have:=weight_mem r x e
      omega
theorem bits_of_lay {ns:List Int} (h:WData.layableAll [WData.list (ns.map WData.int)]=true):∀ n∈ns,Builtin.Int.intBits n≤1048576:=fun n hn=>by
  have h1:(WData.list (ns.map WData.int)).layable=true:=(layW_cons h).1
  unfold WData.layable at h1
  have h2:WData.weight (WData.list (ns.map WData.int))≤2 ^ 20:=of_decide_eq_true (Bool.and_eq_true_iff.mp h1).2
  have h3:=weight_mem (ns.map WData.int) (WData.int n) (List.mem_map.mpr ⟨n,hn,rfl⟩)
  have h4:WData.weight (WData.list (ns.map WData.int))=WData.weightAll (ns.map WData.int):=by
    rw [WData.weight]
  have h5:WData.weight (WData.int n)=Builtin.Int.intBits n:=by
    rw [WData.weight]
    rfl
  have e:(2:Nat) ^ 20=1048576:=by decide
  omega
theorem attach_callB {l:OpenLaw} {n:Nat} {q:Program} {loose:List Str} {XP:(Str→Option Value)→Heap→Prop} {YP:World→Heap→Prop} {d:DefRec}
    (hn:l.most=some n) (hdf:d.params.defaults=[])
    (call:∀ (w:World) (s₀ s₁:Shared) (mg mb:Str→Option Value) (fa:Addr) (a:Addr) (vs:List Value) (ns:List Int),
      Ground q loose [] XP w s₀ mg mb s₁.heap→YP w s₁.heap→mg d.name=some (.ref fa) →
      s₁.heap.get? a=some {cls:=.type "list",data:=.seq vs.toArray}→IntsAre vs ns→ns.length≤n→(∀ x∈ns,Builtin.Int.intBits x≤1048576)→s₁.gens=#[] →
      codeAny (model l.prog w) callerA (.call (.ref fa) ⟨[.ref a],[]⟩) (fun r s'=>r=.ok (.ret (.bool true))∧OldK s₁.heap s'.heap∧s'.os=s₁.os∧AllBare s'.gens) s₁) :
    WalkO q loose XP YP l.row.toRowW d [] (fun f vs=>PySem.call f vs):=by
  intro w s₀ s₁ mg mb G Y fa o pm cd doc dV kV ho hd hcd hD hmg hg args vals as hpre hlay hrd hwl hlo
  obtain rfl:dV=.none:=Dflts.none hD hdf
  obtain rfl:kV=.none:=Dflts.noKw hD
  obtain ⟨a,vs,ns,rfl,rfl,hobj,hints,hlen⟩:=script_of hn hpre hwl
  refine enter_call (codeAny_mono (call w s₀ s₁ mg mb fa a vs ns G Y hmg hobj hints hlen (bits_of_lay hlay) hg) fun r s' hq=>?_)
  obtain ⟨rfl,h2,h3,h4⟩:=hq
  exact ⟨.inl ⟨.bool true,.bool true,[],rfl,fun _=>rfl,.bool true,post_true l _,fun _=>⟨List.Pairwise.nil,fun _ hm=>(nomatch hm)⟩⟩,h2,h3,h4⟩
end Att
namespace L2
open PySem PySem.Spec PyProof.Rows
theorem walk_ofB {l:PySem.W.OpenLaw} {n k:Nat} {q:Program} {loose:List Str} {XP:(Str→Option Value)→Heap→Prop} {YP:World→Heap→Prop} {d:DefRec} {K:Params→PySem.W.Frag} {CX:World→CXT} {sp:World→Sp} {x:Str}
    (hn:l.most=some n) (hn2:n≤sizeLine) (hdf:d.params.defaults=[]) (hr:Room k callerA)
    (hY:∀ (w:World) (h:Heap),YP w h→(K w.params).In h)
    (F:∀ (w:World) (mg:Str→Option Value) (fa:Addr) (h:Heap),(K w.params).In h→h.Ns mainGlobals mg→mg d.name=some (.ref fa) →
      ∃ fd:FuncData,(∀ (s:Shared) (u:Value),BindsTo s fd ⟨[u],[]⟩ [(x,u)]) ∧
        ∀ base:Heap,(K w.params).In base→base.Ns mainGlobals mg→FnOk l.prog w (K w.params) mg base (CX w) k fa fd [x] (sp w))
    (hsp:∀ (w:World) (H:Hp) (a:Addr) (ns:List Int),ns.length≤n→(∀ x∈ns,Builtin.Int.intBits x≤1048576)→SqL (K w.params) H a (ns.map V.int)→sp w [.ref a] H (fun v _=>v=.bl true) fun _ _ _=>False)
    (hCX:∀ (w:World) (H:Hp) (s:Shared) (e:Value) (s':Shared),CX w [] H s (fun _ _ _=>False) e s'→False) :
    PySem.W.WalkO q loose XP YP l.row.toRowW d [] (fun f vs=>PySem.call f vs):=by
  refine Att.attach_callB hn hdf fun w s₀ s₁ mg mb fa a vs ns G Y hmg hobj hints hlen hbits hg=>?_
  have KX:=hY w _ Y
  obtain ⟨fd,hb,hF⟩:=F w mg fa _ KX G.T.g hmg
  exact law_call KX G.T.g G.T.b G.T.builtins G.T.nolimit hg hobj hints (Nat.le_trans hlen hn2) hr hF hb (fun H hO hS=>hsp w H a ns hlen hbits hS) fun H e s'=>hCX w H s₁ e s'
end L2
namespace PySem
open SeqAt MeetsSeq MeetsSeq2 MeetsSeq3 SeqRoads2
open AutoSeq1 (wpAny_loadPart')
def EqIn (prog:Program) (w:World) (A:Around) (s:Shared) (y x:Value):Prop:=
  ∀ (E:Value→Shared→Prop) (Q:Bool→Shared→Prop),Q true s→wpAny (model prog w) A (eqBool y x) Q E s
def RcIn (prog:Program) (w:World) (A:Around) (s:Shared) (y x:Value):Prop:=
  ∀ (E:Value→Shared→Prop) (Q:Value→Shared→Prop),Q (.bool true) s→wpAny (model prog w) A (richCompare .Eq y x) Q E s
section
variable {prog:Program} {w:World} {A:Around} {s:Shared}
theorem EqIn.of_at {y x:Value} (h:EqAt A s y x true):EqIn prog w A s y x:=fun E Q q=>h prog w E Q q
theorem EqIn.self (v:Value):EqIn prog w A s v v:=EqIn.of_at (EqAt.same v)
theorem EqIn.refs {l b:Addr} (h:RcIn prog w A s (.ref l) (.ref b)):EqIn prog w A s (.ref l) (.ref b):=by
  by_cases e:l=b
  · rw [e]
    exact EqIn.self _
  · intro E Q q
    unfold eqBool
    refine wpAny_holding (wpAny_ite_split (fun z=>?_) (fun _=>?_))
    · exact absurd (by have z':=eq_of_beq z; injection z') e
    · exact wpAny_bind (h E _ (wpAny_truthy_bool q))
theorem el_loop (l b:Addr) (xs ys:Array Value) (n m:Nat) (dd de:Option Addr) (sl sm:Array (Option Value)) (hsz:xs.size=ys.size):∀ k i:Nat,xs.size - i=k →
    MeetsIn prog w (Builtin.«list.__eq__.loop» ⟨[.ref l,.ref b,rawInt i,rawInt 2],[]⟩) (fun A R s =>
      s.heap.get? l=some {cls:=.type "list",dict:=dd,data:=.seq xs n,slots:=sl}∧s.heap.get? b=some {cls:=.type "list",dict:=de,data:=.seq ys m,slots:=sm} ∧
      (∀ j (h1:j < xs.size) (h2:j < ys.size),EqIn prog w A.in1 s xs[j] ys[j])∧R (.ok (.ret (.bool true))) s):=by
  intro k
  induction k with
  | zero =>
    intro i hk A R s q
    obtain ⟨hp,g,d,tk,os⟩:=s
    obtain ⟨q1,q2,q3,q4⟩:=q
    have a1:xs[((i:Nat):Int).toNat]?=none:=by simp; omega
    have a2:ys[((i:Nat):Int).toNat]?=none:=by simp; omega
    wp_walk using wpAny_loadPart' q1,wpAny_loadPart' q2
    rw [a1,a2]
    wp_walk using wpAny_loadPart' q1,wpAny_loadPart' q2
    show R (.ok (.ret (.bool (xs.size == ys.size)))) _
    rw [hsz,beq_self_eq_true]
    exact q4
  | succ k ih =>
    intro i hk A R s q
    obtain ⟨hp,g,d,tk,os⟩:=s
    obtain ⟨q1,q2,q3,q4⟩:=q
    have l1:i < xs.size:=by omega
    have l2:i < ys.size:=by omega
    have a1:xs[((i:Nat):Int).toNat]?=some xs[i]:=by simp [l1]
    have a2:ys[((i:Nat):Int).toNat]?=some ys[i]:=by simp [l2]
    have e1:((i:Int) + 1)=((i + 1:Nat):Int):=by push_cast; rfl
    wp_walk using wpAny_loadPart' q1,wpAny_loadPart' q2
    rw [a1,a2]
    refine wpAny_bind (q3 i l1 l2 _ _ ?_)
    wp_walk
    rw [e1]
    refine ⟨plainId_quiet plain_eq_loop _,codeAny_builtin entry_eq_loop ?_⟩
    rw [Around.under_plainId plain_eq_loop _]
    exact ih (i + 1) (by omega) A R _ ⟨q1,q2,q3,q4⟩
theorem el_list (l b:Addr) (xs ys:Array Value) (n m:Nat) (dd de:Option Addr) (sl sm:Array (Option Value)) (hsz:xs.size=ys.size) :
    MeetsIn prog w (Builtin.«list.__eq__» ⟨[.ref l,.ref b],[]⟩) (fun A R s =>
      s.heap.get? l=some {cls:=.type "list",dict:=dd,data:=.seq xs n,slots:=sl}∧s.heap.get? b=some {cls:=.type "list",dict:=de,data:=.seq ys m,slots:=sm} ∧
      (∀ j (h1:j < xs.size) (h2:j < ys.size),EqIn prog w A.in1 s xs[j] ys[j])∧R (.ok (.ret (.bool true))) s):=by
  intro A R s q
  obtain ⟨hp,g,d,tk,os⟩:=s
  obtain ⟨q1,q2,q3,q4⟩:=q
  have f1:=AutoSeq1.sub_list_list
  have f2:¬ (xs.size != ys.size)=true:=by simp [hsz]
  wp_walk using wpAny_loadPart' q1,wpAny_loadPart' q2
  refine ⟨plainId_quiet plain_eq_loop _,codeAny_builtin entry_eq_loop ?_⟩
  rw [Around.under_plainId plain_eq_loop _]
  exact el_loop l b xs ys n m dd de sl sm hsz _ 0 rfl A R _ ⟨q1,q2,q3,q4⟩
theorem RcIn.lists {l b:Addr} {xs ys:Array Value} (hl:s.heap.IsList l xs) (hb:s.heap.IsList b ys) (hsz:xs.size=ys.size) (hu:A.units < cLine)
    (he:∀ j (h1:j < xs.size) (h2:j < ys.size),EqIn prog w A.in1 s xs[j] ys[j]):RcIn prog w A s (.ref l) (.ref b):=fun E Q q=>by
  obtain ⟨⟨c1,dd,t1,sl⟩,o1,rfl,n,rfl⟩:=id hl
  obtain ⟨⟨c2,de,t2,sm⟩,o2,rfl,m,rfl⟩:=id hb
  refine wpAny_richCompare_same_room (op:=.Eq) ⟨_,o1,rfl⟩ ⟨_,o2,rfl⟩ F.slot_list_eq (call_meetsIn F.slot_list_eq ⟨_,o1,rfl⟩ F.entry_list_eq (F.args_list_eq_2 _ _) (el_list l b xs ys n m dd de sl sm hsz) ⟨o1,o2,he,?_⟩) hu
  exact ⟨fun z=>(nomatch z),q⟩
variable {K:Type} [DecidableEq K] {knd:KeyKind prog w K}
theorem pairs_at {es:List DictEntry} {kvs:List (K×Value)} (h:Pairs knd es kvs):∀ {i:Nat} {e:DictEntry},es[i]?=some e→∃ kv,kvs[i]?=some kv∧knd.is kv.1 e.key=true∧e.val=kv.2:=by
  induction h with
  | nil =>
    intro i e q
    simp at q
  | cons a b _ ih =>
    intro i e q
    cases i with
    | zero =>
      simp at q
      subst q
      exact ⟨_,rfl,a,b⟩
    | succ i =>
      obtain ⟨kv,z⟩:=ih (i:=i) (by simpa using q)
      exact ⟨kv,by simpa using z.1,z.2⟩
theorem ed_pairs {nm:String} {d b:Addr} {kvs kws:List (K×Value)} {Q:Bool→Shared→Prop} {E:Value→Shared→Prop} (hd:(d == sysModules)=false) (hb:(b == sysModules)=false) (m1:s.heap.DictOf knd d kvs) (m2:s.heap.DictOf knd b kws)
    (hl:kvs.length=kws.length) (he:∀ kv∈kvs,∃ v',valueAt kws kv.1=some v'∧EqIn prog w A s kv.2 v') (q:Q true s):wpAny (model prog w) A (Builtin.Dict.samePairs nm d b) Q E s:=by
  obtain ⟨o1,es,ep,h1,x1,t1,k1,p1,n1⟩:=id m1
  obtain ⟨o2,fs,fp,h2,x2,t2,k2,p2,n2⟩:=id m2
  have z1:es.size=kvs.length:=by rw [← p1.length,Array.length_toList]
  have z2:fs.size=kws.length:=by rw [← p2.length,Array.length_toList]
  unfold Builtin.Dict.samePairs
  unfold Builtin.Dict.showsAll
  rw [if_neg (by rw [hd]; exact Bool.false_ne_true),if_neg (by rw [hb]; exact Bool.false_ne_true)]
  refine wpAny_bind (wpAny_pure (wpAny_bind (wpAny_pure ?_)))
  refine wpAny_bind (wpAny_dictEntries h1 t1 (wpAny_bind (wpAny_dictEntries h2 t2 ?_)))
  rw [if_neg (by rw [z1,z2,hl]; simp)]
  refine wpAny_bind (wpAny_dictEpoch h1 t1 (wpAny_bind ?_))
  rw [Std.Legacy.Range.forIn_eq_forIn_range']
  simp only [Std.Legacy.Range.size,Nat.sub_zero,Nat.add_sub_cancel,Nat.div_one]
  refine wpAny_forIn_list _ (fun rest r s'=>s'=s∧r.1=none∧∃ i,rest=List.range' i (es.size - i)∧i≤es.size) _ ?_ ?_ _ _ ⟨rfl,rfl,0,by simp,Nat.zero_le _⟩
  · rintro x rest ⟨r1,r2⟩ s' ⟨rfl,e1,i,hr,hi⟩
    have lt:i < es.size:=by
      rcases Nat.lt_or_ge i es.size with z | z
      · exact z
      · rw [Nat.sub_eq_zero_of_le z] at hr
        simp at hr
    obtain ⟨rfl,hrest⟩:x=i∧rest=List.range' (i + 1) (es.size - (i + 1)):=by
      rw [show es.size - i=(es.size - (i + 1)) + 1 by omega,List.range'_succ] at hr
      injection hr with a1 a2
      exact ⟨a1,a2⟩
    obtain ⟨kv,y1,y2,y3⟩:=pairs_at p1 (i:=x) (e:=es[x]) (by simp [lt])
    obtain ⟨kk,y4,y5⟩:=k1 es[x] (Array.getElem_mem lt)
    have y6:kk=kv.1:=knd.inj _ _ _ y4 y2
    subst y6
    obtain ⟨v',g1,g2⟩:=he kv (List.mem_of_getElem? y1)
    obtain ⟨o3,fs',fp',a1,_,a2,a3,hf⟩:=m2.mapOf
    rw [h2] at a1
    cases a1
    rw [t2] at a2
    cases a2
    rw [← hf kv.1,findBy_of_findIdx?] at g1
    refine wpAny_bind (wpAny_dictEntries h1 t1 ?_)
    rw [Array.getElem?_eq_getElem lt]
    dsimp only
    refine wpAny_bind (wpAny_holding (wpAny_bind ?_))
    rw [y5]
    refine wpAny_dictFind_of y2 h2 t2 k2 ?_
    cases hj:fs.findIdx? fun e=>knd.is kv.1 e.key with
    | none =>
      rw [hj] at g1
      cases g1
    | some j =>
      rw [hj] at g1
      dsimp only at g1 ⊢
      refine wpAny_bind (wpAny_dictEntries h2 t2 ?_)
      cases hx:fs[j]? with
      | none =>
        simp [hx] at g1
      | some fe =>
        have g3:fe.val=v':=by simpa [hx] using g1
        dsimp only
        refine wpAny_holding ?_
        rw [y3,g3]
        refine g2 _ _ ?_
        rw [if_neg (by decide)]
        refine wpAny_bind (wpAny_dictEpoch h1 t1 ?_)
        rw [if_neg (by simp)]
        exact wpAny_pure ⟨rfl,rfl,x + 1,hrest,lt⟩
  · rintro ⟨r1,r2⟩ s' ⟨rfl,e1,_⟩
    have e1:r1=none:=e1
    subst e1
    exact wpAny_pure q
theorem meets_deq (d b:Addr) (hd:(d == sysModules)=false) (hb:(b == sysModules)=false) :
    MeetsIn prog w (Builtin.«dict.__eq__» ⟨[.ref d,.ref b],[]⟩) (fun A R s=>∃ kvs kws,s.heap.DictOf knd d kvs∧s.heap.DictOf knd b kws∧kvs.length=kws.length ∧
      (∀ kv∈kvs,∃ v',valueAt kws kv.1=some v'∧EqIn prog w A.in1 s kv.2 v')∧R (.ok (.ret (.bool true))) s):=
  .of_wp fun A R s h=>by
    obtain ⟨kvs,kws,m1,m2,hl,he,q⟩:=h
    unfold Builtin.«dict.__eq__»
    show wpAny _ _ (Builtin.Dict.dictSlotArgs "__eq__" ⟨[.ref d,.ref b],[]⟩ >>= _) _ _ s
    refine wpAny_bind ?_
    unfold Builtin.Dict.dictSlotArgs
    unfold Builtin.Dict.notOrdered
    rw [if_neg (by decide)]
    refine wpAny_bind (wpAny_pure ?_)
    show wpAny _ _ (pure (Value.ref d,Value.ref b)) _ _ s
    refine wpAny_pure ?_
    dsimp only
    refine wpAny_bind (wpAny_isInstance m2.typeIs isSubtype_dict_dict ?_)
    rw [if_neg (by decide)]
    refine wpAny_bind (wpAny_pure (wpAny_bind (wpAny_pure (wpAny_bind (ed_pairs hd hb m1 m2 hl he ?_)))))
    exact wpAny_pure ⟨_,rfl,q⟩
theorem RcIn.dicts {d b:Addr} {kvs kws:List (K×Value)} (hd:(d == sysModules)=false) (hb:(b == sysModules)=false) (m1:s.heap.DictOf knd d kvs) (m2:s.heap.DictOf knd b kws) (hl:kvs.length=kws.length) (hu:A.units < cLine)
    (he:∀ kv∈kvs,∃ v',valueAt kws kv.1=some v'∧EqIn prog w A.in1 s kv.2 v'):RcIn prog w A s (.ref d) (.ref b):=fun E Q q =>
  wpAny_richCompare_same_room (op:=.Eq) m1.typeIs m2.typeIs F.slot_dict_eq (call_meetsIn F.slot_dict_eq m1.typeIs F.entry_dict_eq (F.args_dict_eq_2 _ _) (meets_deq (knd:=knd) d b hd hb) ⟨kvs,kws,m1,m2,hl,he,⟨fun z=>(nomatch z),q⟩⟩) hu
end
end PySem
namespace L2
open PySem PySem.Spec PyProof.Rows PySem.SeqAt
def sc0:V→Prop
  | .int _=>True
  | .str _=>True
  | .bl _=>True
  | .non=>True
  | _=>False
def TEq (H:Hp):Nat→V→V→Prop
  | 0,x,y=>sc0 x∧x=y
  | n + 1,x,y=>(sc0 x∧x=y)∨(∃ p q xs ys,x=.ref p∧y=.ref q∧H p=some (.lst xs)∧H q=some (.lst ys)∧Paired (TEq H n) xs ys) ∨
      ∃ p q xs ys,x=.ref p∧y=.ref q∧H p=some (.tup xs)∧H q=some (.tup ys)∧Paired (TEq H n) xs ys
def DEq (H:Hp):Nat→V→V→Prop
  | 0,x,y=>∃ n,n≤20∧TEq H n x y
  | n + 1,x,y=>(∃ n,n≤20∧TEq H n x y)∨(∃ p q xs ys,x=.ref p∧y=.ref q∧H p=some (.lst xs)∧H q=some (.lst ys)∧Paired (DEq H n) xs ys) ∨
      ∃ p q kvs kws,x=.ref p∧y=.ref q∧H p=some (.dK kvs)∧H q=some (.dK kws)∧Paired (fun (a b:Key×V)=>a.1=b.1∧DEq H n a.2 b.2) kvs kws
section
variable {P:Program} {w:World} {H:Hp} {s:Shared}
theorem pair_vals {R:V→V→Prop}:∀ {xs ys:List V} {us vs:List Value},Paired R xs ys→Vals xs us→Vals ys vs→us.length=vs.length∧∀ j (h1:j < us.length) (h2:j < vs.length),∃ x y,R x y∧RelV x us[j]∧RelV y vs[j]
  | _,_,_,_,.nil,.nil,.nil=>⟨rfl,fun j h1=>absurd h1 (Nat.not_lt_zero _)⟩
  | _,_,_,_,.cons r rs,.cons a as,.cons b bs=>by
    obtain ⟨e,z⟩:=pair_vals rs as bs
    refine ⟨by rw [List.length_cons,List.length_cons,e],fun j h1 h2=>?_⟩
    cases j with
    | zero=>exact ⟨_,_,r,a,b⟩
    | succ j=>exact z j (Nat.lt_of_succ_lt_succ h1) (Nat.lt_of_succ_lt_succ h2)
theorem sc_eqAt {A:Around} {x:V} {u v:Value} (h:sc0 x) (ru:RelV x u) (rv:RelV x v):EqAt A s u v true:=by
  cases x with
  | non=>cases ru; cases rv; exact EqAt.same _
  | bl b=>cases ru; cases rv; exact EqAt.same _
  | int i =>
    obtain ⟨t,rfl⟩:=ru
    obtain ⟨t',rfl⟩:=rv
    have z:=EqAt.int_int (A:=A) (s:=s) i t i t'
    rw [beq_self_eq_true] at z
    exact z
  | str i =>
    obtain ⟨t,rfl⟩:=ru
    obtain ⟨t',rfl⟩:=rv
    have z:=EqAt.str_str (A:=A) (s:=s) i t i t'
    rw [beq_self_eq_true] at z
    exact z
  | byt b=>exact h.elim
  | flt b=>exact h.elim
  | ref a=>exact h.elim
  | ty a=>exact h.elim
theorem isList_of (ok:HOk P w H s.heap) {p:Addr} {xs:List V} (h:H p=some (.lst xs)):∃ us:List Value,Vals xs us∧s.heap.IsList p us.toArray:=by
  obtain ⟨_,us,n,r,e⟩:=(show ObjOk P w H s.heap p (.lst xs) from ok p _ h)
  exact ⟨us,r,_,e,rfl,n,rfl⟩
theorem isTup_of (ok:HOk P w H s.heap) {p:Addr} {xs:List V} (h:H p=some (.tup xs)):∃ us:List Value,Vals xs us∧s.heap.IsTuple p us.toArray:=by
  obtain ⟨_,us,r,o,e,c,n,d⟩:=(show ObjOk P w H s.heap p (.tup xs) from ok p _ h)
  exact ⟨us,r,o,e,c,n,d⟩
theorem all_true (n:Nat):((List.range n).all fun _=>true)=true:=by simp
theorem rc_lists (ok:HOk P w H s.heap) {R:V→V→Prop} {A:Around} {p q:Addr} {xs ys:List V} (hu:A.units < cLine) (h1:H p=some (.lst xs)) (h2:H q=some (.lst ys)) (r:Paired R xs ys)
    (he:∀ x y u v,R x y→RelV x u→RelV y v→EqAt A.in1 s u v true):RcAt A s (.ref p) (.ref q) true:=by
  obtain ⟨us,r1,i1⟩:=isList_of ok h1
  obtain ⟨vs,r2,i2⟩:=isList_of ok h2
  obtain ⟨e,z⟩:=pair_vals r r1 r2
  have k:=RcAt.lists (e:=fun _=>true) i1 i2 (by simpa using e) hu (fun j a b=>by
    obtain ⟨x,y,rr,rx,ry⟩:=z j (by simpa using a) (by simpa using b)
    simpa using he _ _ _ _ rr rx ry)
  rw [all_true] at k
  exact k
theorem rc_tups (ok:HOk P w H s.heap) {R:V→V→Prop} {A:Around} {p q:Addr} {xs ys:List V} (hu:A.units < cLine) (h1:H p=some (.tup xs)) (h2:H q=some (.tup ys)) (r:Paired R xs ys)
    (he:∀ x y u v,R x y→RelV x u→RelV y v→EqAt A.in1 s u v true):RcAt A s (.ref p) (.ref q) true:=by
  obtain ⟨us,r1,i1⟩:=isTup_of ok h1
  obtain ⟨vs,r2,i2⟩:=isTup_of ok h2
  obtain ⟨e,z⟩:=pair_vals r r1 r2
  have k:=RcAt.tuples (e:=fun _=>true) i1 i2 hu (fun j a b=>by
    obtain ⟨x,y,rr,rx,ry⟩:=z j (by simpa using a) (by simpa using b)
    simpa using he _ _ _ _ rr rx ry)
  rw [all_true,Bool.true_and,List.size_toArray,List.size_toArray,e,beq_self_eq_true] at k
  exact k
theorem EqAt.of_rc {A:Around} {l b:Addr} (h:RcAt A s (.ref l) (.ref b) true):EqAt A s (.ref l) (.ref b) true:=by
  by_cases e:l=b
  · rw [e]
    exact EqAt.same _
  · exact EqAt.of_refs e h
theorem teq_at (ok:HOk P w H s.heap):∀ {n:Nat} {A:Around} {x y:V} {u v:Value},A.units + n < cLine→TEq H n x y→RelV x u→RelV y v→EqAt A s u v true
  | 0,A,x,y,u,v,hu,h,ru,rv=>by
    obtain ⟨h1,rfl⟩:=h
    exact sc_eqAt h1 ru rv
  | n + 1,A,x,y,u,v,hu,h,ru,rv=>by
    have hin:A.in1.units + n < cLine:=by
      show A.units + 1 + n < cLine
      omega
    rcases h with ⟨h1,rfl⟩ | ⟨p,q,xs,ys,rfl,rfl,h1,h2,r⟩ | ⟨p,q,xs,ys,rfl,rfl,h1,h2,r⟩
    · exact sc_eqAt h1 ru rv
    · cases ru
      cases rv
      exact EqAt.of_rc (rc_lists ok (by omega) h1 h2 r fun _ _ _ _ z a b=>teq_at ok hin z a b)
    · cases ru
      cases rv
      exact EqAt.of_rc (rc_tups ok (by omega) h1 h2 r fun _ _ _ _ z a b=>teq_at ok hin z a b)
theorem rcIn_lists (ok:HOk P w H s.heap) {R:V→V→Prop} {A:Around} {p q:Addr} {xs ys:List V} (hu:A.units < cLine) (h1:H p=some (.lst xs)) (h2:H q=some (.lst ys)) (r:Paired R xs ys)
    (he:∀ x y u v,R x y→RelV x u→RelV y v→EqIn P w A.in1 s u v):RcIn P w A s (.ref p) (.ref q):=by
  obtain ⟨us,r1,i1⟩:=isList_of ok h1
  obtain ⟨vs,r2,i2⟩:=isList_of ok h2
  obtain ⟨e,z⟩:=pair_vals r r1 r2
  exact RcIn.lists i1 i2 (by simpa using e) hu (fun j a b=>by
    obtain ⟨x,y,rr,rx,ry⟩:=z j (by simpa using a) (by simpa using b)
    simpa using he _ _ _ _ rr rx ry)
theorem pair_kv {κ:Type} {R:κ×V→κ×V→Prop}:∀ {kvs kws:List (κ×V)} {us vs:List (κ×Value)},Paired R kvs kws→KV kvs us→KV kws vs→us.length=vs.length∧∀ (i:Nat) (q:κ×Value),us[i]?=some q→∃ q' a b,vs[i]?=some q'∧R a b∧a.1=q.1∧b.1=q'.1∧RelV a.2 q.2∧RelV b.2 q'.2
  | _,_,_,_,.nil,.nil,.nil=>⟨rfl,fun i q h=>by simp at h⟩
  | _,_,_,_,.cons r rs,.cons a as,.cons b bs=>by
    obtain ⟨e,z⟩:=pair_kv rs as bs
    refine ⟨by rw [List.length_cons,List.length_cons,e],fun i q h=>?_⟩
    cases i with
    | zero =>
      simp at h
      subst h
      exact ⟨_,_,_,rfl,r,a.1,b.1,a.2,b.2⟩
    | succ i =>
      obtain ⟨q',x,y,h1,h2⟩:=z i q (by simpa using h)
      exact ⟨q',x,y,by simpa using h1,h2⟩
theorem rcIn_dicts (ok:HOk P w H s.heap) {R:V→V→Prop} {A:Around} {p q:Addr} {kvs kws:List (Key×V)} (hu:A.units < cLine) (h1:H p=some (.dK kvs)) (h2:H q=some (.dK kws)) (r:Paired (fun (a b:Key×V)=>a.1=b.1∧R a.2 b.2) kvs kws)
    (he:∀ x y u v,R x y→RelV x u→RelV y v→EqIn P w A.in1 s u v):RcIn P w A s (.ref p) (.ref q):=by
  obtain ⟨_,n1,us,k1,m1⟩:=(show ObjOk P w H s.heap p (.dK kvs) from ok p _ h1)
  obtain ⟨_,n2,vs,k2,m2⟩:=(show ObjOk P w H s.heap q (.dK kws) from ok q _ h2)
  obtain ⟨e,z⟩:=pair_kv r k1 k2
  refine RcIn.dicts n1 n2 m1 m2 e hu fun kv hkv=>?_
  obtain ⟨i,hi⟩:=List.getElem?_of_mem hkv
  obtain ⟨q',a,b,g1,⟨g2,g3⟩,g4,g5,g6,g7⟩:=z i kv hi
  obtain ⟨_,_,_,_,_,_,_,_,nd⟩:=id m2
  have g8:vs[i]?=some (kv.1,q'.2):=by
    rw [g1,← g4,g2,g5]
  exact ⟨q'.2,valueAt_of_get nd g8,he _ _ _ _ g3 g6 g7⟩
theorem deq_in (ok:HOk P w H s.heap):∀ {n:Nat} {A:Around} {x y:V} {u v:Value},A.units + n + 20 < cLine→DEq H n x y→RelV x u→RelV y v→EqIn P w A s u v
  | 0,A,x,y,u,v,hu,h,ru,rv=>by
    obtain ⟨m,h0,h1⟩:=h
    exact EqIn.of_at (teq_at ok (by omega) h1 ru rv)
  | n + 1,A,x,y,u,v,hu,h,ru,rv=>by
    have hin:A.in1.units + n + 20 < cLine:=by
      show A.units + 1 + n + 20 < cLine
      omega
    rcases h with ⟨m,h0,h1⟩ | ⟨p,q,xs,ys,rfl,rfl,h1,h2,r⟩ | ⟨p,q,kvs,kws,rfl,rfl,h1,h2,r⟩
    · exact EqIn.of_at (teq_at ok (by omega) h1 ru rv)
    · cases ru
      cases rv
      exact EqIn.refs (rcIn_lists ok (by omega) h1 h2 r fun _ _ _ _ z a b=>deq_in ok hin z a b)
    · cases ru
      cases rv
      exact EqIn.refs (rcIn_dicts ok (by omega) h1 h2 r fun _ _ _ _ z a b=>deq_in ok hin z a b)
end
section
variable {X:Cx}
theorem op_eqD (hu:X.A.units + 50 < cLine):OpR X (compareOp .Eq) (fun x y H Q=>∃ n p q,n≤20∧x=.ref p∧y=.ref q∧DEq H n x y∧Q (.bl true) H):=by
  intro pins s σ H x y v u Q I rx ry h
  obtain ⟨n,p,q,hn,rfl,rfl,d,k⟩:=h
  cases rx
  cases ry
  have fin:EP X pins σ Q (.bool true) s:=⟨.bl true,H,I,rfl,k⟩
  have hu1:X.A.units < cLine:=by omega
  have main:RcIn X.prog X.w X.A s (.ref p) (.ref q):=by
    have hin:∀ m,m≤20→X.A.in1.units + m < cLine:=fun m hm=>by
      show X.A.units + 1 + m < cLine
      omega
    have tq:∀ m,m≤20→TEq H m (.ref p) (.ref q)→RcIn X.prog X.w X.A s (.ref p) (.ref q):=fun m hm t=>by
      cases m with
      | zero=>exact t.1.elim
      | succ m =>
        rcases t with ⟨h1,_⟩ | ⟨p',q',xs,ys,e1,e2,h1,h2,r⟩ | ⟨p',q',xs,ys,e1,e2,h1,h2,r⟩
        · exact h1.elim
        · cases e1
          cases e2
          intro E Q' k'
          exact rc_lists I.hok hu1 h1 h2 r (fun _ _ _ _ z a b=>teq_at I.hok (hin m (by omega)) z a b) X.prog X.w E Q' k'
        · cases e1
          cases e2
          intro E Q' k'
          exact rc_tups I.hok hu1 h1 h2 r (fun _ _ _ _ z a b=>teq_at I.hok (hin m (by omega)) z a b) X.prog X.w E Q' k'
    cases n with
    | zero =>
      obtain ⟨m,hm,t⟩:=d
      exact tq m hm t
    | succ n =>
      have hin2:X.A.in1.units + n + 20 < cLine:=by
        show X.A.units + 1 + n + 20 < cLine
        omega
      rcases d with ⟨m,hm,t⟩ | ⟨p',q',xs,ys,e1,e2,h1,h2,r⟩ | ⟨p',q',kvs,kws,e1,e2,h1,h2,r⟩
      · exact tq m hm t
      · cases e1
        cases e2
        exact rcIn_lists I.hok hu1 h1 h2 r fun _ _ _ _ z a b=>deq_in I.hok hin2 z a b
      · cases e1
        cases e2
        exact rcIn_dicts I.hok hu1 h1 h2 r fun _ _ _ _ z a b=>deq_in I.hok hin2 z a b
  exact main _ _ fin
theorem op_neT (hu:X.A.units + 50 < cLine):OpR X (compareOp .NotEq) (fun x y H Q=>∃ n p q,n≤20∧x=.ref p∧y=.ref q∧TEq H n x y∧Q (.bl false) H):=by
  intro pins s σ H x y v u Q I rx ry h
  obtain ⟨n,p,q,hn,rfl,rfl,d,k⟩:=h
  cases rx
  cases ry
  have fin:EP X pins σ Q (.bool false) s:=⟨.bl false,H,I,rfl,k⟩
  have hu1:X.A.units < cLine:=by omega
  cases n with
  | zero=>exact d.1.elim
  | succ m =>
    have hin:X.A.in1.units + m < cLine:=by
      show X.A.units + 1 + m < cLine
      omega
    rcases d with ⟨h1,_⟩ | ⟨p',q',xs,ys,e1,e2,h1,h2,r⟩ | ⟨p',q',xs,ys,e1,e2,h1,h2,r⟩
    · exact h1.elim
    · cases e1
      cases e2
      obtain ⟨us,r1,i1⟩:=isList_of I.hok h1
      obtain ⟨vs,r2,i2⟩:=isList_of I.hok h2
      obtain ⟨e,z⟩:=pair_vals r r1 r2
      have k:=RcNeAt.lists (A:=X.A) (e:=fun _=>true) i1 i2 (by simpa using e) hu1 (fun j a b=>by
        obtain ⟨x,y,rr,rx,ry⟩:=z j (by simpa using a) (by simpa using b)
        simpa using teq_at I.hok hin rr rx ry)
      rw [all_true] at k
      exact k X.prog X.w _ _ fin
    · cases e1
      cases e2
      obtain ⟨us,r1,i1⟩:=isTup_of I.hok h1
      obtain ⟨vs,r2,i2⟩:=isTup_of I.hok h2
      obtain ⟨e,z⟩:=pair_vals r r1 r2
      have k:=RcNeAt.tuples (A:=X.A) (e:=fun _=>true) i1 i2 hu1 (fun j a b=>by
        obtain ⟨x,y,rr,rx,ry⟩:=z j (by simpa using a) (by simpa using b)
        simpa using teq_at I.hok hin rr rx ry)
      rw [all_true,Bool.true_and,List.size_toArray,List.size_toArray,e,beq_self_eq_true] at k
      exact k X.prog X.w _ _ fin
def rDCopy:V→List V→Hp→VK→Prop:=fun x vs H Q=>∃ d kvs,x=.ref d∧vs=[]∧H d=some (.dK kvs)∧∀ p,H p=none→Q (.ref p) (upd H p (.dK kvs))
theorem mt_dcopy:MtR X "dict.copy" rDCopy:=by
  intro pins s σ H x vs v us Q I rx rv h
  obtain ⟨d,kvs,rfl,rfl,hd,q⟩:=h
  cases rx
  cases rv
  obtain ⟨hz,n1,ws,k1,m1⟩:=(show ObjOk X.prog X.w H s.heap d (.dK kvs) from I.hok d _ hd)
  refine call_meetsIn PySem.F.slot_dict_copy m1.typeIs PySem.F.entry_dict_copy (PySem.F.args_dict_copy_1 _) (meets_dict_copy (mixKind X.prog X.w) d n1) ⟨ws,m1,by rw [← k1.length]; exact hz,fun h' hn _ kk=>?_⟩
  exact ⟨.ref s.heap.objs.size,_,I.laid (a:=s.heap.objs.size) (o:=.dK kvs) (t':=s.toks) kk (Nat.le_refl _) (dk_new hz (beq_eq_false_iff_ne.mpr (Ne.symm (Nat.ne_of_lt I.big))) k1 hn),rfl,q _ (I.hok.fresh (Nat.le_refl _))⟩
theorem hu50 {A:Around} {k:Nat} (hr:Room k A):A.units + 50 < cLine:=by
  have:=hr.un
  omega
end
end L2
namespace L2
open PySem PySem.Spec PyProof.Rows
section
variable {prog:Program} {w:World} {A:Around} {E:Value→Shared→Prop} {s:Shared}
end
section
variable {X:Cx}
end
end L2
namespace L2
open PySem PySem.Spec PyProof.Rows
structure XCls (K:PySem.W.Frag) (C:Addr):Prop where
  ga:PySem.W.findIn K (.ref C) "__getattribute__"=some (some (.builtin "BaseException.__getattribute__"))
  gh:PySem.W.findIn K (.ref C) "__getattr__"=some none
  cl:PySem.W.findIn K (.ref C) "__class__"=some (some (.builtin "object.__class__"))
  cn:PySem.W.specialIn K (.builtin "object.__class__") "__get__"=some (some (.builtin "getset_descriptor.__get__"))
  ck:PySem.W.takesIn K (.builtin "object.__class__")=some true
  ob:PySem.W.mroIn K C (.type "object")=some true
  be:PySem.W.mroIn K C (.type "BaseException")=some true
theorem XCls.cs {K:PySem.W.Frag} {C:Addr} (c:XCls K C):∃ cd,PySem.W.clsIn K C=some cd:=by
  obtain ⟨cd,a,_⟩:=Option.bind_eq_some_iff.mp c.ob
  exact ⟨cd,a⟩
theorem canon_bexc:Manifest.canonical "BaseException.__getattribute__"="object.__getattribute__":=by decide +kernel
section
variable {prog:Program} {w:World} {A:Around} {E:Value→Shared→Prop} {s:Shared} {K:PySem.W.Frag} {x C:Addr} {ox:Obj}
theorem exc_meth {f:Addr} {name:Str} {pl:Sem Bool} {Q:Value×List Value→Shared→Prop} (X:K.In s.heap) (I:PySem.W.InstAt s.heap x ox C none) (c:XCls K C) (hf:PySem.W.findIn K (.ref C) name=some (some (.ref f))) (ht:PySem.W.typeIn K (.ref f)=some (.type "function"))
    (h:Q (.ref f,[.ref x]) s):wpAny (model prog w) A (getMethod (.ref x) name pl) Q E s:=by
  unfold getMethod specialOf
  refine wpAny_bind (wpAny_bind (I.type.here ((PySem.W.looks_findIn X c.ga).here ?_)))
  dsimp only
  rw [canon_bexc,if_neg (by decide)]
  refine wpAny_bind (wpAny_bind (I.type.here ((PySem.W.looks_findIn X c.gh).here ?_)))
  refine wpAny_bind (wpAny_bind (I.type.here ((PySem.W.looks_findIn X hf).here (wpAny_bind ((PySem.W.looks_typeIn X ht).here ?_)))))
  rw [if_neg (by decide +kernel)]
  refine wpAny_bind (wpAny_loadPart I.at_ ?_)
  have hd:=I.dict
  cases e:ox.dict with
  | none=>exact wpAny_bind (wpAny_rule (wpAny_pure h))
  | some dx=>rw [e] at hd; exact hd.elim
theorem exc_check {nameV:Value} {Q:Unit→Shared→Prop} (X:K.In s.heap) (I:PySem.W.InstAt s.heap x ox C none) (c:XCls K C) (h:Q () s):wpAny (model prog w) A (checkBuiltinCall "BaseException.__getattribute__" ⟨[.ref x,nameV],[]⟩) Q E s:=by
  obtain ⟨hh,g,d,t,os⟩:=s
  have hk:builtinKind "BaseException.__getattribute__"=some .slot:=by decide +kernel
  have hsplit:splitId "BaseException.__getattribute__"=some ("BaseException","__getattribute__"):=by decide +kernel
  have ha:=F.args_bexc_ga (.ref x) nameV
  have L0:=I.type (M:=model prog w)
  have L1:=PySem.W.looks_mroIn (M:=model prog w) X c.be
  simp only [checkBuiltinCall,hk,hsplit]
  refine wpAny_bind ?_
  unfold isInstance
  refine wpAny_bind (L0.at (L1.at ?_))
  repeat (first | assumption | wp_step)
theorem exc_class {Q:Option Value→Shared→Prop} (X:K.In s.heap) (I:PySem.W.InstAt s.heap x ox C none) (c:XCls K C) (h:Q (some (.ref C)) {s with toks:=s.toks + 1}):wpAny (model prog w) A (getAttr? (.ref x) "__class__") Q E s:=by
  have L0:=I.type (M:=model prog w)
  have L1:=PySem.W.looks_findIn (M:=model prog w) X c.ga
  have L2':=PySem.W.looks_findIn (M:=model prog w) X c.gh
  have hf:PySem.W.findObj K C none "__class__"=some (.bind (.builtin "getset_descriptor.__get__") (.builtin "object.__class__")):=by
    obtain ⟨cd,hc⟩:=c.cs
    unfold PySem.W.findObj
    rw [hc,Option.bind_some,c.cl,Option.bind_some]
    simp [c.cn,c.ck]
  have L3:=PySem.W.looks_find (M:=model prog w) X I hf
  obtain ⟨hh,g,d,t,os⟩:=s
  unfold getAttr? getAttrBy? getAttrBy
  refine wpAny_bind (wpAny_mkText (wpAny_bind (wpAny_attempt (wpAny_holding (wpAny_bind (L0.at (wpAny_bind (L1.at ?_))))))))
  dsimp only
  rw [if_neg (show ¬ ((onTheHeap (Value.ref C) && Value.builtin "BaseException.__getattribute__" == Value.builtin "object.__getattribute__")=true) by rw [show (Value.builtin "BaseException.__getattribute__" == Value.builtin "object.__getattribute__")=false by decide +kernel,Bool.and_false]; decide)]
  unfold getAttrByItsOwn hookBefore
  rw [if_pos (show onTheHeap (Value.ref C)=true from rfl)]
  refine wpAny_bind (L2'.at (wpAny_bind (wpAny_attempt (wpAny_holding ?_))))
  unfold callGetattribute boundAndCalled
  rw [if_neg (show ¬ ((false && onTheHeap (Value.builtin "BaseException.__getattribute__"))=true) by decide),F.excAttr_ValueError.ga.bind]
  refine wpAny_bind (wpAny_pure (wpAny_call (codeAny_call_builtin F.excAttr_ValueError.ga.plain F.entry_bexc_ga (exc_check (s:=⟨hh,g,d,t + 1,os⟩) X I c ?_))))
  have fin:∀ (A':Around) (R:Result→Shared→Prop),R (.ok (.ret (.ref C))) ⟨hh,g,d,t + 1,os⟩→codeAny (model prog w) A' (.call (.builtin "getset_descriptor.__get__") ⟨[.builtin "object.__class__",.ref x,.ref C],[]⟩) R ⟨hh,g,d,t + 1,os⟩:=fun A' R q=>PySem.W.class_get (s:=⟨hh,g,d,t + 1,os⟩) X I c.ob q
  unfold Builtin.«object.__getattribute__» slotArgs
  refine wpAny_bind (wpAny_pure ?_)
  refine wpAny_bind (wpAny_pure ?_)
  refine wpAny_bind (L0.at (wpAny_bind (L3.at ?_)))
  unfold Builtin.ObjectAttr.bindTo
  refine wpAny_bind (wpAny_holding (wpAny_call (fin _ _ ?_)))
  refine wpAny_pure ?_
  exact PySem.W.handed_on rfl (wpAny_pure h)
theorem kitx_exc (c:XCls K C):PySem.W.KitX K (.ref x) (.ref C) (fun h=>PySem.W.InstAt h x ox C none) where
  ty:=fun _ _ _ I=>I.type
  it:=fun _ _ X _=>by
    obtain ⟨cd,hc⟩:=c.cs
    unfold PySem.W.clsIn at hc
    split at hc
    · rename_i c' d' cd' sl' ho
      intro A' Q' E' s' k q
      unfold isType loadHead
      exact wpAny_bind (wpAny_loadPart (k _ _ (X _ _ ho)) (wpAny_pure q))
    · cases hc
  ne:=fun h tp dd its n sl X htp=>by
    obtain ⟨cd,hc⟩:=c.cs
    refine Bool.eq_false_iff.mpr fun q=>?_
    have e:C=tp:=Value.ref.inj (beq_iff_eq.mp q)
    subst e
    unfold PySem.W.clsIn at hc
    split at hc
    · rename_i c' d' cd' sl' ho
      have z:=(X _ _ ho).symm.trans htp
      cases z
    · cases hc
  ca:=fun X I k=>exc_class X I c k
end
def XOk (a C:Addr) (h:Heap):Prop:=∃ ob,h.get? a=some ob∧ob.cls=.ref C∧ob.dict=none∧PySem.W.notCls ob=true
def XO (a C:Addr):HO:=.ext (XOk a C)
theorem XOk.obj {P:Program} {w:World} {H:Hp} {h:Heap} {a C:Addr} (x:XOk a C h):ObjOk P w H h a (XO a C):=by
  obtain ⟨ob,e,r⟩:=x
  refine ⟨⟨ob,e,r⟩,⟨ob,e⟩,fun h1 h2 y k=>?_⟩
  obtain ⟨o,e1,r1⟩:=y
  exact ⟨o,k o e1,r1⟩
theorem XOk.inst {h:Heap} {a C:Addr} (x:XOk a C h):∃ ox,PySem.W.InstAt h a ox C none:=by
  obtain ⟨ob,e,c,d,n⟩:=x
  exact ⟨ob,e,c,n,by rw [d]; trivial⟩
theorem xo_get {P:Program} {w:World} {H:Hp} {h:Heap} {a C:Addr} (ok:HOk P w H h) (e:H a=some (XO a C)):XOk a C h:=(ok a _ e).1
section
variable {X:Cx} {pins:List (Addr×Obj)} {σ:St} {H:Hp} {s:Shared}
theorem call_isinstX:CallR X (.builtin "isinstance") (fun xs H Q=>∃ a C cv c b,xs=[.ref a,cv]∧RelV cv c∧(∀ u,RelV cv u→u=c)∧H a=some (XO a C)∧XCls X.K C∧PySem.W.kitOne X.K (.ref C) c=some b∧Q (.bl b) H):=by
  intro pins s σ H xs us Q I r h
  obtain ⟨a,C,cv,c,b,rfl,_,hu,e,cl,k,q⟩:=h
  obtain ⟨u,w',rfl,rx,rt⟩:=vals2 r
  cases (show u=Value.ref a from rx)
  cases hu _ rt
  obtain ⟨ox,J⟩:=(xo_get I.hok e).inst
  exact PySem.W.kia_one (kitx_exc cl) I.kIn J k (fun z=>nomatch z) fun tk=>⟨.bl b,H,I.tok _,rfl,q⟩
end
section
variable {P:Program} {w:World} {H:Hp} {h h':Heap} {a:Addr} {o:HO} {fs ex:List Addr}
end
section
variable {X:Cx} {pins:List (Addr×Obj)} {σ:St} {H:Hp} {s:Shared} {C:Addr} {x:Str} {p pos:Pos} {e:Expr} {es:List Expr} {t:TA}
def tMakeX (C:Addr) (t:TA):TE:=fun σ H Q=>t σ H fun vs H1=>vs.length≤sizeLine∧∀ a,H1 a=none→Q (.ref a) (upd H1 a (XO a C))
end
section
variable {X:Cx} {CX:CXT} {k:Nat} {f C:Addr} {fd:FuncData} {ps:List Str} {sp:Sp} {E:XK} {m:Str} {pos apos:Pos} {o:Expr} {ta:TE}
def tMethX (C:Addr) (sp:Sp) (E:XK) (ta:TE):TE:=fun σ H Q=>ta σ H fun x H1=>∃ a,x=.ref a∧H1 a=some (XO a C)∧sp [.ref a] H1 Q E
theorem pe_methX {pl:Sem Bool} (he:PE X o ta) (c:XCls X.K C) (hm:Meth X.K C m f) (F:FnOk X.prog X.w X.K X.mg X.base CX k f fd ps sp) (hr:Room k X.A) (hb:Binds X.K fd ps []) (hx:Passes CX X E)
    (ht:eval (.Call (.Attribute o m apos) [] [] pos) X.env=(do
      let ov ← eval o X.env
      standAt apos.atName
      let (f,first) ← holding [ov] (getMethod ov m pl)
      callWith pos f first (backTo pos (starEach [] X.env)) (backToKw pos (keywordEach [] X.env))):=by rfl) :
    PE X (.Call (.Attribute o m apos) [] [] pos) (tMethX C sp E ta):=by
  intro pins s σ H Q I h
  refine PySem.W.methodCall_KW (pl:=pl) (thn (he pins s σ H _ I h) fun u s1 ⟨x,H1,I1,rx,a,ex,ea,q⟩=>?_) ht
  subst ex
  obtain rfl:u=Value.ref a:=rx
  obtain ⟨ox,J⟩:=(xo_get I1.hok ea).inst
  refine exc_meth I1.kIn J c hm.at_ (beq_iff_eq.mp hm.fn) ?_
  exact PySem.W.callWith_K0 (first:=[.ref a]) I1.kIn hm.kp (run_fn (us:=[.ref a]) (vs:=[.ref a]) (dvs:=[]) (ds:=[]) F hr hb .nil hx I1 (.cons rfl .nil) q)
end
section
variable {X:Cx} {pins:List (Addr×Obj)} {σ:St} {H:Hp} {s:Shared}
theorem Inv.adopt {B:Heap} {ea C:Addr} {fl:Value} (I:Inv X pins σ H s) (f:FlD B X.stack ea (.ref C) fl s.heap) (cov:Tcov X pins H B s.heap):H ea=none∧Inv X pins σ (upd H ea (XO ea C)) s:=by
  obtain ⟨hB,hn,hl,oe,vs,T,oT,ts,he,hc,hdc,hd,_⟩:=f
  have nf:ea∉frs X.stack:=fun z=>by
    obtain ⟨_,o,ho,q⟩:=hl.mem z
    rw [he] at ho
    cases ho
    exact q vs hd
  have nb:∀ o,B.get? ea≠some o:=fun o z=>by rw [hn] at z; cases z
  have hz:H ea=none:=by
    cases z:H ea with
    | none=>rfl
    | some u=>exact absurd (cov ea oe (.inl (by rw [z]; simp)) nf he) (nb oe)
  have ne:∀ {b:Addr} {o:HO},H b=some o→b≠ea:=fun {b o} z=>ne_of_none z hz
  refine ⟨hz,I.ok,I.os,I.bare,⟨I.base.keep,I.base.slot,fun b o e n hx=>?_,I.base.there,fun b xs e=>?_,fun b o u e=>?_,fun b ps e=>?_⟩,I.loc,I.cell,?_,fun x c e=>?_,fun p hp=>?_,fun b u e=>?_,I.len⟩
  · rw [upd_ne]
    · exact I.base.free b o e n hx
    · rintro rfl
      exact nb oe (cov _ oe (.inr (.inl ⟨hx,o,e⟩)) nf he)
  · have z:=I.base.tups b xs e
    rw [upd_ne (ne z)]
    exact z
  · have z:=I.base.frzs b o u e
    rw [upd_ne (ne z)]
    exact z
  · obtain ⟨more,z⟩:=I.base.tbls b ps e
    exact ⟨more,by rw [upd_ne (ne z)]; exact z⟩
  · rw [upd_ne]
    · exact I.free
    · intro z
      obtain ⟨m,⟨o,es,ep,ho,hdd,_⟩,_⟩:=I.loc
      rw [z,he] at ho
      cases ho
      rw [hd] at hdd
      cases hdd
  · rw [upd_ne]
    · exact I.freeC x c e
    · intro z
      obtain ⟨v,o,ho,hdd⟩:=I.cell x c e
      rw [z,he] at ho
      cases ho
      rw [hd] at hdd
      cases hdd
  · obtain ⟨e1,e2,e3,e4,e5⟩:=I.pin p hp
    refine ⟨e1,?_,e3,e4,e5⟩
    rw [upd_ne]
    · exact e2
    · intro z
      have e6:s.heap.get? ea=some p.2:=by rw [← z]; exact e1
      rw [he] at e6
      cases e6
      exact nb _ (cov ea _ (.inr (.inr ⟨p,hp,z⟩)) nf he)
  · by_cases hb:b=ea
    · subst hb
      rw [upd_same] at e
      cases e
      refine XOk.obj ⟨oe,he,hc,hdc,?_⟩
      unfold PySem.W.notCls
      rw [hd]
    · rw [upd_ne hb] at e
      exact (I.hok b u e).stay (fun _ _ _ q=>q) (fun c q=>by rw [upd_ne (ne q)]; exact q) fun c xs q=>by rw [upd_ne (ne q)]; exact q
theorem unbind_ok {M:Model} {A:Around} {E:Value→Shared→Prop} {i:Nat} {x:Str} {v:V} {Q:Unit→Shared→Prop} (I:Inv X pins σ H s) (hN:X.N.Nodup) (hi:X.N[i]?=some x) (hk:X.env.scope.names.lookup x=some .local) (hv:σ[i]?=some (some v))
    (h:∀ s',Inv X pins (σ.set i none) H s'→Q () s'):wpAny M A (unbindName X.env x) Q E s:=by
  obtain ⟨m,hn,hl⟩:=id I.loc
  have hcls:(X.env.scope.kind == .class || (X.env.scope.kind == .module && X.env.locals != X.env.globals))=false:=by rw [I.ok.kind]; rfl
  have hkd:X.env.kindOf x=some .local:=hk
  have hmx:(m x).isSome=true:=by
    obtain ⟨u,_,q⟩:=hl i x v hi hv (.inl hk)
    rcases q with ⟨_,e⟩ | ⟨k,_⟩
    · rw [e]; rfl
    · rw [hkd] at k
      rcases k with k | k <;> cases k
  unfold unbindName
  refine wpAny_bind (wpAny_point (wpAny_bind ?_))
  unfold deleteName
  simp only [hkd,hcls]
  rw [if_neg (by decide)]
  refine wpAny_bind (wpAny_nsDel_keeps hn fun h' v' hn' hs=>?_)
  rw [hmx]
  simp only [Bool.not_true,Bool.false_eq_true,if_false]
  refine wpAny_pure (wpAny_point (h _ ?_))
  obtain ⟨oL,_,_,hoL,_⟩:=id hn
  have cne:=I.cne
  have below:∀ b o,X.s₀.heap.get? b=some o→b≠X.env.locals:=fun b o e=>Nat.ne_of_lt (Nat.lt_of_lt_of_le (Heap.lt_size e) I.ok.above)
  refine ⟨I.ok,I.os,I.bare,⟨fun b o e n hb hx=>(hs.2 b (below b o e)).trans (I.base.keep b o e n hb hx),fun b o e n hb hx=>?_,I.base.free,fun b o e hx=>?_,I.base.tups,I.base.frzs,I.base.tbls⟩,⟨_,hn',fun j y v2 e1 e2 e3=>?_⟩,fun y c e=>?_,I.free,I.freeC,fun p hp=>?_,fun b ob e=>?_,by simpa using I.len⟩
  · obtain ⟨sl,e1⟩:=I.base.slot b o e n hb hx
    exact ⟨sl,(hs.2 b (below b o e)).trans e1⟩
  · obtain ⟨o',e1⟩:=I.base.there b o e hx
    exact ⟨o',(hs.2 b (below b o e)).trans e1⟩
  · by_cases hj:j=i
    · subst hj
      have hlt:j < σ.length:=(List.getElem?_eq_some_iff.mp hv).1
      rw [List.getElem?_set_self hlt] at e2
      cases e2
    · rw [List.getElem?_set_ne (Ne.symm hj)] at e2
      obtain ⟨u',r',q⟩:=hl j y v2 e1 e2 e3
      refine ⟨u',r',?_⟩
      rcases q with ⟨k,e⟩ | ⟨k,c,e,z⟩
      · refine .inl ⟨k,?_⟩
        have hne:y≠x:=fun e=>hj (nodup_ix hN e1 (e ▸ hi))
        simp [hne,e]
      · exact .inr ⟨k,c,e,z.sameBut hs (cne y c e)⟩
  · obtain ⟨w',z⟩:=I.cell y c e
    exact ⟨w',z.sameBut hs (cne y c e)⟩
  · obtain ⟨e,n,ne,nf,d⟩:=I.pin p hp
    exact ⟨(hs.2 p.1 ne).trans e,n,ne,nf,d⟩
  · refine (I.hok b ob e).stay (fun c w' hc q=>(hs.2 c ?_).trans q) (fun _ q=>q) fun _ _ q=>q
    rintro rfl
    rcases hc with rfl | hc
    · rw [I.free] at e; cases e
    · rw [I.free] at hc; cases hc
def dropE (i:Nat) (D:Ends):Ends:={nx:=fun σ H=>D.nx (σ.set i none) H,rt:=D.rt,bk:=fun σ H=>D.bk (σ.set i none) H,ct:=fun σ H=>D.ct (σ.set i none) H}
def thAs (K:PySem.W.Frag) (Ci:Addr) (i:Nat) (t:TS) (th:TH):TH:=fun C D σ H =>
  (PySem.W.exmOne K (.ref C) (.ref Ci)=some true∧∀ ea,H ea=none→t (dropE i D) (σ.set i (some (.ref ea))) (upd H ea (XO ea C)))∨(PySem.W.exmOne K (.ref C) (.ref Ci)=some false∧th C D σ H)
theorem goes_ok {M:Model} {A:Around} {E:Value→Shared→Prop} {i:Nat} {x:Str} {pos:Pos} {Q:Unit→Shared→Prop} (I:Inv X pins σ H s) (hN:X.N.Nodup) (hi:X.N[i]?=some x) (hk:X.env.scope.names.lookup x=some .local)
    (h:∀ s',Inv X pins (σ.set i none) H s'→Q () s'):wpAny M A (do bindName X.env x .none; unbindBehindTheSuite X.env x pos) Q E s:=by
  have hlt:i < σ.length:=by
    rw [I.len]
    exact (List.getElem?_eq_some_iff.mp hi).1
  refine wpAny_bind (wpAny_bindName (store_ok (v:=.non) I hN hi (.inl hk) rfl (fun s1 I1=>?_) (.inr hk)))
  unfold unbindBehindTheSuite
  refine wpAny_onRaise (unbind_ok (v:=.non) I1 hN hi hk (List.getElem?_set_self hlt) fun s2 I2=>h s2 ?_)
  rw [List.set_set] at I2
  exact I2
theorem phs_as {x n:Str} {Ci:Addr} {np pos:Pos} {b₀:Stmt} {suite:List Stmt} {rest:List ExceptHandler} {t:TS} {th:TH} (i:Nat) (hg:Gl X x) (hm:X.mg x=some (.ref Ci)) (hN:X.N.Nodup) (hi:X.N[i]?=some n) (hk:X.env.scope.names.lookup n=some .local)
    (hsu:∀ ea,PSs (X.hdl ea) (b₀ :: suite) t) (hr:PHs X rest th) (hd:(x == ("__debug__":Str))=false:=by decide):PHs X (.ExceptHandler (some (.Name x np)) (some n) (b₀ :: suite) pos :: rest) (thAs X.K Ci i t th):=by
  intro pins s σ H D ea C B I fl cov h
  refine wpAny_handleBy_cons (codeAny_handlers_test ?_) (by intro q; cases q)
  refine ld_glob (X:=X.hdl ea) (I.hdl ea) hg hm ?_ hd
  obtain ⟨ob,hob,hc⟩:=fl.there
  have LT:PySem.W.Looks (model X.prog X.w) s.heap (typeOf (.ref ea)) (.ref C):=by
    rw [← hc]
    exact (PySem.W.Looks.ld hob).andThen .now
  rcases h with ⟨hx,q⟩ | ⟨hx,q⟩
  · refine (PySem.W.exm_one I.kIn LT hx).here ?_
    refine codeAny_handlers_suite_as (fl_lands fl fun h6 fl6 sm6=>?_)
    have I6:=I.landed fl6.1 cov sm6
    obtain ⟨hz,J⟩:=I6.adopt fl6 (Tcov.land I fl6.1 cov)
    refine store_ok (X:=X.hdl ea) (v:=.ref ea) (J.hdl ea) hN hi (.inl hk) rfl (fun s2 I2=>?_) (.inr hk)
    refine wpAny_mono (hsu ea pins _ _ _ (dropE i D) I2 (q ea hz)) (fun f s3 z=>?_) (fun _ _ z=>False.elim z)
    show wpAny _ X.A (do bindName X.env n .none; unbindBehindTheSuite X.env n pos) (fun _ s₃=>SP X pins D f s₃) X.xe s3
    cases f with
    | next=>obtain ⟨σ',H',I3,q3⟩:=z; exact goes_ok (I3.unhdl I.ok) hN hi hk fun s4 I4=>⟨_,_,I4,q3⟩
    | brk=>obtain ⟨σ',H',I3,q3⟩:=z; exact goes_ok (I3.unhdl I.ok) hN hi hk fun s4 I4=>⟨_,_,I4,q3⟩
    | cont=>obtain ⟨σ',H',I3,q3⟩:=z; exact goes_ok (I3.unhdl I.ok) hN hi hk fun s4 I4=>⟨_,_,I4,q3⟩
    | ret u=>obtain ⟨v,σ',H',I3,r3,q3⟩:=z; exact goes_ok (I3.unhdl I.ok) hN hi hk fun s4 I4=>⟨v,_,_,I4,r3,q3⟩
  · refine (PySem.W.exm_one I.kIn LT hx).here ?_
    exact hr pins s σ H D ea C B I fl cov q
end
end L2
namespace PySem
open Sem (wp)
def BareD (h:Heap) (d:Addr) (es:Array DictEntry) (ep:Nat):Prop:=∃ o,h.get? d=some o∧o.ExactDict∧o.data=.dict es ep
section
variable {prog:Program} {w:World} {A:Around} {E:Value→Shared→Prop} {s:Shared}
end
def CmpIn (prog:Program) (w:World) (A:Around) (op:CmpOp) (P:Nat→Value→Prop) (G:Heap→Prop) (bt:Nat→Nat→Bool):Prop:=
  ∀ i j vi vj (s:Shared) (Q:Value→Shared→Prop) (E:Value→Shared→Prop),P i vi→P j vj→G s.heap→Q (.bool (bt i j)) s→wpAny (model prog w) A (richCompare op vi vj) Q E s
section
variable {prog:Program} {w:World} {A:Around} {R:Result→Shared→Prop} {I:Addr} {fp wr:List Addr} {n:Nat} {P:Nat→Value→Prop} {St:Nat→Heap→Prop} {G:Heap→Prop}
end
section
variable {prog:Program} {w:World} {A:Around} {E:Value→Shared→Prop} {s:Shared}
end
section
variable {prog:Program} {w:World} {K:Type} [DecidableEq K] {knd:HeapKind prog w K} {A:Around} {E:Value→Shared→Prop} {s:Shared}
def lessH (xs:List (K×Addr×Value)) (k:K):List (K×Addr×Value):=xs.filter fun x=>!decide (x.1=k)
end
section
variable {prog:Program} {w:World} {A:Around} {E:Value→Shared→Prop} {s:Shared}
end
end PySem
namespace HT
open PySem PyProof.Rows
open PySem.SeqAt
open PySem.AutoSeq1 (wpAny_loadPart')
open PySem.MeetsSeq PySem.MeetsSeq2 PySem.MeetsSeq3
end HT
namespace L2
open PySem PySem.Spec PyProof.Rows
section
variable {X:Cx}
def Tups (H:Hp):List Addr→List (List Int)→Prop:=Paired fun a n=>H a=some (.tup (n.map V.int))
open Classical in
def rInsert:V→List V→Hp→VK→Prop:=fun x vs H Q=>∃ l xs i y,x=.ref l∧vs=[.int (i:Nat),y]∧H l=some (.lst xs)∧i≤xs.length∧xs.length < sizeLine∧Q .non (upd H l (.lst (xs.take i++y :: xs.drop i)))
def tRev (K:PySem.W.Frag) (te:TE) (ts:TO):TE:=fun σ H Q=>te σ H fun x H1=>ts σ H1 fun st H2=>st=some (-1)∧∃ a xs,x=.ref a∧SqL K H2 a xs∧∀ p,H2 p=none→Q (.ref p) (upd H2 p (.lst xs.reverse))
theorem pe_rev {e st:Expr} {te:TE} {ts:TO} {p2 pos:Pos} (he:PE X e te) (hs:PO X (some st) ts):PE X (.Subscript e (.Slice none none (some st) p2) pos) (tRev X.K te ts):=by
  intro pins s σ H Q I h
  refine Subscript_ (thn (he pins s σ H _ I h) fun v s1 ⟨x,H1,I1,r1,q1⟩=>?_)
  refine wpAny_Slice ?_
  rw [evalPart_none]
  refine wpAny_pure (wpAny_pure ?_)
  refine thn (hs pins s1 σ H1 _ I1 q1) fun vs s3 ⟨o,H3,I3,ps,q3⟩=>?_
  obtain ⟨rfl,a,xs,rfl,hx,q⟩:=q3
  cases r1
  have I4:Inv X pins σ H3 {s3 with heap:=s3.heap.push {cls:=.type "slice",data:=.fields #[.none,.none,vs]}}:=I3.kept (t':=s3.toks) fun b ob q=>Heap.get?_push_of_some _ q
  obtain ⟨its,r,ht,hz⟩:=I4.list hx
  show wpAny (model X.prog X.w) X.A (subscriptTail e (.Slice none none (some st) p2) (.ref a) (.ref s3.heap.objs.size)) (EP X pins σ Q) X.xe {s3 with heap:=s3.heap.push {cls:=.type "slice",data:=.fields #[.none,.none,vs]}}
  refine tail_any (ops:=[.ref a,.ref s3.heap.objs.size]) ht.isList.typeIs slot_list_getitem.lookup ?_ (by with_unfolding_all rfl)
  refine wpAny_getItem_list_slice ht.isList (Heap.IsSliceOf.new ..) .none .none ps (by simp) ?_ (by rw [List.size_toArray,← r.length]; exact hz)
  rw [PySem.W.krv_pick]
  refine ⟨.ref _,_,I4.laid (t':=s3.toks) (o:=.lst xs.reverse) (fun b ob q=>Heap.get?_push_of_some _ q) (Nat.le_refl _) ?_,rfl,q _ (I4.hok.fresh (Nat.le_refl _))⟩
  refine ⟨by rw [List.length_reverse]; exact hz,its.reverse,0,r.reverse,?_⟩
  rw [Heap.get?_push_size _ rfl]
def IntKeys (kvs:List (List Key×V)):Prop:=∀ k∈kvs.map (·.1),∃ n:List Int,k=n.map Sum.inl
def Least (ks:List (List Key)) (n:List Int):Prop:=n.map Sum.inl∈ks∧∀ m:List Int,m.map Sum.inl∈ks→HT.lexLt m n=false
def tDPopT (td ty:TE):TE:=fun σ H Q=>td σ H fun x H1=>∃ a,x=.ref a∧IsD H1 a∧ty σ H1 fun y H2=>∃ kvs k b v,H2 a=some (.dT kvs)∧y=.ref b∧H2 b=some (.tup (k.map kV))∧valV kvs k=some v∧Q v (upd H2 a (.dT (dropK kvs k)))
end
end L2
namespace L2
open PySem PySem.Spec PyProof.Rows
structure CMeth (K:PySem.W.Frag) (C:Addr) (m:Str) (f:Addr):Prop where
  spec:PySem.W.specialIn K (.ref C) "__getattribute__"=some (some (.builtin "type.__getattribute__"))
  reads:PySem.W.readsIn K C (.type "type")=true
  found:PySem.W.findCls K (.ref C) (.type "type") m=some (.val (.ref f))
  kp:PySem.W.keepIn K (.ref f)=true
section
variable {X:Cx}
end
theorem comp_rng {n m:Nat} {g:TG} {tc:TT} {te:TE} {σ:St} {H:Hp} {Q:VK} (Pv:Nat→List V→Hp→Prop) (h0:Pv 0 [] H) (hl:∀ i ys H,i≤m→Pv i ys H→ys.length < sizeLine)
    (hs:∀ i ys H,i < m→Pv i ys H→g (.int (0 + i)) (List.replicate n none++σ) H fun σ2 H2=>σ2.drop n=σ∧tc σ2 H2 fun b H3=>if b=true then te σ2 H3 fun y H4=>Pv (i + 1) (ys++[y]) H4 else Pv (i + 1) ys H3)
    (hd:∀ ys H,Pv m ys H→∀ p,H p=none→Q (.ref p) (upd H p (.lst ys))) :
    ∃ W:Nat→Nat→List V→Hp→Prop,(∃ k,W 0 k [] H)∧∀ i k ys H,W i k ys H→ys.length < sizeLine∧(((Itr 0 m).stop i H∧∀ p,H p=none→Q (.ref p) (upd H p (.lst ys))) ∨
      ((Itr 0 m).go i H∧∃ N:List V→Hp→Prop,(∀ ys' H',N ys' H'→∃ k',k' < k∧W (i + 1) k' ys' H')∧∀ x H',(Itr 0 m).yld i H x H'→g x (List.replicate n none++σ) H' fun σ2 H2=>σ2.drop n=σ∧tc σ2 H2 fun b H3 =>
        if b=true then te σ2 H3 fun y H4=>N (ys++[y]) H4 else N ys H3)):=by
  refine ⟨fun i k ys H=>k=m - i∧i≤m∧Pv i ys H,⟨m,by simp,Nat.zero_le _,h0⟩,?_⟩
  rintro i k ys H ⟨rfl,hi,pv'⟩
  refine ⟨hl i ys H hi pv',?_⟩
  by_cases lt:i < m
  · refine .inr ⟨lt,Pv (i + 1),fun ys' H' p'=>⟨m - (i + 1),by omega,rfl,lt,p'⟩,fun x H' y=>?_⟩
    obtain ⟨e,y⟩:=y
    subst e y
    exact hs i ys _ lt pv'
  · have e:i=m:=by omega
    subst e
    exact .inl ⟨Nat.le_refl _,hd ys H pv'⟩
end L2
namespace L2
open PySem PySem.Spec PyProof.Rows
section
variable {X:Cx} {pins:List (Addr×Obj)} {σ:St} {H:Hp} {s:Shared} {d:Addr}
theorem Inv.swap {o o':HO} (I:Inv X pins σ H s) (e:H d=some o) (nt:∀ xs,o≠.tup xs) (nb:∀ ps,o≠.tbl ps) (nw:∀ a,o≠.own a) (nf:∀ ob u,X.H₀ d≠some (.frz ob u)) (ok:ObjOk X.prog X.w (upd H d o') s.heap d o'):Inv X pins σ (upd H d o') s:=by
  have no:∀ b,H b=none→upd H d o' b=none:=fun b z=>by
    rw [upd_ne (ne_of_none e z).symm]
    exact z
  have tp:∀ b xs,H b=some (.tup xs)→upd H d o' b=some (.tup xs):=fun b xs z=>by
    rw [upd_ne (ne_of z e (fun q=>nt xs q.symm))]
    exact z
  have ow:∀ b a,H b=some (.own a)→upd H d o' b=some (.own a):=fun b a z=>by
    rw [upd_ne (ne_of z e (fun q=>nw a q.symm))]
    exact z
  refine ⟨I.ok,I.os,I.bare,⟨I.base.keep,I.base.slot,fun b ob q n hx=>no b (I.base.free b ob q n hx),I.base.there,fun b xs q=>tp b xs (I.base.tups b xs q),fun b ob u q=>?_,fun b ps q=>?_⟩,I.loc,I.cell,no _ I.free,fun x c q=>no c (I.freeC x c q),fun p hp=>?_,fun b u q=>?_,I.len⟩
  · have z:=I.base.frzs b ob u q
    have nd:b≠d:=fun y=>nf ob u (by rw [← y]; exact q)
    rw [upd_ne nd]
    exact z
  · obtain ⟨more,z⟩:=I.base.tbls b ps q
    refine ⟨more,?_⟩
    rw [upd_ne (ne_of z e (fun y=>nb _ y.symm))]
    exact z
  · obtain ⟨h1,h2,h3⟩:=I.pin p hp
    exact ⟨h1,no _ h2,h3⟩
  · by_cases z:b=d
    · subst z
      rw [upd_same] at q
      cases q
      exact ok
    · rw [upd_ne z] at q
      exact (I.hok b u q).stay (fun c v _ y=>y) (fun c y=>ow c b y) tp
theorem Inv.freeze {kvs:List (Key×V)} (I:Inv X pins σ H s) (e:H d=some (.dK kvs)) (nf:∀ ob u,X.H₀ d≠some (.frz ob u)):∃ od,s.heap.get? d=some od∧Inv X pins σ (upd H d (.frz od (.dK kvs))) s:=by
  obtain ⟨h1,h2,vs,r,ob,es,ep,g1,g2⟩:=(show ObjOk X.prog X.w H s.heap d (.dK kvs) from I.hok d _ e)
  exact ⟨ob,g1,I.swap e (fun xs z=>by cases z) (fun ps z=>by cases z) (fun a z=>by cases z) nf ⟨g1,h1,h2,vs,r,ob,es,ep,g1,g2⟩⟩
theorem Inv.thaw {kvs:List (Key×V)} {od:Obj} (I:Inv X pins σ H s) (e:H d=some (.frz od (.dK kvs))) (nf:∀ ob u,X.H₀ d≠some (.frz ob u)):Inv X pins σ (upd H d (.dK kvs)) s:=by
  obtain ⟨_,h1⟩:=(show ObjOk X.prog X.w H s.heap d (.frz od (.dK kvs)) from I.hok d _ e)
  exact I.swap e (fun xs z=>by cases z) (fun ps z=>by cases z) (fun a z=>by cases z) nf h1
end
def Iti (d:Addr) (od:Obj) (kvs:List (Key×V)):It:=
  ⟨fun i H=>H d=some (.frz od (.dK kvs))∧i < kvs.length,fun i H x H'=>∃ t kv,x=.ref t∧H t=none∧kvs[i]?=some kv∧H'=upd H t (.tup [kV kv.1,kv.2]),fun i H=>H d=some (.frz od (.dK kvs))∧kvs.length≤i⟩
theorem KV.at_ {kvs:List (Key×V)} {vs:List (Key×Value)} (r:KV kvs vs):∀ {i:Nat} {kv:Key×V},kvs[i]?=some kv→∃ u,vs[i]?=some (kv.1,u)∧RelV kv.2 u:=by
  induction r with
  | nil=>intro i kv h; simp at h
  | cons a _ ih =>
    intro i kv h
    cases i with
    | zero =>
      simp at h
      subst h
      exact ⟨_,by rw [List.getElem?_cons_zero,a.1],a.2⟩
    | succ i =>
      obtain ⟨u,h1,h2⟩:=ih (by simpa using h)
      exact ⟨u,by simpa using h1,h2⟩
theorem kV_rel {P:Program} {w:World} {k:Key} {u:Value} (h:(mixKind P w).is k u=true):RelV (kV k) u:=by
  rcases keyIs_shape h with ⟨i,t,rfl,rfl⟩ | ⟨x,t,rfl,rfl⟩
  · exact ⟨t,rfl⟩
  · exact ⟨t,rfl⟩
theorem entry_items_iter:entryFor table "dict_itemiterator.__iter__"=some Builtin.«dict_keyiterator.__iter__»:=
  entryFor_alias (id':="dict_keyiterator.__iter__") (by kernel_rfl) rfl (by decide +kernel) (by kernel_rfl)
section
variable {P:Program} {w:World} {K:PySem.W.Frag}
def epOf (o:Obj):Nat:=match o.data with | .dict _ ep=>ep | _=>0
theorem frz_at {X:Cx} {pins:List (Addr×Obj)} {σ:St} {H:Hp} {s:Shared} {d:Addr} {od:Obj} {kvs:List (Key×V)} (I:Inv X pins σ H s) (e:H d=some (.frz od (.dK kvs))):∃ vs,KV kvs vs∧s.heap.DictAt (mixKind X.prog X.w) d vs (epOf od):=by
  obtain ⟨g0,h1,h2,vs,r,ob,es,ep,g1,g2,g3,g4⟩:=(show ObjOk X.prog X.w H s.heap d (.frz od (.dK kvs)) from I.hok d _ e)
  rw [g0] at g1
  cases g1
  have ee:epOf od=ep:=by
    unfold epOf
    rw [g3]
  rw [ee]
  exact ⟨vs,r,od,es,g0,g2,g3,g4⟩
theorem turn_items {elts:List Expr} {x1} {pos:Pos} (d it:Addr) (od:Obj) (kvs:List (Key×V)) (hne:d≠it):Turn P w K (.Tuple elts x1 pos) (Iti d od kvs) [it] it (fun i h=>∃ ok ov,IsItemIter h it d i kvs.length (epOf od) ok ov) where
  mem:=by simp
  obj:=fun i h st b hb=>by
    have e:b=it:=by simpa using hb
    subst e
    obtain ⟨ok,ov,e⟩:=st
    exact ⟨_,e,fun v z=>by cases z⟩
  keep:=fun i h h' ⟨ok,ov,st⟩ k=>⟨ok,ov,k it (by simp) _ st⟩
  item:=by
    intro X hP hw hK hc i pins s σ H E I hf st hg
    subst hP hw hK
    obtain ⟨ok,ov,st⟩:=st
    obtain ⟨hd,hi⟩:=hg
    obtain ⟨vs,r,da⟩:=frz_at I hd
    have hl:=r.length
    have hkv:kvs[i]?=some kvs[i]:=List.getElem?_eq_getElem hi
    obtain ⟨u,hu,ru⟩:=r.at_ hkv
    obtain ⟨f0,f1,f2,f3,f4,f5⟩:=hf it (by simp)
    rw [hl] at st
    refine wpAny_pyNext_items_item st da hu fun key h' hk hit' ht' hz' kp=>?_
    have I1:Inv X pins σ H {s with heap:=h'}:=I.turned (t':=s.toks) (fun b o hb e=>kp b o hb e) f0 f1 f3 f4 f5
    refine ⟨_,rfl,wpAny_letOwnedTupleGo_items hit' fun h2 hit2 sb=>?_⟩
    have I2:Inv X pins σ H {s with heap:=h2}:=I1.turned (t':=s.toks) (fun b o hb e=>sb.extBut b o hb e) f0 f1 f3 f4 f5
    have fr:H s.heap.objs.size=none:=I.hok.fresh (Nat.le_refl _)
    have nit:s.heap.objs.size≠it:=(Nat.ne_of_lt (Heap.lt_size st)).symm
    have e2:h2.get? s.heap.objs.size=some {cls:=.type "tuple",data:=.seq #[key,u]}:=sb.extBut _ _ nit ht'
    have I3:Inv X pins σ (upd H s.heap.objs.size (.tup [kV kvs[i].1,kvs[i].2])) {s with heap:=h2}:=by
      have kall:∀ b v,s.heap.get? b=some v→b≠it→h2.get? b=some v:=fun b v q n=>sb.extBut b v n (kp b v n q)
      exact ⟨I2.ok,I2.os,I2.bare,⟨I2.base.keep,I2.base.slot,fun b ob q n hx=>by
          have z:=I2.base.free b ob q n hx
          by_cases y:b=s.heap.objs.size
          · exfalso
            have lt:b < s.heap.objs.size:=Nat.lt_of_lt_of_le (Heap.lt_size q) I.sz
            rw [y] at lt
            exact absurd lt (Nat.lt_irrefl _)
          · rw [upd_ne y]
            exact z,I2.base.there,fun b xs q=>by
          rw [upd_ne (ne_of_none (I2.base.tups b xs q) fr)]
          exact I2.base.tups b xs q,fun b ob v q=>by
          rw [upd_ne (ne_of_none (I2.base.frzs b ob v q) fr)]
          exact I2.base.frzs b ob v q,fun b ps q=>by
          obtain ⟨m,z⟩:=I2.base.tbls b ps q
          exact ⟨m,by rw [upd_ne (ne_of_none z fr)]; exact z⟩⟩,I2.loc,I2.cell,by
          rw [upd_ne (Nat.ne_of_lt I.lt)]
          exact I2.free,fun x c q=>by
          obtain ⟨v,y⟩:=I.cell x c q
          rw [upd_ne (Nat.ne_of_lt y.lt)]
          exact I2.freeC x c q,fun p hp=>by
          obtain ⟨h1,h2',h3⟩:=I2.pin p hp
          obtain ⟨g1,_⟩:=I.pin p hp
          refine ⟨h1,?_,h3⟩
          rw [upd_ne (Nat.ne_of_lt (Heap.lt_size g1))]
          exact h2',fun b v q=>by
          by_cases y:b=s.heap.objs.size
          · subst y
            rw [upd_same] at q
            cases q
            exact ⟨(by show 2≤sizeLine; decide),[key,u],.cons (kV_rel hk) (.cons ru .nil),_,e2,rfl,0,rfl⟩
          · rw [upd_ne y] at q
            exact (I2.hok b v q).stay (fun c v' _ z=>z) (fun c z=>by rw [upd_ne (ne_of_none z fr)]; exact z) fun c xs z=>by rw [upd_ne (ne_of_none z fr)]; exact z,I2.len⟩
    refine ⟨.ref s.heap.objs.size,_,I3,rfl,⟨_,_,rfl,fr,hkv,rfl⟩,⟨_,_,by rw [hl]; exact hit2⟩,fun b hb=>?_⟩
    have e:b=it:=by simpa using hb
    subst e
    rw [upd_ne (Ne.symm nit)]
    exact f0
  done:=by
    intro X hP hw hK hc i pins s σ H E I hf st hg
    subst hP hw hK
    obtain ⟨ok,ov,st⟩:=st
    obtain ⟨hd,hi⟩:=hg
    obtain ⟨vs,r,da⟩:=frz_at I hd
    have hl:=r.length
    obtain ⟨f0,f1,f2,f3,f4,f5⟩:=hf it (by simp)
    rw [hl] at st
    exact wpAny_pyNext_items_end (I.ok.hd hc) st da (List.getElem?_eq_none (by omega)) fun h' eb=>⟨rfl,I.turned (t':=s.toks) (fun b o hb e=>eb b o hb e) f0 f1 f3 f4 f5⟩
  self:=fun A i s Q E ⟨ok,ov,st⟩ h=>by
    have ty:s.TypeIs (.ref it) "dict_itemiterator":=⟨_,st,rfl⟩
    refine wpAny_pyIter_slot ty F.slot_dict_itemiterator_iter (wpAny_call_entry F.slot_dict_itemiterator_iter ty entry_items_iter ?_ (F.args_dict_itemiterator_iter_1 _))
    show wpAny _ _ (ret (.ref it)) _ _ s
    exact wpAny_pure ⟨_,rfl,"dict_itemiterator",_,ty,F.slot_dict_itemiterator_next.lookup,h⟩
end
section
variable {X:Cx} {o:Expr} {to:TE} {apos cpos:Pos} {elts:List Expr} {x1:Nat} {pos:Pos}
def iItems (X:Cx) (to:TE):TI:=fun σ H R=>to σ H fun x H1=>∃ d kvs,x=.ref d∧H1 d=some (.dK kvs)∧(∀ ob u,X.H₀ d≠some (.frz ob u))∧∀ od,R (Iti d od kvs) (upd H1 d (.frz od (.dK kvs)))
theorem pi_items (ho:PE X o to) (hbase:attributeBase o "items" X.env (eval o X.env)=eval o X.env:=by rfl) (hline:(apos.endLine == cpos.line)=true:=by rfl):PI X (.Tuple elts x1 pos) (.Call (.Attribute o "items" apos) [] [] cpos) (iItems X to):=by
  intro pins s σ H R I h
  refine wpAny_Call_method0_late hbase hline (thn (ho pins s σ H _ I h) fun v s1 ⟨x,H1,I1,r1,d,kvs,ex,hd,nf,q⟩=>?_)
  subst ex
  cases r1
  obtain ⟨hz,n1,ws,k1,m1⟩:=(show ObjOk X.prog X.w H1 s1.heap d (.dK kvs) from I1.hok d _ hd)
  obtain ⟨ob,_,_,g1,g2,_⟩:=id m1
  refine ⟨"dict","dict.items",PySem.F.plainAttrs_dict,PySem.F.slot_dict_items,PySem.F.type_dict_items,m1.typeIs,fun a e=>?_,Calls.callWith_builtin rfl (PySem.evalArgs_none ?_)⟩
  · cases e
    exact ⟨ob,g1,g2.2.1⟩
  refine call_meetsIn PySem.F.slot_dict_items m1.typeIs PySem.F.entry_dict_items (PySem.F.args_dict_items_1 _) (meets_dict_items (mixKind X.prog X.w) d n1) ⟨⟨ws,m1⟩,?_⟩
  have I2:Inv X pins σ H1 {s1 with heap:=s1.heap.push {cls:=.type "dict_items",data:=.fields #[.ref d]}}:=I1.kept (t':=s1.toks) fun b ob q=>Heap.get?_push_of_some _ q
  obtain ⟨od,g3,I3⟩:=I2.freeze hd nf
  obtain ⟨vs,r,da⟩:=frz_at I3 (upd_same:upd H1 d (.frz od (.dK kvs)) d=_)
  refine wpAny_pyIter_items ⟨_,Heap.get?_push_size _ rfl,rfl,rfl⟩ da ?_
  have lt:=Heap.lt_size g3
  refine ⟨_,[_],_,_,_,rfl,I3.kept (t':=s1.toks) fun b ob q=>Heap.get?_push_of_some _ q,turn_items d _ od kvs (Nat.ne_of_lt lt),⟨.none,.none,?_⟩,fun b hb=>?_,q od⟩
  · rw [r.length]
    exact Heap.get?_push_size _ rfl
  · have e:b=_:=List.mem_singleton.mp hb
    subst e
    exact I3.fpOk (Nat.le_refl _) (I3.hok.fresh (Nat.le_refl _))
end
theorem for_items {d:Addr} {od:Obj} {kvs:List (Key×V)} {g:TG} {tb:TS} {D:Ends} {σ:St} {H:Hp} (Pv:Nat→St→Hp→Prop) (h0:Pv 0 σ H) (hl:∀ i σ H,i≤kvs.length→Pv i σ H→H d=some (.frz od (.dK kvs)))
    (hs:∀ i kv t σ H,kvs[i]?=some kv→Pv i σ H→H t=none→g (.ref t) σ (upd H t (.tup [kV kv.1,kv.2])) fun σ2 H2=>tb {D with nx:=Pv (i + 1),ct:=Pv (i + 1),bk:=D.nx} σ2 H2) (hd:∀ σ H,Pv kvs.length σ H→D.nx σ H) :
    ∃ W:Nat→Nat→St→Hp→Prop,(∃ m,W 0 m σ H)∧∀ i m σ H,W i m σ H →
      ((Iti d od kvs).stop i H∧D.nx σ H)∨((Iti d od kvs).go i H∧∃ N:St→Hp→Prop,(∀ σ' H',N σ' H'→∃ m',m' < m∧W (i + 1) m' σ' H')∧∀ x H',(Iti d od kvs).yld i H x H'→g x σ H' fun σ2 H2=>tb {D with nx:=N,ct:=N,bk:=D.nx} σ2 H2):=by
  refine ⟨fun i m σ H=>m=kvs.length - i∧i≤kvs.length∧Pv i σ H,⟨kvs.length,by simp,Nat.zero_le _,h0⟩,?_⟩
  rintro i m σ H ⟨rfl,hi,p⟩
  have q:=hl i σ H hi p
  by_cases lt:i < kvs.length
  · refine .inr ⟨⟨q,lt⟩,Pv (i + 1),fun σ' H' p'=>⟨kvs.length - (i + 1),by omega,rfl,lt,p'⟩,fun x H' y=>?_⟩
    obtain ⟨t,kv,rfl,ht,hk,rfl⟩:=y
    exact hs i kv t σ H hk p ht
  · have e:i=kvs.length:=by omega
    subst e
    exact .inl ⟨⟨q,Nat.le_refl _⟩,hd σ H p⟩
def thawE (X:Cx) (D:Ends):Ends where
  nx:=fun σ H=>∃ d od kvs,H d=some (.frz od (.dK kvs))∧(∀ ob u,X.H₀ d≠some (.frz ob u))∧D.nx σ (upd H d (.dK kvs))
  rt:=D.rt
  bk:=D.bk
  ct:=D.ct
theorem ps_thaw {X:Cx} {st:Stmt} {t:TS} (h:PS X st t):PS X st (fun D σ H=>t (thawE X D) σ H):=by
  intro pins s σ H D I q
  refine thn (h pins s σ H (thawE X D) I q) fun fl s1 z=>?_
  cases fl with
  | next =>
    obtain ⟨σ',H',I',d,od,kvs,e,nf,y⟩:=z
    exact ⟨σ',_,I'.thaw e nf,y⟩
  | brk=>exact z
  | cont=>exact z
  | ret u=>exact z
end L2
namespace L2
open PySem PySem.Spec PyProof.Rows PySem.SeqAt
def BSc (x y:V) (b:Bool):Prop:=(∃ i j:Int,x=.int i∧y=.int j∧b=decide (i=j))∨∃ i j:Str,x=.str i∧y=.str j∧b=decide (i=j)
def BEq (H:Hp):Nat→V→V→Bool→Prop
  | 0,x,y,b=>BSc x y b
  | n + 1,x,y,b=>BSc x y b∨∃ p q xs ys,x=.ref p∧y=.ref q∧((H p=some (.lst xs)∧H q=some (.lst ys)∧xs.length≠ys.length∧b=false) ∨
      (((H p=some (.lst xs)∧H q=some (.lst ys))∨(H p=some (.tup xs)∧H q=some (.tup ys)))∧xs.length=ys.length∧∃ e:Nat→Bool,(∀ i x y,xs[i]?=some x→ys[i]?=some y→BEq H n x y (e i))∧b=(List.range xs.length).all e))
section
variable {P:Program} {w:World} {H:Hp} {s:Shared}
end
section
variable {X:Cx}
end
end L2
namespace L2
open PySem PySem.Spec PyProof.Rows PySem.SeqAt
def TQ (H:Hp) (n:Nat) (a b:Addr) (k:Bool):Prop:=∃ (xs ys:List V) (e:Nat→Bool),H a=some (.tup xs)∧H b=some (.tup ys)∧(∀ i x y,xs[i]?=some x→ys[i]?=some y→BEq H n x y (e i))∧k=((List.range (min xs.length ys.length)).all e && (xs.length == ys.length))
section
variable {P:Program} {w:World} {H:Hp} {s:Shared}
end
section
variable {X:Cx}
end
end L2
namespace L2
open PySem PySem.Spec PyProof.Rows
section
variable {X:Cx} {pins:List (Addr×Obj)} {σ:St} {H:Hp} {s s2:Shared} {h':Heap}
end
def Ite (K:PySem.W.Frag) (a:Addr):It:=
  ⟨fun i H=>∃ xs x,SqL K H a xs∧xs[i]?=some x,fun i H x H'=>∃ t y,x=.ref t∧H t=none∧(∀ xs,SqL K H a xs→xs[i]?=some y)∧H'=upd H t (.tup [.int i,y]),fun i H=>∃ xs,SqL K H a xs∧xs.length≤i⟩
section
variable {P:Program} {w:World} {K:PySem.W.Frag}
end
section
variable {X:Cx} {elts:List Expr} {x1:Nat} {tpos pos p:Pos}
def iEnum (K:PySem.W.Frag) (tl:TA):TI:=fun σ H R=>tl σ H fun vs H1=>∃ a,vs=[.ref a]∧(∃ xs,SqL K H1 a xs)∧R (Ite K a) H1
end
section
variable {prog:Program} {w:World} {A:Around} {E:Value→Shared→Prop} {s:Shared}
end
section
variable {X:Cx} {e:Expr} {t:TA} {p pos kp bp:Pos} {j:Nat}
def tSortR (t:TA):TE:=fun σ H Q=>t σ H fun vs H1=>∃ p xs,vs=[.ref p]∧H1 p=some (.lst xs)∧xs.length < 2∧∀ l,H1 l=none→Q (.ref l) (upd H1 l (.lst xs))
end
section
variable {X:Cx}
def tTryE (T:Addr→St→Hp→Prop) (tb:TS) (th:TH) (te:TS):TS:=fun D σ H=>tb {D with nx:=te D} σ H∧∀ C σ' H',σ'.length=σ.length→T C σ' H'→th C D σ' H'
end
abbrev freeA (A:Around):Around:={A with handled:=none}
structure FnOkH (P:Program) (w:World) (K:PySem.W.Frag) (mg:Str→Option Value) (base:Heap) (CX:CXT) (k:Nat) (f:Addr) (fd:FuncData) (ps:List Str) (sp:Sp):Prop where
  len:∀ vs H Q E,sp vs H Q E→vs.length=ps.length
  run:∀ (A:Around) (outer:List Env) (s:Shared) (H:Hp) (args:Args) (us:List Value) (vs:List V) (Q:VK) (E:XK),Room k (freeA A)→Env0 P w K mg base A outer s H→BindsTo s fd args (ps.zip us)→Vals vs us→sp vs H Q E →
    codeAny (model P w) A (.call (.ref f) args) (CR CX outer P w H s Q E) s
section
variable {X:Cx} {CX:CXT} {k:Nat} {ι:Type} {fm C:ι→Addr} {fd:ι→FuncData} {ps:List Str} {sp:ι→Sp} {E:XK} {m:Str} {pos apos:Pos} {o:Expr} {ta:TE}
def tMethXs (C:ι→Addr) (sp:ι→Sp) (E:XK) (ta:TE):TE:=fun σ H Q=>ta σ H fun x H1=>∃ a i,x=.ref a∧H1 a=some (XO a (C i))∧sp i [.ref a] H1 Q E
end
end L2
namespace L2
open PySem PySem.Spec PyProof.Rows
def Itk (d:Addr) (od:Obj) (kvs:List (Key×V)):It:=
  ⟨fun i H=>H d=some (.frz od (.dK kvs))∧i < kvs.length,fun i H x H'=>H'=H∧∃ kv,kvs[i]?=some kv∧x=kV kv.1,fun i H=>H d=some (.frz od (.dK kvs))∧kvs.length≤i⟩
section
variable {P:Program} {w:World} {K:PySem.W.Frag}
theorem turn_keys {tg:Expr} (d it:Addr) (od:Obj) (kvs:List (Key×V)):Turn P w K tg (Itk d od kvs) [it] it (fun i h=>h.IsKeyIter it d i kvs.length (epOf od)) where
  mem:=by simp
  obj:=fun i h st b hb=>by
    have e:b=it:=by simpa using hb
    subst e
    obtain ⟨o,e,c,d⟩:=st
    exact ⟨o,e,fun v z=>by rw [d] at z; cases z⟩
  keep:=fun i h h' st k=>st.at fun o e=>k it (by simp) o e
  item:=by
    intro X hP hw hK hc i pins s σ H E I hf st hg
    subst hP hw hK
    obtain ⟨hd,hi⟩:=hg
    obtain ⟨vs,r,da⟩:=frz_at I hd
    have hl:=r.length
    have hkv:kvs[i]?=some kvs[i]:=List.getElem?_eq_getElem hi
    obtain ⟨u,hu,ru⟩:=r.at_ hkv
    obtain ⟨f0,f1,f2,f3,f4,f5⟩:=hf it (by simp)
    rw [hl] at st
    refine wpAny_pyNext_dict_item st da hu fun key h' hk st' sb=>?_
    have I1:Inv X pins σ H {s with heap:=h'}:=I.turned (t':=s.toks) (fun b o hb e=>(sb.2 b hb).trans e) f0 f1 f3 f4 f5
    obtain ⟨o,e,c,dd⟩:=id st'
    exact ⟨key,rfl,go_of (s:={s with heap:=h'}) e c dd (by decide) ⟨kV kvs[i].1,H,I1,kV_rel hk,⟨rfl,_,hkv,rfl⟩,by rw [hl]; exact st',fun b hb=>(hf b hb).1⟩⟩
  done:=by
    intro X hP hw hK hc i pins s σ H E I hf st hg
    subst hP hw hK
    obtain ⟨hd,hi⟩:=hg
    obtain ⟨vs,r,da⟩:=frz_at I hd
    have hl:=r.length
    obtain ⟨f0,f1,f2,f3,f4,f5⟩:=hf it (by simp)
    rw [hl] at st
    exact wpAny_pyNext_dict_end (I.ok.hd hc) st da (List.getElem?_eq_none (by omega)) fun h' eb=>⟨rfl,I.turned (t':=s.toks) (fun b o hb e=>eb b o hb e) f0 f1 f3 f4 f5⟩
  self:=fun _ _ _ _ _ st h=>wpAny_pyIter_keyiter st h
end
section
variable {X:Cx} {o:Expr} {to:TE} {tg:Expr}
def iKeys (X:Cx) (to:TE):TI:=fun σ H R=>to σ H fun x H1=>∃ d kvs,x=.ref d∧H1 d=some (.dK kvs)∧(∀ ob u,X.H₀ d≠some (.frz ob u))∧∀ od,R (Itk d od kvs) (upd H1 d (.frz od (.dK kvs)))
theorem pi_keys (ho:PE X o to):PI X tg o (iKeys X to):=by
  intro pins s σ H R I h
  refine thn (ho pins s σ H _ I h) fun v s1 ⟨x,H1,I1,r1,d,kvs,ex,hd,nf,q⟩=>?_
  subst ex
  cases r1
  obtain ⟨hz,n1,ws,k1,m1⟩:=(show ObjOk X.prog X.w H1 s1.heap d (.dK kvs) from I1.hok d _ hd)
  obtain ⟨od,g3,I3⟩:=I1.freeze hd nf
  obtain ⟨vs,r,da⟩:=frz_at I3 (upd_same:upd H1 d (.frz od (.dK kvs)) d=_)
  refine wpAny_pyIter_dict n1 da ?_
  refine ⟨s1.heap.objs.size,[s1.heap.objs.size],_,_,_,rfl,I3.kept (t':=s1.toks) fun b ob q=>Heap.get?_push_of_some _ q,turn_keys d _ od kvs,?_,fun b hb=>?_,q od⟩
  · rw [r.length]
    exact ⟨_,Heap.get?_push_size _ rfl,rfl,rfl⟩
  · have e:b=_:=List.mem_singleton.mp hb
    subst e
    exact I3.fpOk (Nat.le_refl _) (I3.hok.fresh (Nat.le_refl _))
end
theorem for_keys {d:Addr} {od:Obj} {kvs:List (Key×V)} {g:TG} {tb:TS} {D:Ends} {σ:St} {H:Hp} (Pv:Nat→St→Hp→Prop) (h0:Pv 0 σ H) (hl:∀ i σ H,i≤kvs.length→Pv i σ H→H d=some (.frz od (.dK kvs)))
    (hs:∀ i kv σ H,kvs[i]?=some kv→Pv i σ H→g (kV kv.1) σ H fun σ2 H2=>tb {D with nx:=Pv (i + 1),ct:=Pv (i + 1),bk:=D.nx} σ2 H2) (hd:∀ σ H,Pv kvs.length σ H→D.nx σ H) :
    ∃ W:Nat→Nat→St→Hp→Prop,(∃ m,W 0 m σ H)∧∀ i m σ H,W i m σ H →
      ((Itk d od kvs).stop i H∧D.nx σ H)∨((Itk d od kvs).go i H∧∃ N:St→Hp→Prop,(∀ σ' H',N σ' H'→∃ m',m' < m∧W (i + 1) m' σ' H')∧∀ x H',(Itk d od kvs).yld i H x H'→g x σ H' fun σ2 H2=>tb {D with nx:=N,ct:=N,bk:=D.nx} σ2 H2):=by
  refine ⟨fun i m σ H=>m=kvs.length - i∧i≤kvs.length∧Pv i σ H,⟨kvs.length,by simp,Nat.zero_le _,h0⟩,?_⟩
  rintro i m σ H ⟨rfl,hi,p⟩
  have q:=hl i σ H hi p
  by_cases lt:i < kvs.length
  · refine .inr ⟨⟨q,lt⟩,Pv (i + 1),fun σ' H' p'=>⟨kvs.length - (i + 1),by omega,rfl,lt,p'⟩,fun x H' y=>?_⟩
    obtain ⟨rfl,kv,hk,rfl⟩:=y
    exact hs i kv σ H' hk p
  · have e:i=kvs.length:=by omega
    subst e
    exact .inl ⟨⟨q,Nat.le_refl _⟩,hd σ H p⟩
end L2
namespace My
open PySem L2
def top (i:Nat):Stmt:=PySem.Challenge.pw_momentloom_k11_faults_in_their_order.main.body.getD i (.Pass ⟨0,0,0,0⟩)
abbrev s_Fault_word:Stmt:=inClass (top 2) 0
abbrev s_Nought_word:Stmt:=inClass (top 3) 0
abbrev s_Great_word:Stmt:=inClass (top 4) 0
abbrev s_Full_word:Stmt:=inClass (top 5) 0
abbrev s_Dry_word:Stmt:=inClass (top 6) 0
abbrev s_Span_word:Stmt:=inClass (top 7) 0
abbrev s_Late_word:Stmt:=inClass (top 8) 0
abbrev s_worth_of:Stmt:=top 10
abbrev s_number_of_leaf:Stmt:=top 11
abbrev s_number_of_two:Stmt:=top 12
abbrev s_number_of_division:Stmt:=top 13
abbrev s_Doing_init:Stmt:=inClass (top 15) 0
abbrev s_Doing_now:Stmt:=inClass (top 15) 1
abbrev s_Doing_reckon:Stmt:=inClass (top 15) 2
abbrev s_Doing_queue_of:Stmt:=inClass (top 15) 3
abbrev s_Doing_fill:Stmt:=inClass (top 15) 4
abbrev s_done:Stmt:=top 16
abbrev s_doing_of:Stmt:=top 17
abbrev s_deeds_by_sign:Stmt:=top 18
abbrev s_writes_of:Stmt:=top 19
abbrev s_do_deeds:Stmt:=top 20
abbrev s_do_deed:Stmt:=top 21
abbrev s_do_push:Stmt:=top 22
abbrev s_do_pull:Stmt:=top 23
abbrev s_do_draw:Stmt:=top 24
abbrev s_do_send:Stmt:=top 25
abbrev s_copied:Stmt:=top 27
abbrev s_Model_init:Stmt:=inClass (top 28) 0
abbrev s_State_init:Stmt:=inClass (top 29) 0
abbrev s_State_copy:Stmt:=inClass (top 29) 1
abbrev s_law_whole:Stmt:=top 31
abbrev s_law_mixed:Stmt:=top 32
abbrev s_law_purse:Stmt:=top 33
abbrev s_law_draw:Stmt:=top 34
abbrev s_law_two:Stmt:=top 35
abbrev s_law_comes_to:Stmt:=top 36
abbrev s_law_sent:Stmt:=top 37
abbrev s_law_drawn:Stmt:=top 38
abbrev s_law_one_deed:Stmt:=top 39
abbrev s_law_copy:Stmt:=top 40
abbrev s_law_done:Stmt:=top 41
abbrev s_law_piece:Stmt:=top 42
abbrev s_law_small_deed:Stmt:=top 43
abbrev s_law_class:Stmt:=top 44
abbrev s_law:Stmt:=top 45
end My
namespace My
open PySem L2
structure Df (K:PySem.W.Frag) (mg:Str→Option Value) (x:Str) (st:Stmt) (ps:List Str) (f:Addr) (fd:FuncData):Prop where
  F:Fun K x x st f fd
  b:Binds K fd ps []
  m:mg x=some (.ref f)
structure Bl (mg:Str→Option Value):Prop where
  len:mg "len"=none
  abs:mg "abs"=none
  isi:mg "isinstance"=none
  list:mg "list"=none
  tuple:mg "tuple"=none
  str:mg "str"=none
  int:mg "int"=none
  bool:mg "bool"=none
  range:mg "range"=none
  max:mg "max"=none
  dict:mg "dict"=none
theorem boot_abs:bootBuiltins "abs"=some (.builtin "abs"):=by decide +kernel
theorem boot_isi:bootBuiltins "isinstance"=some (.builtin "isinstance"):=by decide +kernel
theorem boot_list:bootBuiltins "list"=some (.type "list"):=by decide +kernel
theorem boot_tuple:bootBuiltins "tuple"=some (.type "tuple"):=by decide +kernel
theorem boot_str:bootBuiltins "str"=some (.type "str"):=by decide +kernel
theorem boot_int:bootBuiltins "int"=some (.type "int"):=by decide +kernel
theorem boot_max:bootBuiltins "max"=some (.builtin "max"):=by decide +kernel
theorem boot_dict:bootBuiltins "dict"=some (.type "dict"):=by decide +kernel
def But (p:Addr) (H H':Hp):Prop:=∀ b o,H b=some o→b≠p→H' b=some o
theorem But.refl (p:Addr) (H:Hp):But p H H:=fun _ _ e _=>e
theorem But.trans {p:Addr} {H H1 H2:Hp} (a:But p H H1) (b:But p H1 H2):But p H H2:=fun c o e n=>b c o (a c o e n) n
theorem But.upd (p:Addr) (H:Hp) (o:HO):But p H (upd H p o):=fun b u e n=>by rw [upd_ne n]; exact e
theorem But.same {p:Addr} {H H1 H2:Hp} (a:But p H H1) (b:Same H1 H2):But p H H2:=fun c o e n=>b c o (a c o e n)
theorem same_new {H:Hp} {p:Addr} (h:H p=none) (o:HO):Same H (upd H p o):=fun b u q=>by rw [upd_ne (ne_of_none q h)]; exact q
theorem dec_t {c:Prop} [Decidable c] (h:decide c=true):c:=of_decide_eq_true h
theorem dec_f {c:Prop} [Decidable c] (h:¬ decide c=true):¬ c:=fun z=>h (decide_eq_true z)
theorem lt2:2≤sizeLine:=by decide
theorem lt5:5≤sizeLine:=by decide
end My
namespace My
open PySem L2
section
variable {P:Program} {w:World} {K:PySem.W.Frag} {mg:Str→Option Value} {base:Heap} {f fM fD:Addr} {fd fdM fdD:FuncData}
def spMixed:Sp:=fun vs H Q _=>∃ c k:Int,vs=[.int c,.int k]∧Builtin.Int.intBits c≤1048576∧∀ r:Int,Q (.int r) H
theorem small_mod (x:Int):-(2 ^ 64) < x % 2147483629∧x % 2147483629 < 2 ^ 64:=by
  have h1:=Int.emod_nonneg x (show (2147483629:Int)≠0 by decide)
  have h2:=Int.emod_lt_of_pos x (show (0:Int) < 2147483629 by decide)
  omega
theorem scM:FnScope ["_law_cell","_law_k","_law_number"] ["_law_cell","_law_k"] (defScope s_law_mixed):=⟨rfl,rfl,rfl,by decide +kernel,rfl,by decide +kernel,by decide +kernel⟩
theorem ok_mixed (D:Df K mg "_law_mixed" s_law_mixed ["_law_cell","_law_k"] f fd):FnOk P w K mg base CX0 1 f fd ["_law_cell","_law_k"] spMixed:=by
  refine D.F.ok scM (fun vs H Q E h=>?_) (fun cdv A outer s H vs Q E hr h=>?_)
  · obtain ⟨c,k,rfl,_⟩:=h
    rfl
  obtain ⟨c,k,rfl,hc,q⟩:=h
  refine ⟨_,pss_cons (ps_set (i:=2) scM.nd rfl (Or.inl rfl) (pe_op op_mod (pe_op op_mul (pe_op op_add (pe_op op_add (pe_op op_add (pe_op op_mulB (pv 0) (pv 0)) (pe_op op_mul pe_int (pv 0))) (pe_op op_mul pe_int (pv 1))) pe_int) pe_int) pe_int))
    (pss_one (ps_ret (pe_op op_mod (pe_op op_add (pe_op op_mul (pv 2) (pv 2)) pe_int) pe_int))),?_⟩
  refine ⟨_,rfl,_,rfl,_,_,rfl,rfl,.of_bits hc hc,_,rfl,_,_,rfl,rfl,.inl ⟨by decide,by decide⟩,_,_,rfl,rfl,_,rfl,_,_,rfl,rfl,.inl ⟨by decide,by decide⟩,_,_,rfl,rfl,_,_,rfl,rfl,_,_,rfl,rfl,.inr ⟨by decide,by decide⟩,_,_,rfl,rfl,(by show (0:Int) < 2147483629; decide),?_⟩
  refine ⟨_,rfl,_,rfl,_,_,rfl,rfl,.inl (small_mod _),_,_,rfl,rfl,_,_,rfl,rfl,(by show (0:Int) < 2147483587; decide),?_⟩
  exact q _
def Purse (H:Hp) (p:Addr):Prop:=∃ x y:Int,H p=some (.lst [.int x,.int y])
theorem Purse.same {H H':Hp} {p:Addr} (a:Purse H p) (b:Same H H'):Purse H' p:=by
  obtain ⟨x,y,e⟩:=a
  exact ⟨x,y,b _ _ e⟩
def spDraw:Sp:=fun vs H Q _=>∃ (p:Addr) (n:Int),vs=[.ref p,.int n]∧Purse H p∧0 < n∧n < 2 ^ 64∧∀ (r:Int) (H':Hp),0≤r→r < n→Purse H' p→But p H H'→Q (.int r) H'
theorem scD:FnScope ["_law_purse_here","_law_out_of","_law_drawn_here"] ["_law_purse_here","_law_out_of"] (defScope s_law_draw):=⟨rfl,rfl,rfl,by decide +kernel,rfl,by decide +kernel,by decide +kernel⟩
theorem ok_draw (D:Df K mg "_law_draw" s_law_draw ["_law_purse_here","_law_out_of"] f fd):FnOk P w K mg base CX0 1 f fd ["_law_purse_here","_law_out_of"] spDraw:=by
  refine D.F.ok scD (fun vs H Q E h=>?_) (fun cdv A outer s H vs Q E hr h=>?_)
  · obtain ⟨p,n,rfl,_⟩:=h
    rfl
  obtain ⟨p,n,rfl,⟨x,y,hp⟩,hn,hn2,q⟩:=h
  refine ⟨_,pss_cons (ps_if (pt_cmpR op_eq (pe_ix ix_list (pv 0) pe_int (fun _ _=>rfl)) pe_int (nomark _)) (pss_one (ps_asg (pe_ix ix_list (pv 0) pe_int (fun _ _=>rfl)) (pg_sub (pv 0) pe_int set_list))) pss_nil)
    (pss_cons (ps_set (i:=2) scD.nd rfl (Or.inl rfl) (pe_op op_mod (pe_ix ix_list (pv 0) pe_int (fun _ _=>rfl)) (pv 1)))
    (pss_cons (ps_asg (pe_op op_fdivB (pe_ix ix_list (pv 0) pe_int (fun _ _=>rfl)) (pv 1)) (pg_sub (pv 0) pe_int set_list))
    (pss_one (ps_ret (pv 2))))),?_⟩
  refine ⟨_,rfl,p,_,_,_,rfl,rfl,SqL.of hp,rfl,rfl,_,rfl,?_⟩
  refine ite2 (fun c=>?_) (fun c=>?_)
  · refine ⟨_,rfl,p,_,_,_,rfl,rfl,SqL.of hp,rfl,_,rfl,p,_,_,_,rfl,rfl,hp,rfl,?_⟩
    have hp1:upd H p (.lst [.int y,.int y]) p=some (.lst [.int y,.int y]):=upd_same
    refine ⟨_,rfl,p,_,_,_,rfl,rfl,SqL.of hp1,rfl,_,rfl,_,_,rfl,rfl,hn,?_⟩
    refine ⟨_,rfl,p,_,_,_,rfl,rfl,SqL.of hp1,rfl,_,rfl,_,_,rfl,rfl,⟨hn,hn2⟩,_,rfl,p,_,_,_,rfl,rfl,hp1,rfl,?_⟩
    refine ⟨_,rfl,?_⟩
    exact q _ _ (Int.emod_nonneg _ (by omega)) (Int.emod_lt_of_pos _ hn) ⟨_,_,upd_same⟩ ((But.upd p H _).trans (But.upd p _ _))
  · refine ⟨_,rfl,p,_,_,_,rfl,rfl,SqL.of hp,rfl,_,rfl,_,_,rfl,rfl,hn,?_⟩
    refine ⟨_,rfl,p,_,_,_,rfl,rfl,SqL.of hp,rfl,_,rfl,_,_,rfl,rfl,⟨hn,hn2⟩,_,rfl,p,_,_,_,rfl,rfl,hp,rfl,?_⟩
    refine ⟨_,rfl,?_⟩
    exact q _ _ (Int.emod_nonneg _ (by omega)) (Int.emod_lt_of_pos _ hn) ⟨_,_,upd_same⟩ (But.upd p H _)
def spPurse (K:PySem.W.Frag):Sp:=fun vs H Q _=>∃ (a:Addr) (ns:List Int),vs=[.ref a]∧SqL K H a (ns.map V.int)∧ns.length≤63∧(∀ x∈ns,Builtin.Int.intBits x≤1048576)∧∀ (p:Addr) (H':Hp),H p=none→Purse H' p→Same H H'→Q (.ref p) H'
theorem scP:FnScope ["_law_script","_law_cells","_law_number","_law_k"] ["_law_script"] (defScope s_law_purse):=⟨rfl,rfl,rfl,by decide +kernel,rfl,by decide +kernel,by decide +kernel⟩
theorem cut_mem {xs:List V} {lo hi:Option Int} {v:V} (h:v∈cutV xs lo hi):v∈xs:=by
  unfold cutV at h
  exact List.mem_of_mem_drop (List.mem_of_mem_take h)
theorem at_mod {xs:List V} (h:xs≠[]) (z:Int):∃ v,atI xs (z % (xs.length:Int))=some v∧v∈xs:=by
  have hl:0 < xs.length:=List.length_pos_iff.mpr h
  have h0:=Int.emod_nonneg z (show (xs.length:Int)≠0 by omega)
  have h1:=Int.emod_lt_of_pos z (show (0:Int) < (xs.length:Int) by omega)
  obtain ⟨j,hj⟩:∃ j:Nat,z % (xs.length:Int)=(j:Int):=⟨(z % (xs.length:Int)).toNat,by omega⟩
  rw [hj] at h1 ⊢
  have hj2:j < xs.length:=by omega
  exact ⟨xs[j],atI_nat (List.getElem?_eq_getElem hj2),List.getElem_mem hj2⟩
theorem ok_purse (D:Df K mg "_law_purse" s_law_purse ["_law_script"] f fd) (DM:Df K mg "_law_mixed" s_law_mixed ["_law_cell","_law_k"] fM fdM) (B:Bl mg):FnOk P w K mg base CX0 2 f fd ["_law_script"] (spPurse K):=by
  have GM:FnOk P w K mg base CX0 1 fM fdM ["_law_cell","_law_k"] spMixed:=ok_mixed DM
  refine D.F.ok scP (fun vs H Q E h=>?_) (fun cdv A outer s H vs Q E hr h=>?_)
  · obtain ⟨a,ns,rfl,_⟩:=h
    rfl
  obtain ⟨a,ns,rfl,hS,hlen,hbits,q⟩:=h
  refine ⟨_,pss_cons (ps_set (i:=1) scP.nd rfl (Or.inl rfl) (pe_op op_cat (pe_slice sl_list (pv 0) po_none (po_some pe_int)) (pe_lst (pa_cons pe_int pa_nil))))
    (pss_cons (ps_set (i:=2) scP.nd rfl (Or.inl rfl) pe_int)
    (pss_cons (ps_for PassesOwn.never rfl (pi_range1 rfl B.range (pa_cons pe_int pa_nil)) (pg_name (i:=3) scP.nd rfl (Or.inl rfl))
      (pss_one (ps_set (i:=2) scP.nd rfl (Or.inl rfl) (pe_op op_add (pe_op op_mul (pv 2) pe_int) (pe_call GM hr rfl DM.m DM.F.kp DM.b .nil pass0 (pa_cons (pe_ix ix_list (pv 1) (pe_op op_mod (pv 3) (pe_callB call_len_seq (by rfl) B.len PySem.boot_len (pa_cons (pv 1) pa_nil))) (fun _ _=>rfl)) (pa_cons (pv 3) pa_nil)))))))
    (pss_cons (ps_if (pt_cmpR op_eq (pe_op op_mod (pe_ix ix_list (pv 1) pe_int (fun _ _=>rfl)) pe_int) pe_int (nomark _))
      (pss_one (ps_ret (pe_lst (pa_cons (pe_callB (call_max2 rfl) (by rfl) B.max boot_max (pa_cons (pe_op op_fdivB (pe_ix ix_list (pv 1) pe_int (fun _ _=>rfl)) pe_int) (pa_cons (pe_op op_sub (pe_un un_neg pe_int) (pe_op op_fdivB (pe_ix ix_list (pv 1) pe_int (fun _ _=>rfl)) pe_int)) pa_nil))) (pa_cons (pv 2) pa_nil))))) pss_nil)
    (pss_one (ps_ret (pe_lst (pa_cons (pv 2) (pa_cons (pv 2) pa_nil)))))))),?_⟩
  -- cells = script[:63] + [0]
  refine ⟨_,rfl,_,rfl,a,_,rfl,hS,fun l hl=>⟨(by show 1≤sizeLine; decide),fun m hm=>?_⟩⟩
  have hlm:l≠m:=ne_of_none (upd_same:upd H l (.lst (cutV (ns.map V.int) none (some 63))) l=_) hm
  have cl:(cutV (ns.map V.int) none (some 63)).length≤63:=Nat.le_trans (cutV_length _ _ _) (by rw [List.length_map]; exact hlen)
  have l64:(cutV (ns.map V.int) none (some 63)).length + [V.int 0].length≤sizeLine:=by
    have z:64≤sizeLine:=by decide
    rw [List.length_singleton]
    omega
  refine ⟨l,m,_,_,rfl,rfl,(by rw [upd_ne hlm]; exact upd_same),upd_same,l64,fun c hc=>?_⟩
  generalize hcs:cutV (ns.map V.int) none (some 63)++[V.int 0]=cs at hc ⊢
  have sc:Same H (upd (upd (upd H l (.lst (cutV (ns.map V.int) none (some 63)))) m (.lst [.int 0])) c (.lst cs)):=(same_new hl _).trans ((same_new hm _).trans (same_new hc _))
  generalize hH:upd (upd (upd H l (.lst (cutV (ns.map V.int) none (some 63)))) m (.lst [.int 0])) c (.lst cs)=H1 at sc ⊢
  have hc1:H1 c=some (.lst cs):=by rw [← hH]; exact upd_same
  have nonil:cs≠[]:=by rw [← hcs]; simp
  have cells:∀ v∈cs,∃ z:Int,v=.int z∧Builtin.Int.intBits z≤1048576:=fun v hv=>by
    rw [← hcs] at hv
    rcases List.mem_append.mp hv with z | z
    · obtain ⟨n,hn,rfl⟩:=List.mem_map.mp (cut_mem z)
      exact ⟨n,rfl,hbits n hn⟩
    · rw [List.mem_singleton.mp z]
      exact ⟨0,rfl,by decide⟩
  -- number = 1; for k in range(150)
  refine ⟨150,rfl,by decide,by decide,for_range (n:=150) (fun i σ H2=>∃ (z:Int) (v:Option V),σ=[some (.ref a),some (.ref c),some (.int z),v]∧H2=H1) ⟨1,none,rfl,rfl⟩ ?_ ?_⟩
  · rintro i σ H2 hi ⟨z,v,rfl,rfl⟩
    obtain ⟨u,hu,hm2⟩:=at_mod nonil (0 + (i:Int))
    obtain ⟨y,rfl,hy⟩:=cells u hm2
    have lpos:(0:Int) < (cs.length:Int):=by
      have:=List.length_pos_iff.mpr nonil
      omega
    refine ⟨_,rfl,_,_,rfl,rfl,.inr ⟨by decide,by decide⟩,_,rfl,_,rfl,_,rfl,c,_,rfl,.inl (SqL.of hc1),_,_,rfl,rfl,lpos,c,_,_,_,rfl,rfl,SqL.of hc1,hu,_,rfl,y,_,rfl,hy,fun r=>?_⟩
    exact ⟨_,_,rfl,rfl,_,_,rfl,rfl⟩
  · rintro σ H2 ⟨z,v,rfl,rfl⟩
    obtain ⟨x0,hx0⟩:∃ x0,cs[0]?=some x0:=by
      cases cs with
      | nil=>exact absurd rfl nonil
      | cons x0 r=>exact ⟨x0,rfl⟩
    obtain ⟨y,rfl,hy⟩:=cells x0 (List.mem_of_getElem? hx0)
    have a0:atI cs 0=some (.int y):=atI_nat (j:=0) hx0
    refine ⟨_,rfl,c,_,_,_,rfl,rfl,SqL.of hc1,a0,_,_,rfl,rfl,(by show (0:Int) < 2; decide),rfl,_,rfl,?_⟩
    have two:CDivB y 2:=⟨by decide,by decide⟩
    refine ite2 (fun _=>?_) (fun _=>?_)
    · refine ⟨_,rfl,c,_,_,_,rfl,rfl,SqL.of hc1,a0,_,_,rfl,rfl,two,_,rfl,_,rfl,c,_,_,_,rfl,rfl,SqL.of hc1,a0,_,_,rfl,rfl,two,_,_,rfl,rfl,_,_,rfl,_,rfl,lt2,fun p hp=>?_⟩
      exact q p _ (sc.free hp) ⟨_,_,upd_same⟩ (sc.trans (same_new hp _))
    · refine ⟨_,rfl,_,rfl,lt2,fun p hp=>?_⟩
      exact q p _ (sc.free hp) ⟨_,_,upd_same⟩ (sc.trans (same_new hp _))
end
end My
namespace My
open PySem L2
def isSc:V→Prop
  | .int _=>True
  | .str _=>True
  | _=>False
def Tree (H:Hp):Nat→V→Prop
  | 0,v=>isSc v
  | n + 1,v=>isSc v∨∃ p xs,v=.ref p∧(H p=some (.lst xs)∨H p=some (.tup xs))∧xs.length < 1000∧∀ x∈xs,Tree H n x
def Alike (H H':Hp):Nat→V→V→Prop
  | 0,v,v'=>v'=v
  | n + 1,v,v'=>(isSc v∧v'=v)∨(∃ p p' xs ys,v=.ref p∧v'=.ref p'∧H p=some (.lst xs)∧H' p'=some (.lst ys)∧Paired (Alike H H' n) xs ys) ∨
      ∃ p p' xs ys,v=.ref p∧v'=.ref p'∧H p=some (.tup xs)∧H' p'=some (.tup ys)∧Paired (Alike H H' n) xs ys
theorem Alike.mono {H H1 H2:Hp} (s:Same H1 H2):∀ {n:Nat} {v v':V},Alike H H1 n v v'→Alike H H2 n v v'
  | 0,_,_,h=>h
  | n + 1,v,v',h=>by
    rcases h with h | ⟨p,p',xs,ys,e1,e2,h1,h2,r⟩ | ⟨p,p',xs,ys,e1,e2,h1,h2,r⟩
    · exact .inl h
    · exact .inr (.inl ⟨p,p',xs,ys,e1,e2,h1,s _ _ h2,L2.Paired.imp' (fun _ _ z=>Alike.mono s z) r⟩)
    · exact .inr (.inr ⟨p,p',xs,ys,e1,e2,h1,s _ _ h2,L2.Paired.imp' (fun _ _ z=>Alike.mono s z) r⟩)
theorem Tree.same {H H1:Hp} (s:Same H H1):∀ {n:Nat} {v:V},Tree H n v→Tree H1 n v
  | 0,_,h=>h
  | n + 1,v,h=>by
    rcases h with h | ⟨p,xs,e,h1,h2,h3⟩
    · exact .inl h
    · exact .inr ⟨p,xs,e,h1.imp (s _ _) (s _ _),h2,fun x hx=>Tree.same s (h3 x hx)⟩
theorem Alike.from {H H0 H1:Hp} (s:Same H H0):∀ {n:Nat} {v v':V},Tree H n v→Alike H0 H1 n v v'→Alike H H1 n v v'
  | 0,_,_,_,h=>h
  | n + 1,v,v',t,h=>by
    rcases t with t | ⟨q,zs,e,t1,t2,t3⟩
    · rcases h with h | ⟨p,p',xs,ys,e1,e2,h1,h2,r⟩ | ⟨p,p',xs,ys,e1,e2,h1,h2,r⟩
      · exact .inl h
      · rw [e1] at t
        exact t.elim
      · rw [e1] at t
        exact t.elim
    · rcases h with h | ⟨p,p',xs,ys,e1,e2,h1,h2,r⟩ | ⟨p,p',xs,ys,e1,e2,h1,h2,r⟩
      · exact .inl h
      · rw [e] at e1
        cases e1
        rcases t1 with t1 | t1
        · have z:=s _ _ t1
          rw [h1] at z
          cases z
          refine .inr (.inl ⟨q,p',zs,ys,e,e2,t1,h2,?_⟩)
          clear h1 t1 t2 h2
          induction r with
          | nil=>exact .nil
          | cons a b ih=>exact .cons (Alike.from s (t3 _ List.mem_cons_self) a) (ih fun x hx=>t3 x (List.mem_cons_of_mem _ hx))
        · have z:=s _ _ t1
          rw [h1] at z
          cases z
      · rw [e] at e1
        cases e1
        rcases t1 with t1 | t1
        · have z:=s _ _ t1
          rw [h1] at z
          cases z
        · have z:=s _ _ t1
          rw [h1] at z
          cases z
          refine .inr (.inr ⟨q,p',zs,ys,e,e2,t1,h2,?_⟩)
          clear h1 t1 t2 h2
          induction r with
          | nil=>exact .nil
          | cons a b ih=>exact .cons (Alike.from s (t3 _ List.mem_cons_self) a) (ih fun x hx=>t3 x (List.mem_cons_of_mem _ hx))
theorem kit_is {K:PySem.W.Frag}:PySem.W.kitOne K (.type "int") (.type "str")=some false:=by kernel_rfl
theorem kit_ss {K:PySem.W.Frag}:PySem.W.kitOne K (.type "str") (.type "str")=some true:=by rfl
theorem kit_il {K:PySem.W.Frag}:PySem.W.kitOne K (.type "int") (.type "list")=some false:=by kernel_rfl
theorem kit_sl {K:PySem.W.Frag}:PySem.W.kitOne K (.type "str") (.type "list")=some false:=by kernel_rfl
theorem kit_it {K:PySem.W.Frag}:PySem.W.kitOne K (.type "int") (.type "tuple")=some false:=by kernel_rfl
theorem kit_st {K:PySem.W.Frag}:PySem.W.kitOne K (.type "str") (.type "tuple")=some false:=by kernel_rfl
theorem kit_ll {K:PySem.W.Frag}:PySem.W.kitOne K (.type "list") (.type "list")=some true:=by rfl
theorem kit_tl {K:PySem.W.Frag}:PySem.W.kitOne K (.type "tuple") (.type "list")=some false:=by kernel_rfl
theorem kit_tt {K:PySem.W.Frag}:PySem.W.kitOne K (.type "tuple") (.type "tuple")=some true:=by rfl
section
variable {P:Program} {w:World} {K:PySem.W.Frag} {mg:Str→Option Value} {base:Heap} {f fC fI CM CS:Addr} {fd fdC fdI:FuncData}
def spCopied (n:Nat):Sp:=fun vs H Q _=>∃ v,vs=[v]∧Tree H n v∧∀ (v':V) (H':Hp),Same H H'→Alike H H' n v v'→Q v' H'
theorem scC:FnScope ["thing"] ["thing"] (defScope s_copied):=⟨rfl,rfl,rfl,by decide +kernel,rfl,by decide +kernel,by decide +kernel⟩
theorem nd_part:(["part","thing"]:List Str).Nodup:=by decide +kernel
theorem pair_snoc {α β:Type} {R:α→β→Prop} {xs:List α} {ys:List β} {i:Nat} {x:α} {y:β} (r:Paired R (xs.take i) ys) (hx:xs[i]?=some x) (h:R x y):Paired R (xs.take (i + 1)) (ys++[y]):=by
  have e:xs.take (i + 1)=xs.take i++[x]:=by rw [List.take_add_one,hx]; rfl
  rw [e]
  exact Paired.snoc r h
theorem copied_step {n:Nat} (D:Df K mg "copied" s_copied ["thing"] f fd) (B:Bl mg) (G:FnOk P w K mg base CX0 (n + 1) f fd ["thing"] (spCopied n)):FnOk P w K mg base CX0 (n + 2) f fd ["thing"] (spCopied (n + 1)):=by
  refine D.F.ok scC (fun vs H Q E h=>?_) (fun cdv A outer s H vs Q E hr h=>?_)
  · obtain ⟨v,rfl,_⟩:=h
    rfl
  obtain ⟨v,rfl,ht,q⟩:=h
  refine ⟨_,pss_cons (ps_if (pt_val (pe_callB call_isinst (by rfl) B.isi boot_isi (pa_cons (pv 0) (pa_cons (pe_bltn (v:=.ty "list") (by rfl) B.list boot_list rfl) pa_nil))))
      (pss_one (ps_ret (pe_comp ["part"] (CompOk.closed (by decide +kernel) (by decide +kernel) rfl (by decide +kernel) (by intro n hn; rcases List.mem_singleton.mp hn with rfl; decide +kernel)) rfl (pi_list (pv 0)) (fun _ _ _ _=>pg_name (i:=0) nd_part rfl (Or.inl rfl)) (fun _ _ _ _=>pts_nil)
        (fun _ _ _ _=>pe_call G hr rfl D.m D.F.kp D.b .nil pass0 (pa_cons (pv 0) pa_nil))))) pss_nil)
    (pss_cons (ps_if (pt_val (pe_callB call_isinst (by rfl) B.isi boot_isi (pa_cons (pv 0) (pa_cons (pe_bltn (v:=.ty "tuple") (by rfl) B.tuple boot_tuple rfl) pa_nil))))
      (pss_one (ps_ret (pe_callTy call_tuple_of (by rfl) B.tuple boot_tuple (pa_cons (pe_comp ["part"] (CompOk.closed (by decide +kernel) (by decide +kernel) rfl (by decide +kernel) (by intro n hn; rcases List.mem_singleton.mp hn with rfl; decide +kernel)) rfl (pi_tup (pv 0)) (fun _ _ _ _=>pg_name (i:=0) nd_part rfl (Or.inl rfl)) (fun _ _ _ _=>pts_nil)
        (fun _ _ _ _=>pe_call G hr rfl D.m D.F.kp D.b .nil pass0 (pa_cons (pv 0) pa_nil))) pa_nil)))) pss_nil)
    (pss_one (ps_ret (pv 0)))),?_⟩
  have big:1000 < sizeLine:=by decide
  rcases ht with ht | ⟨p,xs,rfl,hp,hl,hx⟩
  · cases v with
    | int i =>
      refine ⟨_,rfl,_,"list",_,false,rfl,.int i,kit_il,_,rfl,iteF ?_⟩
      refine ⟨_,rfl,_,"tuple",_,false,rfl,.int i,kit_it,_,rfl,iteF ?_⟩
      exact ⟨_,rfl,q _ _ (Same.refl H) (.inl ⟨trivial,rfl⟩)⟩
    | str x =>
      refine ⟨_,rfl,_,"list",_,false,rfl,.str x,kit_sl,_,rfl,iteF ?_⟩
      refine ⟨_,rfl,_,"tuple",_,false,rfl,.str x,kit_st,_,rfl,iteF ?_⟩
      exact ⟨_,rfl,q _ _ (Same.refl H) (.inl ⟨trivial,rfl⟩)⟩
    | non=>exact ht.elim
    | bl b=>exact ht.elim
    | byt b=>exact ht.elim
    | flt b=>exact ht.elim
    | ref a=>exact ht.elim
    | ty a=>exact ht.elim
  · rcases hp with hp | hp
    · refine ⟨_,rfl,_,"list",_,true,rfl,.lst hp,kit_ll,_,rfl,iteT ?_⟩
      refine ⟨_,rfl,p,rfl,⟨_,SqL.of hp⟩,comp_list (K:=K) (a:=p) (xs:=xs) (fun i ys H1=>i≤xs.length∧ys.length=i∧Same H H1∧Paired (Alike H H1 n) (xs.take i) ys) ⟨Nat.zero_le _,rfl,Same.refl H,.nil⟩ ?_ ?_ ?_⟩
      · rintro i ys H1 hi ⟨_,h1,h2,_⟩
        exact ⟨SqL.of (h2 _ _ hp),by omega⟩
      · rintro i x ys H1 hi ⟨h0,h1,h2,h3⟩
        have hm:x∈xs:=List.mem_of_getElem? hi
        have lt:i < xs.length:=(List.getElem?_eq_some_iff.mp hi).1
        refine ⟨rfl,?_⟩
        unfold tAll
        refine iteT ?_
        refine ⟨_,rfl,x,rfl,Tree.same h2 (hx x hm),fun v' H2 s2 al=>?_⟩
        exact ⟨lt,by rw [List.length_append,h1]; rfl,h2.trans s2,pair_snoc (L2.Paired.imp' (fun _ _ z=>Alike.mono s2 z) h3) hi (Alike.from h2 (hx x hm) al)⟩
      · rintro ys H1 ⟨_,h1,h2,h3⟩ l hl'
        rw [List.take_length] at h3
        refine q _ _ (h2.trans (same_new hl' _)) (.inr (.inl ⟨p,l,xs,ys,rfl,rfl,hp,upd_same,L2.Paired.imp' (fun _ _ z=>Alike.mono (same_new hl' _) z) h3⟩))
    · refine ⟨_,rfl,_,"list",_,false,rfl,.tup hp,kit_tl,_,rfl,iteF ?_⟩
      refine ⟨_,rfl,_,"tuple",_,true,rfl,.tup hp,kit_tt,_,rfl,iteT ?_⟩
      refine ⟨_,rfl,p,rfl,⟨_,SqT.of hp⟩,comp_tup (K:=K) (a:=p) (xs:=xs) (Q:=fun v H1=>∃ z ys,[v]=[V.ref z]∧((SqL K H1 z ys∧∀ l,H1 l=none→Q (.ref l) (upd H1 l (.tup ys)))∨(SqT K H1 z ys∧Q (.ref z) H1))) (fun i ys H1=>i≤xs.length∧ys.length=i∧Same H H1∧Paired (Alike H H1 n) (xs.take i) ys) ⟨Nat.zero_le _,rfl,Same.refl H,.nil⟩ ?_ ?_ ?_⟩
      · rintro i ys H1 hi ⟨_,h1,h2,_⟩
        exact ⟨SqT.of (h2 _ _ hp),by omega⟩
      · rintro i x ys H1 hi ⟨h0,h1,h2,h3⟩
        have hm:x∈xs:=List.mem_of_getElem? hi
        have lt:i < xs.length:=(List.getElem?_eq_some_iff.mp hi).1
        refine ⟨rfl,?_⟩
        unfold tAll
        refine iteT ?_
        refine ⟨_,rfl,x,rfl,Tree.same h2 (hx x hm),fun v' H2 s2 al=>?_⟩
        exact ⟨lt,by rw [List.length_append,h1]; rfl,h2.trans s2,pair_snoc (L2.Paired.imp' (fun _ _ z=>Alike.mono s2 z) h3) hi (Alike.from h2 (hx x hm) al)⟩
      · rintro ys H1 ⟨_,h1,h2,h3⟩ l hl'
        rw [List.take_length] at h3
        refine ⟨l,ys,rfl,.inl ⟨SqL.of upd_same,fun t ht=>?_⟩⟩
        have s3:Same H1 (upd (upd H1 l (.lst ys)) t (.tup ys)):=(same_new hl' _).trans (same_new ht _)
        exact q _ _ (h2.trans s3) (.inr (.inr ⟨p,t,xs,ys,rfl,rfl,hp,upd_same,L2.Paired.imp' (fun _ _ z=>Alike.mono s3 z) h3⟩))
theorem copied_zero (D:Df K mg "copied" s_copied ["thing"] f fd) (B:Bl mg):FnOk P w K mg base CX0 1 f fd ["thing"] (spCopied 0):=by
  refine D.F.ok scC (fun vs H Q E h=>?_) (fun cdv A outer s H vs Q E hr h=>?_)
  · obtain ⟨v,rfl,_⟩:=h
    rfl
  obtain ⟨v,rfl,ht,q⟩:=h
  refine ⟨_,pss_cons (ps_if (pt_val (pe_callB call_isinst (by rfl) B.isi boot_isi (pa_cons (pv 0) (pa_cons (pe_bltn (v:=.ty "list") (by rfl) B.list boot_list rfl) pa_nil)))) pss_never pss_nil)
    (pss_cons (ps_if (pt_val (pe_callB call_isinst (by rfl) B.isi boot_isi (pa_cons (pv 0) (pa_cons (pe_bltn (v:=.ty "tuple") (by rfl) B.tuple boot_tuple rfl) pa_nil)))) pss_never pss_nil)
    (pss_one (ps_ret (pv 0)))),?_⟩
  have ht:isSc v:=ht
  cases v with
  | int i =>
    refine ⟨_,rfl,_,"list",_,false,rfl,.int i,kit_il,_,rfl,iteF ?_⟩
    refine ⟨_,rfl,_,"tuple",_,false,rfl,.int i,kit_it,_,rfl,iteF ?_⟩
    exact ⟨_,rfl,q _ _ (Same.refl H) rfl⟩
  | str x =>
    refine ⟨_,rfl,_,"list",_,false,rfl,.str x,kit_sl,_,rfl,iteF ?_⟩
    refine ⟨_,rfl,_,"tuple",_,false,rfl,.str x,kit_st,_,rfl,iteF ?_⟩
    exact ⟨_,rfl,q _ _ (Same.refl H) rfl⟩
  | non=>exact ht.elim
  | bl b=>exact ht.elim
  | byt b=>exact ht.elim
  | flt b=>exact ht.elim
  | ref a=>exact ht.elim
  | ty a=>exact ht.elim
theorem ok_copied (D:Df K mg "copied" s_copied ["thing"] f fd) (B:Bl mg):∀ n:Nat,FnOk P w K mg base CX0 (n + 1) f fd ["thing"] (spCopied n)
  | 0=>copied_zero D B
  | n + 1=>copied_step D B (ok_copied D B n)
structure MdT (K:PySem.W.Frag) (mg:Str→Option Value) (CM CS:Addr):Prop where
  clM:Cls K CM
  clS:Cls K CS
  nM:NoAttr K CM "machines"
  nB:NoAttr K CS "boxes"
  nQ:NoAttr K CS "queues"
  nD:NoAttr K CS "drawn"
  nS:NoAttr K CS "sent"
  mM:mg "Model"=some (.ref CM)
  mS:mg "State"=some (.ref CS)
def spMI (CM:Addr) (n:Nat):Sp:=fun vs H Q _=>∃ (m dx:Addr) (v:V),vs=[.ref m,v]∧H m=some (.ins CM dx [])∧Tree H n v∧∀ (v':V) (H':Hp),Same H H'→Alike H H' n v v'→Q .non (upd H' m (.ins CM dx (putF "machines" v' [])))
theorem scMI:FnScope ["self","machines"] ["self","machines"] (defScope s_Model_init):=⟨rfl,rfl,rfl,by decide +kernel,rfl,by decide +kernel,by decide +kernel⟩
theorem ok_MI {n:Nat} (F:Fun K "__init__" "Model.__init__" s_Model_init f fd) (DC:Df K mg "copied" s_copied ["thing"] fC fdC) (B:Bl mg) (T:MdT K mg CM CS):FnOk P w K mg base CX0 (n + 2) f fd ["self","machines"] (spMI CM n):=by
  have GC:FnOk P w K mg base CX0 (n + 1) fC fdC ["thing"] (spCopied n):=ok_copied DC B n
  refine F.ok scMI (fun vs H Q E h=>?_) (fun cdv A outer s H vs Q E hr h=>?_)
  · obtain ⟨m,dx,v,rfl,_⟩:=h
    rfl
  obtain ⟨m,dx,v,rfl,hm,ht,q⟩:=h
  refine ⟨_,pss_one (ps_fld (pv 0) (pe_call GC hr rfl DC.m DC.F.kp DC.b .nil pass0 (pa_cons (pv 1) pa_nil)) rfl),?_⟩
  refine ⟨_,rfl,v,rfl,ht,fun v' H' s1 al=>?_⟩
  exact ⟨_,rfl,m,CM,dx,[],rfl,s1 _ _ hm,T.clM,T.nM,(by show 0 < 1000; decide),q v' H' s1 al⟩
def stFs (b q d e:V):List (Str×V):=putF "sent" e (putF "drawn" d (putF "queues" q (putF "boxes" b [])))
def spSI (CS:Addr):Sp:=fun vs H Q _=>∃ (m dx:Addr) (b q d e:V),vs=[.ref m,b,q,d,e]∧H m=some (.ins CS dx [])∧∀ H':Hp,H' m=some (.ins CS dx (stFs b q d e))→But m H H'→Q .non H'
theorem scSI:FnScope ["self","boxes","queues","drawn","sent"] ["self","boxes","queues","drawn","sent"] (defScope s_State_init):=⟨rfl,rfl,rfl,by decide +kernel,rfl,by decide +kernel,by decide +kernel⟩
theorem putF_le (f:Str) (v:V) (fs:List (Str×V)):(putF f v fs).length≤fs.length + 1:=by
  induction fs with
  | nil=>exact Nat.le_refl _
  | cons p r ih =>
    unfold putF
    split
    · rw [List.length_cons,List.length_cons]
      omega
    · rw [List.length_cons,List.length_cons]
      omega
theorem ok_SI (F:Fun K "__init__" "State.__init__" s_State_init f fd) (T:MdT K mg CM CS):FnOk P w K mg base CX0 1 f fd ["self","boxes","queues","drawn","sent"] (spSI CS):=by
  refine F.ok scSI (fun vs H Q E h=>?_) (fun cdv A outer s H vs Q E hr h=>?_)
  · obtain ⟨m,dx,b,q,d,e,rfl,_⟩:=h
    rfl
  obtain ⟨m,dx,b,q,d,e,rfl,hm,k⟩:=h
  refine ⟨_,pss_cons (ps_fld (pv 0) (pv 1) rfl) (pss_cons (ps_fld (pv 0) (pv 2) rfl) (pss_cons (ps_fld (pv 0) (pv 3) rfl) (pss_one (ps_fld (pv 0) (pv 4) rfl)))),?_⟩
  have l1:=putF_le "boxes" b []
  have l2:=putF_le "queues" q (putF "boxes" b [])
  have l3:=putF_le "drawn" d (putF "queues" q (putF "boxes" b []))
  simp only [List.length_nil] at l1
  refine ⟨_,rfl,_,rfl,m,CS,dx,[],rfl,hm,T.clS,T.nB,(by show 0 < 1000; decide),_,rfl,_,rfl,m,CS,dx,_,rfl,upd_same,T.clS,T.nQ,(by omega),_,rfl,_,rfl,m,CS,dx,_,rfl,upd_same,T.clS,T.nD,(by omega),_,rfl,_,rfl,m,CS,dx,_,rfl,upd_same,T.clS,T.nS,(by omega),?_⟩
  exact k _ upd_same (((But.upd m H _).trans (But.upd m _ _)).trans ((But.upd m _ _).trans (But.upd m _ _)))
def spFirst (CM:Addr):Sp:=fun vs H Q _=>∃ (m dx l t b q:Addr) (fs:List (Str×V)) (n0 x3 x4:V),vs=[.ref m,.int 0]∧H m=some (.ins CM dx fs)∧fs.lookup ("machines":Str)=some (V.ref l)∧H l=some (.lst [.ref t])∧H t=some (.tup [n0,.ref b,.ref q,x3,x4]) ∧
  H b=some (.lst [])∧H q=some (.lst [])∧∀ (st:Addr) (H':Hp),Same H H'→Q (.ref st) H'
end
end My
namespace My
open PySem L2
section
variable {κ:Type} [DecidableEq κ]
abbrev tabOf (ps:List (κ×V)) (m:List (κ×V)):List (κ×V):=ps.foldl (fun m p=>putK m p.1 p.2) m
end
theorem alike_lst {H H':Hp} {n:Nat} {a:Addr} {xs:List V} {y:V} (ha:H a=some (.lst xs)) (z:Alike H H' (n + 1) (.ref a) y):∃ (a':Addr) (ys:List V),y=.ref a'∧H' a'=some (.lst ys)∧Paired (Alike H H' n) xs ys:=by
  rcases z with ⟨z,_⟩ | ⟨p,p',xs',ys,e1,e2,h1,h2,r⟩ | ⟨p,p',xs',ys,e1,e2,h1,h2,r⟩
  · exact z.elim
  · cases e1
    rw [ha] at h1
    cases h1
    exact ⟨p',ys,e2,h2,r⟩
  · cases e1
    rw [ha] at h1
    cases h1
theorem alike_tup {H H':Hp} {n:Nat} {a:Addr} {xs:List V} {y:V} (ha:H a=some (.tup xs)) (z:Alike H H' (n + 1) (.ref a) y):∃ (a':Addr) (ys:List V),y=.ref a'∧H' a'=some (.tup ys)∧Paired (Alike H H' n) xs ys:=by
  rcases z with ⟨z,_⟩ | ⟨p,p',xs',ys,e1,e2,h1,h2,r⟩ | ⟨p,p',xs',ys,e1,e2,h1,h2,r⟩
  · exact z.elim
  · cases e1
    rw [ha] at h1
    cases h1
  · cases e1
    rw [ha] at h1
    cases h1
    exact ⟨p',ys,e2,h2,r⟩
theorem alike_sc {H H':Hp} {n:Nat} {v y:V} (hv:isSc v) (z:Alike H H' n v y):y=v:=by
  cases n with
  | zero=>exact z
  | succ n =>
    rcases z with ⟨_,z⟩ | ⟨p,p',xs',ys,e1,e2,h1,h2,r⟩ | ⟨p,p',xs',ys,e1,e2,h1,h2,r⟩
    · exact z
    · rw [e1] at hv
      exact hv.elim
    · rw [e1] at hv
      exact hv.elim
theorem alike_scs {H H':Hp} {n:Nat} {xs ys:List V} (r:Paired (Alike H H' n) xs ys):(∀ x∈xs,isSc x)→ys=xs:=by
  induction r with
  | nil=>exact fun _=>rfl
  | cons a b ih =>
    intro h
    rw [alike_sc (h _ List.mem_cons_self) a,ih fun x hx=>h x (List.mem_cons_of_mem _ hx)]
def Boxes (H:Hp) (ps:List (Str×Int)) (vs:List V):Prop:=PairsIn H (ps.map fun p=>(Sum.inr p.1,V.int p.2)) vs
section
variable {P:Program} {w:World} {K:PySem.W.Frag} {mg:Str→Option Value} {base:Heap} {f fI CM CS:Addr} {fd fdI:FuncData}
abbrev boxT (ps:List (Str×Int)):List (Key×V):=tabOf (ps.map fun p=>((Sum.inr p.1:Key),V.int p.2)) []
abbrev quT (qs:List Str) (ls:List Addr):List (Key×V):=tabOf ((qs.zip ls).map fun p=>((Sum.inr p.1:Key),V.ref p.2)) []
structure New (H H':Hp) (CS st:Addr) (ps:List (Str×Int)) (qs:List Str) (dx bd qd:Addr) (ls:List Addr):Prop where
  hst:H' st=some (.ins CS dx (stFs (.ref bd) (.ref qd) (.int 0) (.int 0)))
  hbd:H' bd=some (.dK (boxT ps))
  hqd:H' qd=some (.dK (quT qs ls))
  len:ls.length=qs.length
  nd:ls.Nodup
  li:∀ l∈ls,H l=none∧H' l=some (.lst [])
  ost:H st=none
  obd:H bd=none
  oqd:H qd=none
  ne:qd≠bd
  same:Same H H'
def spFirst2 (CM CS:Addr):Sp:=fun vs H Q _=>∃ (m dx l t b q:Addr) (fs:List (Str×V)) (n0 x3 x4:V) (i:Nat) (ms vb:List V) (ps:List (Str×Int)) (qs:List Str),vs=[.ref m,.int (i:Int)]∧H m=some (.ins CM dx fs)∧fs.lookup ("machines":Str)=some (V.ref l) ∧
  H l=some (.lst ms)∧ms[i]?=some (.ref t)∧H t=some (.tup [n0,.ref b,.ref q,x3,x4])∧H b=some (.lst vb)∧Boxes H ps vb∧ps.length≤100∧H q=some (.lst (qs.map V.str))∧qs.length≤100 ∧
  ∀ (st dx bd qd:Addr) (ls:List Addr) (H':Hp),New H H' CS st ps qs dx bd qd ls→Q (.ref st) H'
end
end My
namespace My
open PySem L2
section
variable {P:Program} {w:World} {K:PySem.W.Frag} {mg:Str→Option Value} {base:Heap} {f:Addr} {fd:FuncData}
def spWhole:Sp:=fun vs H Q _=>∃ n:Int,vs=[.int n]∧Q (.bl true) H
end
end My
namespace My
open PySem L2
section
variable {κ:Type} [DecidableEq κ]
end
def quL (qs:List Str) (ls:List Addr):List (Key×V):=(qs.zip ls).map fun p=>((Sum.inr p.1:Key),V.ref p.2)
end My
namespace My
open PySem L2
def seven:List Str:=["plus","less","times","part","rest","below","same"]
inductive Fm where
  | num (n:Int)
  | box (x:Str)
  | long (x:Str)
  | got (j:Bool)
  | now
  | two (k:Str) (f g:Fm)
def Fm.depth:Fm→Nat
  | .two _ f g=>max f.depth g.depth + 1
  | _=>1
inductive Rs where
  | ok (r:Int)
  | nought
  | great
def twoOf (k:Str) (a b:Int):Rs:=
  if k="plus" then .ok (a + b) else if k="less" then .ok (a - b) else if k="times" then .ok (a * b) else if k="below" then .ok (if a < b then 1 else 0)
  else if k="same" then .ok (if a=b then 1 else 0) else if b=0 then .nought else if k="part" then .ok (a.fdiv b) else .ok (a.fmod b)
def sizeI (r:Int):Int:=if r < 0 then -r else r
def cap:Rs→Rs
  | .ok r=>if 10 ^ 15 < sizeI r then .great else .ok r
  | .nought=>.nought
  | .great=>.great
structure Asks where
  bx:Str→Int
  lg:Str→Nat
  g0:Int
  g1:Int
  nw:Int
def ev (e:Asks):Fm→Rs
  | .num n=>.ok n
  | .box x=>.ok (e.bx x)
  | .long x=>.ok (e.lg x)
  | .got j=>.ok (if j then e.g1 else e.g0)
  | .now=>.ok e.nw
  | .two k f g=>match ev e f with
    | .ok a=>(match ev e g with
      | .ok b=>cap (twoOf k a b)
      | .nought=>.nought
      | .great=>.great)
    | .nought=>.nought
    | .great=>.great
def Wo (a:Int):Prop:=-(10 ^ 15)≤a∧a≤10 ^ 15
structure Asks.Ok (e:Asks) (bs qs:List Str):Prop where
  bx:∀ x∈bs,Wo (e.bx x)
  lg:∀ x∈qs,e.lg x≤1000
  g0:Wo e.g0
  g1:Wo e.g1
  nw:Wo e.nw
inductive FmIn (bs qs:List Str) (H:Hp):V→Fm→Prop where
  | num {t:Addr} {n:Int}:H t=some (.tup [.str "number",.int n])→Wo n→FmIn bs qs H (.ref t) (.num n)
  | box {t:Addr} {x:Str}:H t=some (.tup [.str "box",.str x])→x∈bs→FmIn bs qs H (.ref t) (.box x)
  | long {t:Addr} {x:Str}:H t=some (.tup [.str "long",.str x])→x∈qs→FmIn bs qs H (.ref t) (.long x)
  | got {t:Addr} {j:Bool}:H t=some (.tup [.str "got",.int (if j then 1 else 0)])→FmIn bs qs H (.ref t) (.got j)
  | now {t:Addr}:H t=some (.tup [.str "now"])→FmIn bs qs H (.ref t) .now
  | two {t:Addr} {k:Str} {u v:V} {f g:Fm}:H t=some (.tup [.str k,u,v])→k∈seven→FmIn bs qs H u f→FmIn bs qs H v g→FmIn bs qs H (.ref t) (.two k f g)
theorem FmIn.mono {bs qs:List Str} {H H':Hp} {v:V} {f:Fm} (h:FmIn bs qs H v f) (s:∀ t xs,H t=some (.tup xs)→H' t=some (.tup xs)):FmIn bs qs H' v f:=by
  induction h with
  | num h1 h2=>exact .num (s _ _ h1) h2
  | box h1 h2=>exact .box (s _ _ h1) h2
  | long h1 h2=>exact .long (s _ _ h1) h2
  | got h1=>exact .got (s _ _ h1)
  | now h1=>exact .now (s _ _ h1)
  | two h1 h2 _ _ i1 i2=>exact .two (s _ _ h1) h2 i1 i2
theorem FmIn.same {bs qs:List Str} {H H':Hp} {v:V} {f:Fm} (h:FmIn bs qs H v f) (s:Same H H'):FmIn bs qs H' v f:=h.mono fun _ _ e=>s _ _ e
theorem sizeI_le {r:Int} (h:¬ 10 ^ 15 < sizeI r):Wo r:=by
  unfold sizeI at h
  unfold Wo
  split at h <;> omega
theorem sizeI_wo {r:Int} (h:Wo r):¬ 10 ^ 15 < sizeI r:=by
  unfold Wo at h
  unfold sizeI
  split <;> omega
theorem cap_wo {x:Rs} {r:Int} (h:cap x=.ok r):Wo r:=by
  cases x with
  | ok y =>
    unfold cap at h
    dsimp only at h
    by_cases c:10 ^ 15 < sizeI y
    · rw [if_pos c] at h
      cases h
    · rw [if_neg c] at h
      cases h
      exact sizeI_le c
  | nought=>cases h
  | great=>cases h
theorem lg_wo {n:Nat} (h:n≤1000):Wo (n:Int):=by
  unfold Wo
  omega
theorem ev_wo {bs qs:List Str} {H:Hp} {e:Asks} (ok:e.Ok bs qs) {v:V} {f:Fm} (h:FmIn bs qs H v f):∀ {r:Int},ev e f=.ok r→Wo r:=by
  induction h with
  | num h1 h2 =>
    intro r q
    unfold ev at q
    cases q
    exact h2
  | box h1 h2 =>
    intro r q
    unfold ev at q
    cases q
    exact ok.bx _ h2
  | long h1 h2 =>
    intro r q
    unfold ev at q
    cases q
    exact lg_wo (ok.lg _ h2)
  | @got t j h1 =>
    intro r q
    unfold ev at q
    cases q
    cases j
    · exact ok.g0
    · exact ok.g1
  | now h1 =>
    intro r q
    unfold ev at q
    cases q
    exact ok.nw
  | @two t k u v f g h1 h2 _ _ i1 i2 =>
    intro r q
    unfold ev at q
    cases e1:ev e f with
    | ok a =>
      rw [e1] at q
      cases e2:ev e g with
      | ok b =>
        rw [e2] at q
        exact cap_wo q
      | nought=>rw [e2] at q; cases q
      | great=>rw [e2] at q; cases q
    | nought=>rw [e1] at q; cases q
    | great=>rw [e1] at q; cases q
def endsX (CN CG:Addr) (r:Rs) (Q:VK) (E:XK) (H:Hp):Prop:=match r with
  | .ok r=>Q (.int r) H
  | .nought=>E (.ref CN) none H
  | .great=>E (.ref CG) none H
def resV:Rs→V
  | .ok r=>.int r
  | .nought=>.str "nought"
  | .great=>.str "great"
theorem seven_no:∀ k∈seven,¬ k="number"∧¬ k="box"∧¬ k="long"∧¬ k="got"∧¬ k="now":=by decide +kernel
section
variable {P:Program} {w:World} {K:PySem.W.Frag} {mg:Str→Option Value} {base:Heap} {f fD fT fL CN CG CM CS:Addr} {fd fdD fdT fdL:FuncData}
structure Fts (K:PySem.W.Frag) (mg:Str→Option Value) (CN CG:Addr):Prop where
  mN:mg "Nought"=some (.ref CN)
  mG:mg "Great"=some (.ref CG)
  xN:PySem.W.excIn K CN vErr "ValueError.__new__"=true
  xG:PySem.W.excIn K CG vErr "ValueError.__new__"=true
  nn:PySem.W.exmOne K (.ref CN) (.ref CN)=some true
  gn:PySem.W.exmOne K (.ref CG) (.ref CN)=some false
  gg:PySem.W.exmOne K (.ref CG) (.ref CG)=some true
def spDiv (CN:Addr):Sp:=fun vs H Q E=>∃ (k:Str) (a b:Int),vs=[.str k,.int a,.int b]∧Wo b∧(b=0→E (.ref CN) none H)∧(¬ b=0→k="part"→Q (.int (a.fdiv b)) H)∧(¬ b=0→¬ k="part"→Q (.int (a.fmod b)) H)
theorem scDv:FnScope ["kind","first","second"] ["kind","first","second"] (defScope s_number_of_division):=⟨rfl,rfl,rfl,by decide +kernel,rfl,by decide +kernel,by decide +kernel⟩
theorem int_eq {a b:Int} (h:V.int a=V.int b):a=b:=V.int.inj h
theorem str_eq {a b:Str} (h:V.str a=V.str b):a=b:=V.str.inj h
theorem ok_div (D:Df K mg "number_of_division" s_number_of_division ["kind","first","second"] f fd) (T:Fts K mg CN CG):FnOk P w K mg base (CXo P w) 1 f fd ["kind","first","second"] (spDiv CN):=by
  refine D.F.okX scDv (fun vs H Q E h=>?_) (fun cdv A outer s H vs Q E hr h=>?_)
  · obtain ⟨k,a,b,rfl,_⟩:=h
    rfl
  obtain ⟨k,a,b,rfl,hb,h1,h2,h3⟩:=h
  refine ⟨_,pss_cons (ps_if (pt_cmpR op_eq (pv 2) pe_int (nomark _)) (pss_one (ps_raise body_cx rfl rfl T.mN T.xN (pa_cons pe_str pa_nil))) pss_nil)
    (pss_cons (ps_if (pt_cmpR op_eq (pv 0) pe_str (nomark _)) (pss_one (ps_ret (pe_op op_fdivM (pv 1) (pv 2)))) pss_nil)
    (pss_one (ps_ret (pe_op op_modN (pv 1) (pv 2))))),?_⟩
  refine ⟨_,rfl,rfl,_,rfl,?_⟩
  refine ite2 (fun c=>?_) (fun c=>?_)
  · exact ⟨(by show 1≤sizeLine; decide),h1 (int_eq (dec_t c))⟩
  · have nb:¬ b=0:=fun z=>dec_f c (by rw [z])
    refine ⟨_,rfl,rfl,_,rfl,?_⟩
    refine ite2 (fun c2=>?_) (fun c2=>?_)
    · refine ⟨_,rfl,_,rfl,_,_,rfl,rfl,⟨nb,?_⟩,h2 nb (str_eq (dec_t c2))⟩
      unfold Wo at hb
      omega
    · exact ⟨_,rfl,_,rfl,_,_,rfl,rfl,nb,h3 nb (fun z=>dec_f c2 (by rw [z]))⟩
def spTwo (CN CG:Addr):Sp:=fun vs H Q E=>∃ (k:Str) (a b:Int),vs=[.str k,.int a,.int b]∧Wo a∧Wo b∧endsX CN CG (twoOf k a b) Q E H
theorem scTw:FnScope ["kind","first","second"] ["kind","first","second"] (defScope s_number_of_two):=⟨rfl,rfl,rfl,by decide +kernel,rfl,by decide +kernel,by decide +kernel⟩
theorem ok_two (D:Df K mg "number_of_two" s_number_of_two ["kind","first","second"] f fd) (DD:Df K mg "number_of_division" s_number_of_division ["kind","first","second"] fD fdD) (T:Fts K mg CN CG) :
    FnOk P w K mg base (CXo P w) 2 f fd ["kind","first","second"] (spTwo CN CG):=by
  have GD:FnOk P w K mg base (CXo P w) 1 fD fdD ["kind","first","second"] (spDiv CN):=ok_div DD T
  refine D.F.okX scTw (fun vs H Q E h=>?_) (fun cdv A outer s H vs Q E hr h=>?_)
  · obtain ⟨k,a,b,rfl,_⟩:=h
    rfl
  obtain ⟨k,a,b,rfl,ha,hb,h⟩:=h
  unfold twoOf at h
  refine ⟨_,pss_cons (ps_if (pt_cmpR op_eq (pv 0) pe_str (nomark _)) (pss_one (ps_ret (pe_op op_add (pv 1) (pv 2)))) pss_nil)
    (pss_cons (ps_if (pt_cmpR op_eq (pv 0) pe_str (nomark _)) (pss_one (ps_ret (pe_op op_sub (pv 1) (pv 2)))) pss_nil)
    (pss_cons (ps_if (pt_cmpR op_eq (pv 0) pe_str (nomark _)) (pss_one (ps_ret (pe_op op_mul (pv 1) (pv 2)))) pss_nil)
    (pss_cons (ps_if (pt_cmpR op_eq (pv 0) pe_str (nomark _)) (pss_one (ps_ret (pe_ifExp (pt_cmpR op_lt (pv 1) (pv 2) (nomark _)) pe_int pe_int))) pss_nil)
    (pss_cons (ps_if (pt_cmpR op_eq (pv 0) pe_str (nomark _)) (pss_one (ps_ret (pe_ifExp (pt_cmpR op_eq (pv 1) (pv 2) (nomark _)) pe_int pe_int))) pss_nil)
    (pss_one (ps_ret (pe_call GD hr rfl DD.m DD.F.kp DD.b .nil (body_cx.passes fun _ _ _ z=>z) (pa_cons (pv 0) (pa_cons (pv 1) (pa_cons (pv 2) pa_nil)))))))))),?_⟩
  refine ⟨_,rfl,rfl,_,rfl,ite2 (fun c=>?_) (fun c=>?_)⟩
  · rw [if_pos (str_eq (dec_t c))] at h
    exact ⟨_,rfl,_,rfl,_,_,rfl,rfl,h⟩
  rw [if_neg fun z=>dec_f c (by rw [z])] at h
  refine ⟨_,rfl,rfl,_,rfl,ite2 (fun c=>?_) (fun c=>?_)⟩
  · rw [if_pos (str_eq (dec_t c))] at h
    exact ⟨_,rfl,_,rfl,_,_,rfl,rfl,h⟩
  rw [if_neg fun z=>dec_f c (by rw [z])] at h
  refine ⟨_,rfl,rfl,_,rfl,ite2 (fun c=>?_) (fun c=>?_)⟩
  · rw [if_pos (str_eq (dec_t c))] at h
    refine ⟨_,rfl,_,rfl,_,_,rfl,rfl,.inl ⟨?_,?_⟩,h⟩
    · unfold Wo at ha; omega
    · unfold Wo at ha; omega
  rw [if_neg fun z=>dec_f c (by rw [z])] at h
  refine ⟨_,rfl,rfl,_,rfl,ite2 (fun c=>?_) (fun c=>?_)⟩
  · rw [if_pos (str_eq (dec_t c))] at h
    refine ⟨_,rfl,_,rfl,_,_,rfl,rfl,_,rfl,ite2 (fun c2=>?_) (fun c2=>?_)⟩
    · rw [if_pos (dec_t c2)] at h
      exact h
    · rw [if_neg (dec_f c2)] at h
      exact h
  rw [if_neg fun z=>dec_f c (by rw [z])] at h
  refine ⟨_,rfl,rfl,_,rfl,ite2 (fun c=>?_) (fun c=>?_)⟩
  · rw [if_pos (str_eq (dec_t c))] at h
    refine ⟨_,rfl,_,rfl,rfl,_,rfl,ite2 (fun c2=>?_) (fun c2=>?_)⟩
    · rw [if_pos (int_eq (dec_t c2))] at h
      exact h
    · rw [if_neg fun z=>dec_f c2 (by rw [z])] at h
      exact h
  rw [if_neg fun z=>dec_f c (by rw [z])] at h
  refine ⟨_,rfl,_,rfl,_,rfl,k,a,b,rfl,hb,fun z=>?_,fun z1 z2=>?_,fun z1 z2=>?_⟩
  · rw [if_pos z] at h
    exact h
  · rw [if_neg z1,if_pos z2] at h
    exact h
  · rw [if_neg z1,if_neg z2] at h
    exact h
structure Holds (K:PySem.W.Frag) (CS:Addr) (bs qs:List Str) (H:Hp) (st gl:Addr) (e:Asks):Prop where
  ex:∃ (dx bd qd:Addr) (fs:List (Str×V)) (bk qk:List (Key×V)),H st=some (.ins CS dx fs)∧fs.lookup ("boxes":Str)=some (.ref bd)∧fs.lookup ("queues":Str)=some (.ref qd)∧H bd=some (.dK bk)∧H qd=some (.dK qk) ∧
    (∀ x∈bs,valV bk (Sum.inr x)=some (.int (e.bx x)))∧(∀ x∈qs,∃ l xs,valV qk (Sum.inr x)=some (.ref l)∧H l=some (.lst xs)∧xs.length=e.lg x)
  hgl:H gl=some (.lst [.int e.g0,.int e.g1])
def spLeaf (K:PySem.W.Frag) (CS:Addr) (bs qs:List Str):Sp:=fun vs H Q _=>∃ (v:V) (F:Fm) (st gl:Addr) (e:Asks),vs=[v,.ref st,.int e.nw,.ref gl]∧FmIn bs qs H v F∧F.depth≤1∧Holds K CS bs qs H st gl e∧∀ r,ev e F=.ok r→Q (.int r) H
theorem scLf:FnScope ["formula","state","now","got","kind"] ["formula","state","now","got"] (defScope s_number_of_leaf):=⟨rfl,rfl,rfl,by decide +kernel,rfl,by decide +kernel,by decide +kernel⟩
theorem kinds_ne:¬ (("box":Str)="number")∧¬ (("long":Str)="number")∧¬ (("long":Str)="box")∧¬ (("got":Str)="number")∧¬ (("got":Str)="box")∧¬ (("got":Str)="long")∧¬ (("now":Str)="number")∧¬ (("now":Str)="box")∧¬ (("now":Str)="long")∧¬ (("now":Str)="got"):=by decide +kernel
theorem strF {a b:Str} (h:¬ a=b):decide (V.str a=V.str b)=false:=decide_eq_false fun z=>h (V.str.inj z)
theorem strT (a:Str):decide (V.str a=V.str a)=true:=decide_eq_true rfl
theorem iteE {c:Bool} {b:Bool} {p q:Prop} (h:c=b) (t:if b=true then p else q):if c=true then p else q:=by
  rw [h]
  exact t
theorem ok_leaf {bs qs:List Str} (D:Df K mg "number_of_leaf" s_number_of_leaf ["formula","state","now","got"] f fd) (T:MdT K mg CM CS) (B:Bl mg):FnOk P w K mg base CX0 1 f fd ["formula","state","now","got"] (spLeaf K CS bs qs):=by
  refine D.F.ok scLf (fun vs H Q E h=>?_) (fun cdv A outer s H vs Q E hr h=>?_)
  · obtain ⟨v,F,st,gl,e,rfl,_⟩:=h
    rfl
  obtain ⟨v,F,st,gl,e,rfl,hF,hd,⟨⟨dx,bd,qd,fs,bk,qk,h1,h2,h3,h4,h5,h6,h7⟩,h8⟩,q⟩:=h
  have hu:=hu_of hr
  refine ⟨_,pss_cons (ps_set (i:=4) scLf.nd rfl (Or.inl rfl) (pe_ix ix_tup (pv 0) pe_int (fun _ _=>rfl)))
    (pss_cons (ps_if (pt_cmpR op_eq (pv 4) pe_str (nomark _)) (pss_one (ps_ret (pe_ix ix_tup (pv 0) pe_int (fun _ _=>rfl)))) pss_nil)
    (pss_cons (ps_if (pt_cmpR op_eq (pv 4) pe_str (nomark _)) (pss_one (ps_ret (pe_dget hu (pe_fld (pv 1) rfl) (pe_ix ix_tup (pv 0) pe_int (fun _ _=>rfl)) (fun _ _=>rfl)))) pss_nil)
    (pss_cons (ps_if (pt_cmpR op_eq (pv 4) pe_str (nomark _)) (pss_one (ps_ret (pe_callB call_len_seq (by rfl) B.len PySem.boot_len (pa_cons (pe_dget hu (pe_fld (pv 1) rfl) (pe_ix ix_tup (pv 0) pe_int (fun _ _=>rfl)) (fun _ _=>rfl)) pa_nil)))) pss_nil)
    (pss_cons (ps_if (pt_cmpR op_eq (pv 4) pe_str (nomark _)) (pss_one (ps_ret (pe_ix ix_list (pv 3) (pe_ix ix_tup (pv 0) pe_int (fun _ _=>rfl)) (fun _ _=>rfl)))) pss_nil)
    (pss_one (ps_ret (pv 2))))))),?_⟩
  obtain ⟨k1,k2,k3,k4,k5,k6,k7,k8,k9,k10⟩:=kinds_ne
  cases hF with
  | @num t n ht hn =>
    refine ⟨_,rfl,t,_,_,_,rfl,rfl,SqT.of ht,rfl,_,rfl,rfl,_,rfl,iteE (strT _) (iteT ?_)⟩
    exact ⟨_,rfl,t,_,_,_,rfl,rfl,SqT.of ht,rfl,q _ rfl⟩
  | @box t x ht hx =>
    refine ⟨_,rfl,t,_,_,_,rfl,rfl,SqT.of ht,rfl,_,rfl,rfl,_,rfl,iteE (strF k1) (iteF ?_)⟩
    refine ⟨_,rfl,rfl,_,rfl,iteE (strT _) (iteT ?_)⟩
    exact ⟨_,rfl,st,CS,dx,_,_,rfl,h1,T.clS,T.nB,h2,_,rfl,t,_,_,_,rfl,rfl,SqT.of ht,rfl,bd,_,rfl,(by have z:=DGet.k (k:=Sum.inr x) h4; rw [h6 x hx] at z; exact z),q _ rfl⟩
  | @long t x ht hx =>
    obtain ⟨l,xs,g1,g2,g3⟩:=h7 x hx
    refine ⟨_,rfl,t,_,_,_,rfl,rfl,SqT.of ht,rfl,_,rfl,rfl,_,rfl,iteE (strF k2) (iteF ?_)⟩
    refine ⟨_,rfl,rfl,_,rfl,iteE (strF k3) (iteF ?_)⟩
    refine ⟨_,rfl,rfl,_,rfl,iteE (strT _) (iteT ?_)⟩
    exact ⟨_,rfl,st,CS,dx,_,_,rfl,h1,T.clS,T.nQ,h3,_,rfl,t,_,_,_,rfl,rfl,SqT.of ht,rfl,qd,_,rfl,(by have z:=DGet.k (k:=Sum.inr x) h5; rw [g1] at z; exact z),l,xs,rfl,.inl (SqL.of g2),q _ (by rw [g3]; rfl)⟩
  | @got t j ht =>
    refine ⟨_,rfl,t,_,_,_,rfl,rfl,SqT.of ht,rfl,_,rfl,rfl,_,rfl,iteE (strF k4) (iteF ?_)⟩
    refine ⟨_,rfl,rfl,_,rfl,iteE (strF k5) (iteF ?_)⟩
    refine ⟨_,rfl,rfl,_,rfl,iteE (strF k6) (iteF ?_)⟩
    refine ⟨_,rfl,rfl,_,rfl,iteE (strT _) (iteT ?_)⟩
    cases j
    · exact ⟨_,rfl,_,rfl,t,_,_,_,rfl,rfl,SqT.of ht,rfl,gl,_,_,_,rfl,rfl,SqL.of h8,rfl,q _ rfl⟩
    · exact ⟨_,rfl,_,rfl,t,_,_,_,rfl,rfl,SqT.of ht,rfl,gl,_,_,_,rfl,rfl,SqL.of h8,rfl,q _ rfl⟩
  | @now t ht =>
    refine ⟨_,rfl,t,_,_,_,rfl,rfl,SqT.of ht,rfl,_,rfl,rfl,_,rfl,iteE (strF k7) (iteF ?_)⟩
    refine ⟨_,rfl,rfl,_,rfl,iteE (strF k8) (iteF ?_)⟩
    refine ⟨_,rfl,rfl,_,rfl,iteE (strF k9) (iteF ?_)⟩
    refine ⟨_,rfl,rfl,_,rfl,iteE (strF k10) (iteF ?_)⟩
    exact ⟨_,rfl,q _ rfl⟩
  | @two t k u v f1 f2 ht hk h1 h2 =>
    have z1:0 < f1.depth:=by cases f1 <;> exact Nat.succ_pos _
    unfold Fm.depth at hd
    omega
def spWo (K:PySem.W.Frag) (CS CN CG:Addr) (bs qs:List Str) (n:Nat):Sp:=fun vs H Q E=>∃ (v:V) (F:Fm) (st gl:Addr) (e:Asks),vs=[v,.ref st,.int e.nw,.ref gl]∧FmIn bs qs H v F∧F.depth≤n∧Holds K CS bs qs H st gl e∧e.Ok bs qs∧endsX CN CG (ev e F) Q E H
theorem scWo:FnScope ["formula","state","now","got","first","second","number"] ["formula","state","now","got"] (defScope s_worth_of):=⟨rfl,rfl,rfl,by decide +kernel,rfl,by decide +kernel,by decide +kernel⟩
theorem leaf_or {bs qs:List Str} {H:Hp} {v:V} {F:Fm} (h:FmIn bs qs H v F):(∃ t xs,v=.ref t∧H t=some (.tup xs)∧¬ (xs.length:Int)=3∧F.depth≤1∧∀ e:Asks,∃ r,ev e F=.ok r) ∨
    ∃ t k u w f g,v=.ref t∧F=.two k f g∧H t=some (.tup [.str k,u,w])∧k∈seven∧FmIn bs qs H u f∧FmIn bs qs H w g:=by
  cases h with
  | num h1 h2=>exact .inl ⟨_,_,rfl,h1,by show ¬ ((2:Nat):Int)=3; decide,Nat.le_refl _,fun e=>⟨_,rfl⟩⟩
  | box h1 h2=>exact .inl ⟨_,_,rfl,h1,by show ¬ ((2:Nat):Int)=3; decide,Nat.le_refl _,fun e=>⟨_,rfl⟩⟩
  | long h1 h2=>exact .inl ⟨_,_,rfl,h1,by show ¬ ((2:Nat):Int)=3; decide,Nat.le_refl _,fun e=>⟨_,rfl⟩⟩
  | got h1=>exact .inl ⟨_,_,rfl,h1,by show ¬ ((2:Nat):Int)=3; decide,Nat.le_refl _,fun e=>⟨_,rfl⟩⟩
  | now h1=>exact .inl ⟨_,_,rfl,h1,by show ¬ ((1:Nat):Int)=3; decide,Nat.le_refl _,fun e=>⟨_,rfl⟩⟩
  | two h1 h2 h3 h4=>exact .inr ⟨_,_,_,_,_,_,rfl,rfl,h1,h2,h3,h4⟩
theorem wo_step {bs qs:List Str} {n:Nat} (D:Df K mg "worth_of" s_worth_of ["formula","state","now","got"] f fd) (DT:Df K mg "number_of_two" s_number_of_two ["kind","first","second"] fT fdT) (DD:Df K mg "number_of_division" s_number_of_division ["kind","first","second"] fD fdD)
    (DL:Df K mg "number_of_leaf" s_number_of_leaf ["formula","state","now","got"] fL fdL) (T:Fts K mg CN CG) (TM:MdT K mg CM CS) (B:Bl mg) (G:FnOk P w K mg base (CXo P w) (n + 2) f fd ["formula","state","now","got"] (spWo K CS CN CG bs qs n)) :
    FnOk P w K mg base (CXo P w) (n + 3) f fd ["formula","state","now","got"] (spWo K CS CN CG bs qs (n + 1)):=by
  have GT:FnOk P w K mg base (CXo P w) 2 fT fdT ["kind","first","second"] (spTwo CN CG):=ok_two DT DD T
  have GL:FnOk P w K mg base CX0 1 fL fdL ["formula","state","now","got"] (spLeaf K CS bs qs):=ok_leaf DL TM B
  refine D.F.okX scWo (fun vs H Q E h=>?_) (fun cdv A outer s H vs Q E hr h=>?_)
  · obtain ⟨v,F,st,gl,e,rfl,_⟩:=h
    rfl
  obtain ⟨v,F,st,gl,e,rfl,hF,hd,ho,eo,h⟩:=h
  have r2:Room 2 _:=hr.mono (by omega)
  have r1:Room 1 _:=hr.mono (by omega)
  refine ⟨_,pss_cons (ps_if (pt_cmpR op_eq (pe_callB call_len_seq (by rfl) B.len PySem.boot_len (pa_cons (pv 0) pa_nil)) pe_int (nomark _))
      (pss_cons (ps_set (i:=4) scWo.nd rfl (Or.inl rfl) (pe_call G hr rfl D.m D.F.kp D.b .nil (body_cx.passes fun _ _ _ z=>z) (pa_cons (pe_ix ix_tup (pv 0) pe_int (fun _ _=>rfl)) (pa_cons (pv 1) (pa_cons (pv 2) (pa_cons (pv 3) pa_nil))))))
      (pss_cons (ps_set (i:=5) scWo.nd rfl (Or.inl rfl) (pe_call G hr rfl D.m D.F.kp D.b .nil (body_cx.passes fun _ _ _ z=>z) (pa_cons (pe_ix ix_tup (pv 0) pe_int (fun _ _=>rfl)) (pa_cons (pv 1) (pa_cons (pv 2) (pa_cons (pv 3) pa_nil))))))
      (pss_one (ps_set (i:=6) scWo.nd rfl (Or.inl rfl) (pe_call GT r2 rfl DT.m DT.F.kp DT.b .nil (body_cx.passes fun _ _ _ z=>z) (pa_cons (pe_ix ix_tup (pv 0) pe_int (fun _ _=>rfl)) (pa_cons (pv 4) (pa_cons (pv 5) pa_nil))))))))
      (pss_one (ps_set (i:=6) scWo.nd rfl (Or.inl rfl) (pe_call GL r1 rfl DL.m DL.F.kp DL.b .nil pass0 (pa_cons (pv 0) (pa_cons (pv 1) (pa_cons (pv 2) (pa_cons (pv 3) pa_nil))))))))
    (pss_cons (ps_if (pt_cmpR op_gt (pe_callB call_abs (by rfl) B.abs boot_abs (pa_cons (pv 6) pa_nil)) (pe_op op_pow pe_int pe_int) (nomark _)) (pss_one (ps_raise body_cx rfl rfl T.mG T.xG (pa_cons pe_str pa_nil))) pss_nil)
    (pss_one (ps_ret (pv 6)))),?_⟩
  have c15:CPow 10 15:=⟨by decide,by decide,by decide⟩
  have l1:1≤sizeLine:=by decide
  rcases leaf_or hF with ⟨t,xs,rfl,ht,hx,hd1,hv⟩ | ⟨t,k,u,v',f1,f2,rfl,rfl,ht,hk,h1,h2⟩
  · obtain ⟨r,hr'⟩:=hv e
    refine ⟨_,rfl,t,_,rfl,.inr (SqT.of ht),rfl,_,rfl,ite2 (fun c=>absurd (int_eq (dec_t c)) hx) (fun c=>?_)⟩
    refine ⟨_,rfl,_,rfl,_,rfl,_,rfl,.ref t,F,st,gl,e,rfl,hF,hd1,ho,fun r' hr2=>?_⟩
    refine ⟨_,rfl,_,rfl,_,_,rfl,rfl,c15,_,_,rfl,rfl,_,rfl,ite2 (fun c=>?_) (fun c=>?_)⟩
    · exact absurd (dec_t c) (sizeI_wo (ev_wo eo hF hr2))
    · rw [hr2] at h
      exact ⟨_,rfl,h⟩
  · have d1:f1.depth≤n:=by
      unfold Fm.depth at hd
      omega
    have d2:f2.depth≤n:=by
      unfold Fm.depth at hd
      omega
    refine ⟨_,rfl,t,_,rfl,.inr (SqT.of ht),rfl,_,rfl,ite2 (fun c=>?_) (fun c=>absurd rfl (dec_f c))⟩
    refine ⟨_,rfl,t,_,_,_,rfl,rfl,SqT.of ht,rfl,_,rfl,_,rfl,_,rfl,u,f1,st,gl,e,rfl,h1,d1,ho,eo,?_⟩
    unfold ev at h
    cases e1:ev e f1 with
    | nought=>rw [e1] at h; exact h
    | great=>rw [e1] at h; exact h
    | ok a =>
      rw [e1] at h
      refine ⟨_,rfl,t,_,_,_,rfl,rfl,SqT.of ht,rfl,_,rfl,_,rfl,_,rfl,v',f2,st,gl,e,rfl,h2,d2,ho,eo,?_⟩
      cases e2:ev e f2 with
      | nought=>rw [e2] at h; exact h
      | great=>rw [e2] at h; exact h
      | ok b =>
        rw [e2] at h
        have h:endsX CN CG (cap (twoOf k a b)) Q E H:=h
        refine ⟨_,rfl,t,_,_,_,rfl,rfl,SqT.of ht,rfl,_,rfl,_,rfl,k,a,b,rfl,ev_wo eo h1 e1,ev_wo eo h2 e2,?_⟩
        cases e3:twoOf k a b with
        | nought=>rw [e3] at h; exact h
        | great=>rw [e3] at h; exact h
        | ok r =>
          rw [e3] at h
          have h':endsX CN CG (if 10 ^ 15 < sizeI r then .great else .ok r) Q E H:=h
          refine ⟨_,rfl,_,rfl,_,_,rfl,rfl,c15,_,_,rfl,rfl,_,rfl,ite2 (fun c=>?_) (fun c=>?_)⟩
          · rw [if_pos (show 10 ^ 15 < sizeI r from dec_t c)] at h'
            exact ⟨l1,h'⟩
          · rw [if_neg (show ¬ 10 ^ 15 < sizeI r from dec_f c)] at h'
            exact ⟨_,rfl,h'⟩
theorem depth_pos (F:Fm):0 < F.depth:=by cases F <;> exact Nat.succ_pos _
theorem ok_wo {bs qs:List Str} (D:Df K mg "worth_of" s_worth_of ["formula","state","now","got"] f fd) (DT:Df K mg "number_of_two" s_number_of_two ["kind","first","second"] fT fdT) (DD:Df K mg "number_of_division" s_number_of_division ["kind","first","second"] fD fdD)
    (DL:Df K mg "number_of_leaf" s_number_of_leaf ["formula","state","now","got"] fL fdL) (T:Fts K mg CN CG) (TM:MdT K mg CM CS) (B:Bl mg):∀ n:Nat,FnOk P w K mg base (CXo P w) (n + 2) f fd ["formula","state","now","got"] (spWo K CS CN CG bs qs n)
  | 0=>by
    have no:∀ vs H Q E,¬ spWo K CS CN CG bs qs 0 vs H Q E:=fun vs H Q E h=>by
      obtain ⟨v,F,st,gl,e,_,_,hd,_⟩:=h
      have:=depth_pos F
      omega
    exact ⟨fun vs H Q E h=>absurd h (no vs H Q E),fun A outer s H args us vs Q E _ _ _ _ h=>absurd h (no vs H Q E)⟩
  | n + 1=>wo_step D DT DD DL T TM B (ok_wo D DT DD DL T TM B n)
end
end My
namespace My
open PySem L2
mutual
inductive Dd where
  | put (x:Str) (f:Fm)
  | push (q:Str) (f:Fm)
  | pull (q x:Str) (o:Ds)
  | draw (x:Str) (f:Fm)
  | send (to:Int) (sg:Str) (sp:Fm) (rk:Int) (a b:Fm)
  | ife (f:Fm) (t e:Ds)
  | fin
inductive Ds where
  | nil
  | cons (d:Dd) (r:Ds)
end
inductive Flt where
  | nought
  | great
  | full
  | dry
  | span
  | late
structure Ev where
  t:Int
  r:Int
  fr:Int
  c:Int
  to:Int
  sg:Str
  a:Int
  b:Int
structure Wk where
  bx:List (Str×Int)
  qu:List (Str×List Int)
  dr:Nat
  se:Int
  wr:List Str
  out:List Ev
  en:Bool
  rk:List Fm
  qn:List Str
def Wk.len (w:Wk):Nat:=w.out.length + w.rk.length
def getB (ps:List (Str×Int)) (x:Str):Int:=(ps.lookup x).getD 0
def getQ (ps:List (Str×List Int)) (x:Str):List Int:=(ps.lookup x).getD []
def setA {α:Type} (ps:List (Str×α)) (x:Str) (n:α):List (Str×α):=ps.map fun p=>if p.1=x then (p.1,n) else p
def addS (xs:List Str) (x:Str):List Str:=if x∈xs then xs else xs++[x]
def askW (h:Ev) (w:Wk):Asks:=⟨getB w.bx,fun q=>(getQ w.qu q).length,h.a,h.b,h.t⟩
def rck (h:Ev) (w:Wk) (f:Fm) (k:Wk→Int→Except Flt Wk):Except Flt Wk:=match ev (askW h w) f with
  | .ok n=>k {w with rk:=w.rk++[f]} n
  | .nought=>.error .nought
  | .great=>.error .great
def fillW (w:Wk) (x:Str) (n:Int):Wk:={w with bx:=setA w.bx x n,wr:=addS w.wr x}
def sendW (h:Ev) (w:Wk) (to:Int) (sg:Str) (rk t a b:Int):Wk:={w with se:=w.se + 1,out:=w.out++[⟨t,rk,h.to,w.se,to,sg,a,b⟩]}
mutual
def doD (h:Ev) (ds:List Int):Dd→Wk→Except Flt Wk
  | .put x f,w=>rck h w f fun w n=>.ok (fillW w x n)
  | .push q f,w=>rck h w f fun w n=>if 30≤(getQ w.qu q).length then .error .full else .ok {w with qu:=setA w.qu q (getQ w.qu q++[n]),wr:=addS w.wr q,qn:=addS w.qn q}
  | .pull q x o,w=>match getQ w.qu q with
    | []=>doS h ds o {w with qn:=addS w.qn q}
    | n :: ns=>.ok {w with qu:=setA w.qu q ns,bx:=setA w.bx x n,wr:=addS (addS w.wr x) q,qn:=addS w.qn q}
  | .draw x f,w=>rck h w f fun w n=>if n < 1 then .error .nought else if ds=[] then .error .dry else .ok (fillW {w with dr:=w.dr + 1} x (ds.getD (w.dr % ds.length) 0 % n))
  | .send to sg sp rk a b,w=>rck h w sp fun w n=>if n < 1∨10 ^ 6 < n then .error .span else rck h w a fun w x=>rck h w b fun w y=>if 10 ^ 12 < h.t + n then .error .late else .ok (sendW h w to sg rk (h.t + n) x y)
  | .ife f t e,w=>rck h w f fun w n=>if n=0 then doS h ds e w else doS h ds t w
  | .fin,w=>.ok {w with en:=true}
def doS (h:Ev) (ds:List Int):Ds→Wk→Except Flt Wk
  | .nil,w=>.ok w
  | .cons d r,w=>match doD h ds d w with
    | .ok w'=>doS h ds r w'
    | .error e=>.error e
end
mutual
def Dd.deep:Dd→Nat
  | .pull _ _ o=>o.deep + 1
  | .ife _ t e=>max t.deep e.deep + 1
  | _=>0
def Ds.deep:Ds→Nat
  | .nil=>0
  | .cons d r=>max d.deep r.deep
end
def LstIn (H:Hp) (R:List V→Prop) (v:V):Prop:=∃ l vs,v=.ref l∧H l=some (.lst vs)∧vs.length < 1000∧R vs
def FmI (bs qs:List Str) (H:Hp) (v:V) (f:Fm):Prop:=FmIn bs qs H v f∧f.depth≤15
mutual
def DdIn (bs qs:List Str) (H:Hp):Dd→V→Prop
  | .put x f,v=>∃ t u,v=.ref t∧H t=some (.tup [.str "put",.str x,u])∧x∈bs∧FmI bs qs H u f
  | .push q f,v=>∃ t u,v=.ref t∧H t=some (.tup [.str "push",.str q,u])∧q∈qs∧FmI bs qs H u f
  | .pull q x o,v=>∃ t u,v=.ref t∧H t=some (.tup [.str "pull",.str q,.str x,u])∧q∈qs∧x∈bs∧LstIn H (DsIn bs qs H o) u
  | .draw x f,v=>∃ t u,v=.ref t∧H t=some (.tup [.str "draw",.str x,u])∧x∈bs∧FmI bs qs H u f
  | .send to sg sp rk a b,v=>∃ t u u1 u2,v=.ref t∧H t=some (.tup [.str "send",.int to,.str sg,u,.int rk,u1,u2])∧FmI bs qs H u sp∧FmI bs qs H u1 a∧FmI bs qs H u2 b
  | .ife f x y,v=>∃ t u u1 u2,v=.ref t∧H t=some (.tup [.str "if",u,u1,u2])∧FmI bs qs H u f∧LstIn H (DsIn bs qs H x) u1∧LstIn H (DsIn bs qs H y) u2
  | .fin,v=>∃ t,v=.ref t∧H t=some (.tup [.str "end"])
def DsIn (bs qs:List Str) (H:Hp):Ds→List V→Prop
  | .nil,vs=>vs=[]
  | .cons d r,vs=>∃ v vr,vs=v :: vr∧DdIn bs qs H d v∧DsIn bs qs H r vr
end
theorem LstIn.same {H H':Hp} (s:Same H H') {R R':List V→Prop} (f:∀ vs,R vs→R' vs) {v:V} (h:LstIn H R v):LstIn H' R' v:=by
  obtain ⟨l,vs,e,h1,h2,h3⟩:=h
  exact ⟨l,vs,e,s _ _ h1,h2,f vs h3⟩
theorem FmI.same {bs qs:List Str} {H H':Hp} (s:Same H H') {v:V} {f:Fm} (h:FmI bs qs H v f):FmI bs qs H' v f:=⟨h.1.same s,h.2⟩
mutual
theorem DdIn.same {bs qs:List Str} {H H':Hp} (s:Same H H'):∀ (d:Dd) (v:V),DdIn bs qs H d v→DdIn bs qs H' d v
  | .put x f,v,h=>by
    obtain ⟨t,u,e,h1,h2,h3⟩:=(by simpa only [DdIn] using h)
    simp only [DdIn]
    exact ⟨t,u,e,s _ _ h1,h2,h3.same s⟩
  | .push q f,v,h=>by
    obtain ⟨t,u,e,h1,h2,h3⟩:=(by simpa only [DdIn] using h)
    simp only [DdIn]
    exact ⟨t,u,e,s _ _ h1,h2,h3.same s⟩
  | .pull q x o,v,h=>by
    obtain ⟨t,u,e,h1,h2,h3,h4⟩:=(by simpa only [DdIn] using h)
    simp only [DdIn]
    exact ⟨t,u,e,s _ _ h1,h2,h3,h4.same s (DsIn.same s o)⟩
  | .draw x f,v,h=>by
    obtain ⟨t,u,e,h1,h2,h3⟩:=(by simpa only [DdIn] using h)
    simp only [DdIn]
    exact ⟨t,u,e,s _ _ h1,h2,h3.same s⟩
  | .send to sg sp rk a b,v,h=>by
    obtain ⟨t,u,u1,u2,e,h1,h2,h3,h4⟩:=(by simpa only [DdIn] using h)
    simp only [DdIn]
    exact ⟨t,u,u1,u2,e,s _ _ h1,h2.same s,h3.same s,h4.same s⟩
  | .ife f x y,v,h=>by
    obtain ⟨t,u,u1,u2,e,h1,h2,h3,h4⟩:=(by simpa only [DdIn] using h)
    simp only [DdIn]
    exact ⟨t,u,u1,u2,e,s _ _ h1,h2.same s,h3.same s (DsIn.same s x),h4.same s (DsIn.same s y)⟩
  | .fin,v,h=>by
    obtain ⟨t,e,h1⟩:=(by simpa only [DdIn] using h)
    simp only [DdIn]
    exact ⟨t,e,s _ _ h1⟩
theorem DsIn.same {bs qs:List Str} {H H':Hp} (s:Same H H'):∀ (d:Ds) (vs:List V),DsIn bs qs H d vs→DsIn bs qs H' d vs
  | .nil,vs,h=>by
    simpa only [DsIn] using h
  | .cons d r,vs,h=>by
    obtain ⟨v,vr,e,h1,h2⟩:=(by simpa only [DsIn] using h)
    simp only [DsIn]
    exact ⟨v,vr,e,DdIn.same s d v h1,DsIn.same s r vr h2⟩
end
def EvIn (H:Hp) (v:V) (e:Ev):Prop:=∃ t k,v=.ref t∧H t=some (.tup [.ref k,.int e.to,.str e.sg,.int e.a,.int e.b])∧H k=some (.tup [.int e.t,.int e.r,.int e.fr,.int e.c])
theorem EvIn.same {H H':Hp} (s:Same H H') {v:V} {e:Ev} (h:EvIn H v e):EvIn H' v e:=by
  obtain ⟨t,k,e1,h1,h2⟩:=h
  exact ⟨t,k,e1,s _ _ h1,s _ _ h2⟩
def boK (ps:List (Str×Int)):List (Key×V):=ps.map fun p=>((Sum.inr p.1:Key),V.int p.2)
def quK (ps:List (Str×Addr)):List (Key×V):=ps.map fun p=>((Sum.inr p.1:Key),V.ref p.2)
def wrK (xs:List Str):List (Key×V):=xs.map fun x=>((Sum.inr x:Key),V.bl true)
theorem tab_val {α:Type} (g:α→V) (x:Str):∀ ps:List (Str×α),valV (ps.map fun p=>((Sum.inr p.1:Key),g p.2)) (Sum.inr x)=(ps.lookup x).map g
  | []=>rfl
  | p :: ps=>by
    rw [List.map_cons]
    by_cases c:p.1=x
    · rw [valV_pos (by rw [c])]
      obtain ⟨a,b⟩:=p
      dsimp only at c
      subst c
      rw [List.lookup_cons_self]
      rfl
    · rw [valV_neg (fun z=>c (Sum.inr.inj z)),tab_val g x ps]
      obtain ⟨a,b⟩:=p
      dsimp only at c
      rw [List.lookup_cons]
      have:(x == a)=false:=beq_eq_false_iff_ne.mpr fun z=>c z.symm
      rw [this]
theorem tab_put {α:Type} (g:α→V) (x:Str) (n:α) {ps:List (Str×α)} (h:(ps.lookup x).isSome=true):putK (ps.map fun p=>((Sum.inr p.1:Key),g p.2)) (Sum.inr x) (g n)=(setA ps x n).map fun p=>((Sum.inr p.1:Key),g p.2):=by
  unfold putK
  rw [valV_any,tab_val,Option.isSome_map,h,if_pos rfl]
  unfold setA
  rw [List.map_map,List.map_map]
  apply List.map_congr_left
  intro p _
  by_cases c:p.1=x
  · simp only [Function.comp,c,if_true]
  · simp only [Function.comp,if_neg c,if_neg (fun z=>c (Sum.inr.inj z):¬ (Sum.inr p.1:Key)=Sum.inr x)]
theorem wrK_val (xs:List Str) (x:Str):valV (wrK xs) (Sum.inr x)=if x∈xs then some (.bl true) else none:=by
  induction xs with
  | nil=>rfl
  | cons y xs ih =>
    unfold wrK at ih ⊢
    rw [List.map_cons]
    by_cases c:y=x
    · rw [valV_pos (by rw [c]),if_pos (by rw [c]; exact List.mem_cons_self)]
    · rw [valV_neg (fun z=>c (Sum.inr.inj z)),ih]
      by_cases m:x∈xs
      · rw [if_pos m,if_pos (List.mem_cons_of_mem _ m)]
      · rw [if_neg m,if_neg]
        intro z
        rcases List.mem_cons.mp z with z | z
        · exact c z.symm
        · exact m z
theorem wrK_put (xs:List Str) (x:Str):putK (wrK xs) (Sum.inr x) (.bl true)=wrK (addS xs x):=by
  unfold putK
  rw [valV_any,wrK_val]
  by_cases m:x∈xs
  · rw [if_pos m]
    unfold addS
    rw [if_pos m]
    show (if true=true then _ else _)=_
    rw [if_pos rfl]
    unfold wrK
    rw [List.map_map]
    apply List.map_congr_left
    intro y _
    by_cases c:y=x
    · simp only [Function.comp,c,if_true]
    · simp only [Function.comp,if_neg (fun z=>c (Sum.inr.inj z):¬ (Sum.inr y:Key)=Sum.inr x)]
  · rw [if_neg m]
    unfold addS
    rw [if_neg m]
    show (if false=true then _ else _)=_
    rw [if_neg (by decide)]
    unfold wrK
    rw [List.map_append]
    rfl
theorem setA_keys {α:Type} (ps:List (Str×α)) (x:Str) (n:α):(setA ps x n).map (·.1)=ps.map (·.1):=by
  unfold setA
  rw [List.map_map]
  apply List.map_congr_left
  intro p _
  show (if p.1=x then (p.1,n) else p).1=p.1
  split <;> rfl
theorem look_some {α:Type} {x:Str}:∀ {ps:List (Str×α)},x∈ps.map (·.1)→∃ a,ps.lookup x=some a∧(x,a)∈ps
  | [],h=>by cases h
  | p :: ps,h=>by
    obtain ⟨k,a⟩:=p
    by_cases c:x=k
    · subst c
      exact ⟨a,List.lookup_cons_self,List.mem_cons_self⟩
    · have h':x∈ps.map (·.1):=by
        rcases List.mem_cons.mp h with z | z
        · exact absurd z c
        · exact z
      obtain ⟨b,h1,h2⟩:=look_some h'
      refine ⟨b,?_,List.mem_cons_of_mem _ h2⟩
      rw [List.lookup_cons,beq_eq_false_iff_ne.mpr c]
      exact h1
theorem mem_setA {α:Type} {x:Str} {n:α} {ps:List (Str×α)} {q:Str×α} (h:q∈setA ps x n):q∈ps∨q.2=n:=by
  obtain ⟨p,hp,e⟩:=List.mem_map.mp h
  by_cases c:p.1=x
  · rw [if_pos c] at e
    subst e
    exact .inr rfl
  · rw [if_neg c] at e
    subst e
    exact .inl hp
end My
namespace My
open PySem L2
structure DT (K:PySem.W.Frag) (mg:Str→Option Value) (CD:Addr):Prop where
  cl:Cls K CD
  nM:NoAttr K CD "machine"
  nH:NoAttr K CD "happening"
  nS:NoAttr K CD "state"
  nW:NoAttr K CD "written"
  nO:NoAttr K CD "outgoing"
  nE:NoAttr K CD "ends"
  nR:NoAttr K CD "reckoned"
  nQ:NoAttr K CD "queued"
  mD:mg "Doing"=some (.ref CD)
def dF (m h:V) (st wd od:Addr) (en:Bool) (rd ud:Addr):List (Str×V):=[("machine",m),("happening",h),("state",.ref st),("written",.ref wd),("outgoing",.ref od),("ends",.bl en),("reckoned",.ref rd),("queued",.ref ud)]
abbrev dNames:List Str:=["machine","happening","state","written","outgoing","ends","reckoned","queued"]
theorem dF_m (m h:V) (st wd od:Addr) (en:Bool) (rd ud:Addr):(dF m h st wd od en rd ud).lookup ("machine":Str)=some m:=List.lookup_cons_self
theorem lk_ne {k x:Str} {v:V} {r:List (Str×V)} (h:(x == k)=false):((k,v) :: r).lookup x=r.lookup x:=by rw [List.lookup_cons,h]
theorem dF_h (m h:V) (st wd od:Addr) (en:Bool) (rd ud:Addr):(dF m h st wd od en rd ud).lookup ("happening":Str)=some h:=by
  unfold dF
  rw [lk_ne (by decide +kernel),List.lookup_cons_self]
theorem dF_s (m h:V) (st wd od:Addr) (en:Bool) (rd ud:Addr):(dF m h st wd od en rd ud).lookup ("state":Str)=some (.ref st):=by
  unfold dF
  rw [lk_ne (by decide +kernel),lk_ne (by decide +kernel),List.lookup_cons_self]
theorem dF_w (m h:V) (st wd od:Addr) (en:Bool) (rd ud:Addr):(dF m h st wd od en rd ud).lookup ("written":Str)=some (.ref wd):=by
  unfold dF
  rw [lk_ne (by decide +kernel),lk_ne (by decide +kernel),lk_ne (by decide +kernel),List.lookup_cons_self]
theorem dF_o (m h:V) (st wd od:Addr) (en:Bool) (rd ud:Addr):(dF m h st wd od en rd ud).lookup ("outgoing":Str)=some (.ref od):=by
  unfold dF
  rw [lk_ne (by decide +kernel),lk_ne (by decide +kernel),lk_ne (by decide +kernel),lk_ne (by decide +kernel),List.lookup_cons_self]
theorem dF_e (m h:V) (st wd od:Addr) (en:Bool) (rd ud:Addr):(dF m h st wd od en rd ud).lookup ("ends":Str)=some (.bl en):=by
  unfold dF
  rw [lk_ne (by decide +kernel),lk_ne (by decide +kernel),lk_ne (by decide +kernel),lk_ne (by decide +kernel),lk_ne (by decide +kernel),List.lookup_cons_self]
theorem dF_r (m h:V) (st wd od:Addr) (en:Bool) (rd ud:Addr):(dF m h st wd od en rd ud).lookup ("reckoned":Str)=some (.ref rd):=by
  unfold dF
  rw [lk_ne (by decide +kernel),lk_ne (by decide +kernel),lk_ne (by decide +kernel),lk_ne (by decide +kernel),lk_ne (by decide +kernel),lk_ne (by decide +kernel),List.lookup_cons_self]
theorem dF_u (m h:V) (st wd od:Addr) (en:Bool) (rd ud:Addr):(dF m h st wd od en rd ud).lookup ("queued":Str)=some (.ref ud):=by
  unfold dF
  rw [lk_ne (by decide +kernel),lk_ne (by decide +kernel),lk_ne (by decide +kernel),lk_ne (by decide +kernel),lk_ne (by decide +kernel),lk_ne (by decide +kernel),lk_ne (by decide +kernel),List.lookup_cons_self]
theorem dF_no (m h:V) (st wd od:Addr) (en:Bool) (rd ud:Addr) {x:Str} (hx:dNames.contains x=false):(dF m h st wd od en rd ud).lookup x=none:=by
  have z:∀ k∈dNames,(x == k)=false:=fun k hk=>beq_eq_false_iff_ne.mpr fun e=>by
    rw [e,List.contains_iff_mem.mpr hk] at hx
    cases hx
  unfold dF
  rw [lk_ne (z _ (by simp)),lk_ne (z _ (by simp)),lk_ne (z _ (by simp)),lk_ne (z _ (by simp)),lk_ne (z _ (by simp)),lk_ne (z _ (by simp)),lk_ne (z _ (by simp)),lk_ne (z _ (by simp))]
  rfl
theorem sne {a b:Str} (h:(a == b)=false):¬ a=b:=fun e=>by
  rw [e,beq_self_eq_true] at h
  cases h
theorem dF_new (m h:V) (st wd od:Addr) (en:Bool) (rd ud:Addr):putF "queued" (.ref ud) (putF "reckoned" (.ref rd) (putF "ends" (.bl en) (putF "outgoing" (.ref od) (putF "written" (.ref wd) (putF "state" (.ref st) (putF "happening" h (putF "machine" m [])))))))=dF m h st wd od en rd ud:=by
  simp only [dF,putF,if_neg (sne (a:="machine") (b:="happening") (by decide +kernel)),if_neg (sne (a:="machine") (b:="state") (by decide +kernel)),if_neg (sne (a:="machine") (b:="written") (by decide +kernel)),if_neg (sne (a:="machine") (b:="outgoing") (by decide +kernel)),if_neg (sne (a:="machine") (b:="ends") (by decide +kernel)),if_neg (sne (a:="machine") (b:="reckoned") (by decide +kernel)),if_neg (sne (a:="machine") (b:="queued") (by decide +kernel)),if_neg (sne (a:="happening") (b:="state") (by decide +kernel)),if_neg (sne (a:="happening") (b:="written") (by decide +kernel)),if_neg (sne (a:="happening") (b:="outgoing") (by decide +kernel)),if_neg (sne (a:="happening") (b:="ends") (by decide +kernel)),if_neg (sne (a:="happening") (b:="reckoned") (by decide +kernel)),if_neg (sne (a:="happening") (b:="queued") (by decide +kernel)),if_neg (sne (a:="state") (b:="written") (by decide +kernel)),if_neg (sne (a:="state") (b:="outgoing") (by decide +kernel)),if_neg (sne (a:="state") (b:="ends") (by decide +kernel)),if_neg (sne (a:="state") (b:="reckoned") (by decide +kernel)),if_neg (sne (a:="state") (b:="queued") (by decide +kernel)),if_neg (sne (a:="written") (b:="outgoing") (by decide +kernel)),if_neg (sne (a:="written") (b:="ends") (by decide +kernel)),if_neg (sne (a:="written") (b:="reckoned") (by decide +kernel)),if_neg (sne (a:="written") (b:="queued") (by decide +kernel)),if_neg (sne (a:="outgoing") (b:="ends") (by decide +kernel)),if_neg (sne (a:="outgoing") (b:="reckoned") (by decide +kernel)),if_neg (sne (a:="outgoing") (b:="queued") (by decide +kernel)),if_neg (sne (a:="ends") (b:="reckoned") (by decide +kernel)),if_neg (sne (a:="ends") (b:="queued") (by decide +kernel)),if_neg (sne (a:="reckoned") (b:="queued") (by decide +kernel))]
theorem dF_end (m h:V) (st wd od:Addr) (en e2:Bool) (rd ud:Addr):putF "ends" (.bl e2) (dF m h st wd od en rd ud)=dF m h st wd od e2 rd ud:=by
  simp only [dF,putF,if_neg (sne (a:="machine") (b:="ends") (by decide +kernel)),if_neg (sne (a:="happening") (b:="ends") (by decide +kernel)),if_neg (sne (a:="state") (b:="ends") (by decide +kernel)),if_neg (sne (a:="written") (b:="ends") (by decide +kernel)),if_neg (sne (a:="outgoing") (b:="ends") (by decide +kernel)),if_true]
theorem stFs_eq (b q d e:V):stFs b q d e=([("boxes",b),("queues",q),("drawn",d),("sent",e)]:List (Str×V)):=by
  simp only [stFs,putF,if_neg (sne (a:="boxes") (b:="queues") (by decide +kernel)),if_neg (sne (a:="boxes") (b:="drawn") (by decide +kernel)),if_neg (sne (a:="boxes") (b:="sent") (by decide +kernel)),if_neg (sne (a:="queues") (b:="drawn") (by decide +kernel)),if_neg (sne (a:="queues") (b:="sent") (by decide +kernel)),if_neg (sne (a:="drawn") (b:="sent") (by decide +kernel))]
theorem stFs_d (b q d e d':V):putF "drawn" d' (stFs b q d e)=stFs b q d' e:=by
  rw [stFs_eq,stFs_eq]
  simp only [putF,if_neg (sne (a:="boxes") (b:="drawn") (by decide +kernel)),if_neg (sne (a:="queues") (b:="drawn") (by decide +kernel)),if_true]
theorem stFs_s (b q d e e':V):putF "sent" e' (stFs b q d e)=stFs b q d e':=by
  rw [stFs_eq,stFs_eq]
  simp only [putF,if_neg (sne (a:="boxes") (b:="sent") (by decide +kernel)),if_neg (sne (a:="queues") (b:="sent") (by decide +kernel)),if_neg (sne (a:="drawn") (b:="sent") (by decide +kernel)),if_true]
theorem st_b (b q d e:V):(stFs b q d e).lookup ("boxes":Str)=some b:=by rw [stFs_eq,List.lookup_cons_self]
theorem st_q (b q d e:V):(stFs b q d e).lookup ("queues":Str)=some q:=by rw [stFs_eq,lk_ne (by decide +kernel),List.lookup_cons_self]
theorem st_d (b q d e:V):(stFs b q d e).lookup ("drawn":Str)=some d:=by rw [stFs_eq,lk_ne (by decide +kernel),lk_ne (by decide +kernel),List.lookup_cons_self]
theorem st_s (b q d e:V):(stFs b q d e).lookup ("sent":Str)=some e:=by rw [stFs_eq,lk_ne (by decide +kernel),lk_ne (by decide +kernel),lk_ne (by decide +kernel),List.lookup_cons_self]
theorem st_no (b q d e:V) {x:Str} (hx:(["boxes","queues","drawn","sent"]:List Str).contains x=false):(stFs b q d e).lookup x=none:=by
  have z:∀ k∈(["boxes","queues","drawn","sent"]:List Str),(x == k)=false:=fun k hk=>beq_eq_false_iff_ne.mpr fun e=>by
    rw [e,List.contains_iff_mem.mpr hk] at hx
    cases hx
  rw [stFs_eq,lk_ne (z _ (by simp)),lk_ne (z _ (by simp)),lk_ne (z _ (by simp)),lk_ne (z _ (by simp))]
  rfl
theorem st_few (b q d e:V):(stFs b q d e).length < 1000:=by
  rw [stFs_eq]
  show 4 < 1000
  decide
theorem dF_few (m h:V) (st wd od:Addr) (en:Bool) (rd ud:Addr):(dF m h st wd od en rd ud).length < 1000:=by show 8 < 1000; decide
structure Lay where
  d:Addr
  dx:Addr
  st:Addr
  dxs:Addr
  bd:Addr
  qd:Addr
  wd:Addr
  od:Addr
  rd:Addr
  ud:Addr
  m:V
  hv:V
  qa:List (Str×Addr)
def Lay.all (L:Lay):List Addr:=L.d :: L.st :: L.bd :: L.qd :: L.wd :: L.od :: L.rd :: L.ud :: L.qa.map (·.2)
def QuIn (G:Hp):List (Str×Addr)→List (Str×List Int)→Prop:=Paired fun p q=>p.1=q.1∧G p.2=some (.lst (q.2.map V.int))
structure WkOk (bs qs:List Str) (w:Wk):Prop where
  kb:w.bx.map (·.1)=bs
  kq:w.qu.map (·.1)=qs
  nb:bs.Nodup
  nq:qs.Nodup
  wb:∀ p∈w.bx,Wo p.2
  wq:∀ p∈w.qu,p.2.length≤30∧∀ n∈p.2,Wo n
  nw:w.wr.Nodup
  sw:∀ x∈w.wr,x∈bs++qs
  nu:w.qn.Nodup
  su:∀ x∈w.qn,x∈bs++qs
  wo:∀ e∈w.out,Wo e.a∧Wo e.b
  fw:(bs++qs).length < 100
structure Dg (CD CS:Addr) (bs qs:List Str) (H0 G:Hp) (L:Lay) (h:Ev) (ds:List Int) (w:Wk):Prop where
  sm:Same H0 G
  hd:G L.d=some (.ins CD L.dx (dF L.m L.hv L.st L.wd L.od w.en L.rd L.ud))
  hst:G L.st=some (.ins CS L.dxs (stFs (.ref L.bd) (.ref L.qd) (.int w.dr) (.int w.se)))
  hb:G L.bd=some (.dK (boK w.bx))
  hq:G L.qd=some (.dK (quK L.qa))
  hl:QuIn G L.qa w.qu
  hw:G L.wd=some (.dK (wrK w.wr))
  ho:∃ vs,G L.od=some (.lst vs)∧Paired (EvIn G) vs w.out
  hr:∃ rs,G L.rd=some (.lst rs)∧Paired (FmI bs qs H0) rs w.rk
  hu:G L.ud=some (.dK (wrK w.qn))
  hh:EvIn H0 L.hv h
  hm:∃ t x1 x2 x3 x4 dl,L.m=.ref t∧H0 t=some (.tup [x1,x2,x3,.ref dl,x4])∧H0 dl=some (.lst (ds.map V.int))
  nd:L.all.Nodup
  fr:∀ a∈L.all,H0 a=none
  ok:WkOk bs qs w
  wt:Wo h.t
  wa:Wo h.a
  wb:Wo h.b
section
variable {CD CS:Addr} {bs qs:List Str} {H0 G G':Hp} {L:Lay} {h:Ev} {ds:List Int} {w:Wk}
theorem QuIn.keep (k:∀ a u,G a=some u→a∈L.qa.map (·.2)→G' a=some u) {qa:List (Str×Addr)} {qu:List (Str×List Int)} (sub:∀ p∈qa,p∈L.qa) (q:QuIn G qa qu):QuIn G' qa qu:=by
  unfold QuIn at q ⊢
  induction q with
  | nil=>exact .nil
  | cons a _ ih=>exact .cons ⟨a.1,k _ _ a.2 (List.mem_map.mpr ⟨_,sub _ List.mem_cons_self,rfl⟩)⟩ (ih fun p hp=>sub p (List.mem_cons_of_mem _ hp))
theorem Paired.mono {α β:Type} {R S:α→β→Prop} (f:∀ a b,R a b→S a b) {xs:List α} {ys:List β} (r:Paired R xs ys):Paired S xs ys:=L2.Paired.imp' f r
theorem Dg.same (g:Dg CD CS bs qs H0 G L h ds w) (s:Same G G'):Dg CD CS bs qs H0 G' L h ds w:=by
  obtain ⟨vs,o1,o2⟩:=g.ho
  obtain ⟨rs,r1,r2⟩:=g.hr
  exact ⟨g.sm.trans s,s _ _ g.hd,s _ _ g.hst,s _ _ g.hb,s _ _ g.hq,g.hl.keep (L:=L) (fun a u e _=>s _ _ e) (fun _ hp=>hp),s _ _ g.hw,⟨vs,s _ _ o1,Paired.mono (fun _ _ z=>z.same s) o2⟩,⟨rs,s _ _ r1,r2⟩,s _ _ g.hu,g.hh,g.hm,g.nd,g.fr,g.ok,g.wt,g.wa,g.wb⟩
structure Lay.Ne (L:Lay):Prop where
  ds:L.d≠L.st
  db:L.d≠L.bd
  dq:L.d≠L.qd
  dw:L.d≠L.wd
  do_:L.d≠L.od
  dr:L.d≠L.rd
  du:L.d≠L.ud
  dl:∀ a∈L.qa.map (·.2),L.d≠a
  sb:L.st≠L.bd
  sq:L.st≠L.qd
  sw:L.st≠L.wd
  so:L.st≠L.od
  sr:L.st≠L.rd
  su:L.st≠L.ud
  sl:∀ a∈L.qa.map (·.2),L.st≠a
  bq:L.bd≠L.qd
  bw:L.bd≠L.wd
  bo:L.bd≠L.od
  br:L.bd≠L.rd
  bu:L.bd≠L.ud
  bl:∀ a∈L.qa.map (·.2),L.bd≠a
  qw:L.qd≠L.wd
  qo:L.qd≠L.od
  qr:L.qd≠L.rd
  qu:L.qd≠L.ud
  ql:∀ a∈L.qa.map (·.2),L.qd≠a
  wo:L.wd≠L.od
  wr:L.wd≠L.rd
  wu:L.wd≠L.ud
  wl:∀ a∈L.qa.map (·.2),L.wd≠a
  or:L.od≠L.rd
  ou:L.od≠L.ud
  ol:∀ a∈L.qa.map (·.2),L.od≠a
  ru:L.rd≠L.ud
  rl:∀ a∈L.qa.map (·.2),L.rd≠a
  ul:∀ a∈L.qa.map (·.2),L.ud≠a
  ll:(L.qa.map (·.2)).Nodup
theorem Lay.ne (nd:L.all.Nodup):L.Ne:=by
  unfold Lay.all at nd
  have cut:∀ {a:Addr} {xs:List Addr},(a :: xs).Nodup→(∀ b∈xs,a≠b)∧xs.Nodup:=fun {a xs} z=>by
    obtain ⟨z1,z2⟩:=List.nodup_cons.mp z
    exact ⟨fun b hb e=>z1 (by rw [e]; exact hb),z2⟩
  obtain ⟨a1,nd⟩:=cut nd
  obtain ⟨a2,nd⟩:=cut nd
  obtain ⟨a3,nd⟩:=cut nd
  obtain ⟨a4,nd⟩:=cut nd
  obtain ⟨a5,nd⟩:=cut nd
  obtain ⟨a6,nd⟩:=cut nd
  obtain ⟨a7,nd⟩:=cut nd
  obtain ⟨a8,nd⟩:=cut nd
  have i1:∀ {b:Addr} {xs:List Addr},b∈b :: xs:=List.mem_cons_self
  have i2:∀ {a b:Addr} {xs:List Addr},b∈xs→b∈a :: xs:=fun z=>List.mem_cons_of_mem _ z
  exact ⟨a1 _ i1,a1 _ (i2 i1),a1 _ (i2 (i2 i1)),a1 _ (i2 (i2 (i2 i1))),a1 _ (i2 (i2 (i2 (i2 i1)))),a1 _ (i2 (i2 (i2 (i2 (i2 i1))))),a1 _ (i2 (i2 (i2 (i2 (i2 (i2 i1)))))),fun a ha=>a1 _ (i2 (i2 (i2 (i2 (i2 (i2 (i2 ha))))))),a2 _ i1,a2 _ (i2 i1),a2 _ (i2 (i2 i1)),a2 _ (i2 (i2 (i2 i1))),a2 _ (i2 (i2 (i2 (i2 i1)))),a2 _ (i2 (i2 (i2 (i2 (i2 i1))))),fun a ha=>a2 _ (i2 (i2 (i2 (i2 (i2 (i2 ha)))))),a3 _ i1,a3 _ (i2 i1),a3 _ (i2 (i2 i1)),a3 _ (i2 (i2 (i2 i1))),a3 _ (i2 (i2 (i2 (i2 i1)))),fun a ha=>a3 _ (i2 (i2 (i2 (i2 (i2 ha))))),a4 _ i1,a4 _ (i2 i1),a4 _ (i2 (i2 i1)),a4 _ (i2 (i2 (i2 i1))),fun a ha=>a4 _ (i2 (i2 (i2 (i2 ha)))),a5 _ i1,a5 _ (i2 i1),a5 _ (i2 (i2 i1)),fun a ha=>a5 _ (i2 (i2 (i2 ha))),a6 _ i1,a6 _ (i2 i1),fun a ha=>a6 _ (i2 (i2 ha)),a7 _ i1,fun a ha=>a7 _ (i2 ha),fun a ha=>a8 _ ha,nd⟩
theorem ev_keep {a:Addr} {o:HO} (nt:∀ xs,G a≠some (.tup xs)) {vs:List V} {es:List Ev} (r:Paired (EvIn G) vs es):Paired (EvIn (upd G a o)) vs es:=
  Paired.mono (fun v e z=>by
    obtain ⟨t,k,e1,h1,h2⟩:=z
    refine ⟨t,k,e1,?_,?_⟩
    · rw [upd_ne fun y=>nt _ (by rw [← y]; exact h1)]
      exact h1
    · rw [upd_ne fun y=>nt _ (by rw [← y]; exact h2)]
      exact h2) r
theorem Dg.sm_upd (g:Dg CD CS bs qs H0 G L h ds w) {a:Addr} (ha:a∈L.all) (o:HO):Same H0 (upd G a o):=fun b u e=>by
  rw [upd_ne (ne_of_none e (g.fr a ha))]
  exact g.sm _ _ e
theorem in_d:L.d∈L.all:=List.mem_cons_self
theorem in_st:L.st∈L.all:=List.mem_cons_of_mem _ List.mem_cons_self
theorem in_bd:L.bd∈L.all:=List.mem_cons_of_mem _ (List.mem_cons_of_mem _ List.mem_cons_self)
theorem in_wd:L.wd∈L.all:=List.mem_cons_of_mem _ (List.mem_cons_of_mem _ (List.mem_cons_of_mem _ (List.mem_cons_of_mem _ List.mem_cons_self)))
theorem in_od:L.od∈L.all:=List.mem_cons_of_mem _ (List.mem_cons_of_mem _ (List.mem_cons_of_mem _ (List.mem_cons_of_mem _ (List.mem_cons_of_mem _ List.mem_cons_self))))
theorem in_rd:L.rd∈L.all:=List.mem_cons_of_mem _ (List.mem_cons_of_mem _ (List.mem_cons_of_mem _ (List.mem_cons_of_mem _ (List.mem_cons_of_mem _ (List.mem_cons_of_mem _ List.mem_cons_self)))))
theorem in_ud:L.ud∈L.all:=List.mem_cons_of_mem _ (List.mem_cons_of_mem _ (List.mem_cons_of_mem _ (List.mem_cons_of_mem _ (List.mem_cons_of_mem _ (List.mem_cons_of_mem _ (List.mem_cons_of_mem _ List.mem_cons_self))))))
theorem in_l {a:Addr} (h:a∈L.qa.map (·.2)):a∈L.all:=List.mem_cons_of_mem _ (List.mem_cons_of_mem _ (List.mem_cons_of_mem _ (List.mem_cons_of_mem _ (List.mem_cons_of_mem _ (List.mem_cons_of_mem _ (List.mem_cons_of_mem _ (List.mem_cons_of_mem _ h)))))))
theorem hv_ne {o o':HO} {a b:Addr} (e:G a=some o) (n:a≠b):upd G b o' a=some o:=by rw [upd_ne n]; exact e
theorem not_tup {o:HO} {a:Addr} (e:G a=some o) (n:∀ xs,o≠.tup xs):∀ xs,G a≠some (.tup xs):=fun xs z=>by
  rw [e] at z
  cases z
  exact n xs rfl
theorem Dg.box (g:Dg CD CS bs qs H0 G L h ds w) {x:Str} {n:Int} (wn:Wo n):Dg CD CS bs qs H0 (upd G L.bd (.dK (boK (setA w.bx x n)))) L h ds {w with bx:=setA w.bx x n}:=by
  have N:=Lay.ne g.nd
  obtain ⟨vs,o1,o2⟩:=g.ho
  obtain ⟨rs,r1,r2⟩:=g.hr
  refine ⟨g.sm_upd in_bd _,hv_ne g.hd N.db,hv_ne g.hst N.sb,upd_same,hv_ne g.hq N.bq.symm,g.hl.keep (L:=L) (fun a u e m=>hv_ne e (N.bl a m).symm) (fun _ hp=>hp),hv_ne g.hw N.bw.symm,⟨vs,hv_ne o1 N.bo.symm,ev_keep (not_tup g.hb (fun _ z=>by cases z)) o2⟩,⟨rs,hv_ne r1 N.br.symm,r2⟩,hv_ne g.hu N.bu.symm,g.hh,g.hm,g.nd,g.fr,?_,g.wt,g.wa,g.wb⟩
  obtain ⟨kb,kq,nb,nq,wb,wq,nw,sw,nu,su,wo,fw⟩:=g.ok
  refine ⟨(setA_keys _ _ _).trans kb,kq,nb,nq,fun p hp=>?_,wq,nw,sw,nu,su,wo,fw⟩
  rcases mem_setA hp with z | z
  · exact wb p z
  · rw [z]
    exact wn
theorem addS_nd {xs:List Str} {x:Str} (h:xs.Nodup):(addS xs x).Nodup:=by
  unfold addS
  by_cases c:x∈xs
  · rw [if_pos c]
    exact h
  · rw [if_neg c]
    refine List.nodup_append.mpr ⟨h,by simp,fun a ha b hb=>?_⟩
    rw [List.mem_singleton.mp hb]
    exact fun z=>c (by rw [← z]; exact ha)
theorem addS_mem {xs:List Str} {x y:Str} (h:y∈addS xs x):y∈xs∨y=x:=by
  unfold addS at h
  by_cases c:x∈xs
  · rw [if_pos c] at h
    exact .inl h
  · rw [if_neg c] at h
    rcases List.mem_append.mp h with z | z
    · exact .inl z
    · exact .inr (List.mem_singleton.mp z)
theorem nd_len {xs:List Str}:∀ {ys:List Str},xs.Nodup→(∀ x∈xs,x∈ys)→xs.length≤ys.length:=by
  induction xs with
  | nil=>intro ys _ _; exact Nat.zero_le _
  | cons x xs ih =>
    intro ys nd s
    obtain ⟨n1,n2⟩:=List.nodup_cons.mp nd
    have hx:x∈ys:=s x List.mem_cons_self
    have:=ih (ys:=ys.erase x) n2 fun z hz=>(List.mem_erase_of_ne (fun e=>n1 (by rw [← e]; exact hz))).mpr (s z (List.mem_cons_of_mem _ hz))
    rw [List.length_erase_of_mem hx] at this
    have:=List.length_pos_of_mem hx
    rw [List.length_cons]
    omega
theorem WkOk.few (k:WkOk bs qs w):w.wr.length < 100:=Nat.lt_of_le_of_lt (nd_len k.nw k.sw) k.fw
theorem WkOk.few2 (k:WkOk bs qs w):w.qn.length < 100:=Nat.lt_of_le_of_lt (nd_len k.nu k.su) k.fw
theorem wrK_len (xs:List Str):(wrK xs).length=xs.length:=List.length_map _
theorem line1000:1000 < sizeLine:=by decide
theorem Dg.wrote (g:Dg CD CS bs qs H0 G L h ds w) {x:Str} (hx:x∈bs++qs):Dg CD CS bs qs H0 (upd G L.wd (.dK (wrK (addS w.wr x)))) L h ds {w with wr:=addS w.wr x}:=by
  have N:=Lay.ne g.nd
  obtain ⟨vs,o1,o2⟩:=g.ho
  obtain ⟨rs,r1,r2⟩:=g.hr
  refine ⟨g.sm_upd in_wd _,hv_ne g.hd N.dw,hv_ne g.hst N.sw,hv_ne g.hb N.bw,hv_ne g.hq N.qw,g.hl.keep (L:=L) (fun a u e m=>hv_ne e (N.wl a m).symm) (fun _ hp=>hp),upd_same,⟨vs,hv_ne o1 N.wo.symm,ev_keep (not_tup g.hw (fun _ z=>by cases z)) o2⟩,⟨rs,hv_ne r1 N.wr.symm,r2⟩,hv_ne g.hu N.wu.symm,g.hh,g.hm,g.nd,g.fr,?_,g.wt,g.wa,g.wb⟩
  obtain ⟨kb,kq,nb,nq,wb,wq,nw,sw,nu,su,wo,fw⟩:=g.ok
  refine ⟨kb,kq,nb,nq,wb,wq,addS_nd nw,fun y hy=>?_,nu,su,wo,fw⟩
  rcases addS_mem hy with z | z
  · exact sw y z
  · rw [z]
    exact hx
theorem QuIn.at_ {x:Str}:∀ {qa:List (Str×Addr)} {qu:List (Str×List Int)},QuIn G qa qu→x∈qu.map (·.1)→∃ l,qa.lookup x=some l∧G l=some (.lst ((getQ qu x).map V.int))∧l∈qa.map (·.2)
  | _,_,.nil,m=>by cases m
  | (k,l) :: qa,(k',xs) :: qu,.cons a b,m=>by
    obtain ⟨e,ha⟩:=a
    dsimp only at e ha
    subst e
    by_cases c:x=k
    · subst c
      refine ⟨l,List.lookup_cons_self,?_,List.mem_cons_self⟩
      unfold getQ
      rw [List.lookup_cons_self]
      exact ha
    · have m':x∈qu.map (·.1):=by
        rcases List.mem_cons.mp m with z | z
        · exact absurd z c
        · exact z
      obtain ⟨l',h1,h2,h3⟩:=QuIn.at_ b m'
      refine ⟨l',?_,?_,List.mem_cons_of_mem _ h3⟩
      · rw [List.lookup_cons,beq_eq_false_iff_ne.mpr c]
        exact h1
      · unfold getQ at h2 ⊢
        rw [List.lookup_cons,beq_eq_false_iff_ne.mpr c]
        exact h2
theorem look_mem {α:Type} {x:Str} {a:α}:∀ {ps:List (Str×α)},ps.lookup x=some a→(x,a)∈ps
  | [],h=>by cases h
  | (k,b) :: ps,h=>by
    by_cases c:x=k
    · subst c
      rw [List.lookup_cons_self] at h
      cases h
      exact List.mem_cons_self
    · rw [List.lookup_cons,beq_eq_false_iff_ne.mpr c] at h
      exact List.mem_cons_of_mem _ (look_mem h)
theorem setA_none {α:Type} {x:Str} {n:α} {ps:List (Str×α)} (h:x∉ps.map (·.1)):setA ps x n=ps:=by
  unfold setA
  have:∀ p∈ps,(if p.1=x then (p.1,n) else p)=p:=fun p hp=>if_neg fun e=>h (List.mem_map.mpr ⟨p,hp,e⟩)
  rw [List.map_congr_left this]
  exact List.map_id _
theorem QuIn.set {x:Str} {l:Addr} {ns:List Int}:∀ {qa:List (Str×Addr)} {qu:List (Str×List Int)},QuIn G qa qu→(qa.map (·.2)).Nodup→(qu.map (·.1)).Nodup→qa.lookup x=some l→QuIn (upd G l (.lst (ns.map V.int))) qa (setA qu x ns)
  | _,_,.nil,_,_,e=>by cases e
  | (k,l0) :: qa,(k',xs) :: qu,.cons a b,nd,nk,e=>by
    obtain ⟨ek,ha⟩:=a
    dsimp only at ek ha
    subst ek
    obtain ⟨n1,n2⟩:=List.nodup_cons.mp nd
    obtain ⟨m1,m2⟩:=List.nodup_cons.mp nk
    by_cases c:x=k
    · subst c
      rw [List.lookup_cons_self] at e
      cases e
      show QuIn _ _ ((if x=x then (x,ns) else (x,xs)) :: setA qu x ns)
      rw [if_pos rfl,setA_none m1]
      refine .cons ⟨rfl,upd_same⟩ ?_
      refine QuIn.keep (L:=⟨0,0,0,0,0,0,0,0,0,0,.non,.non,qa⟩) (G:=G) (fun a u e m=>hv_ne e fun z=>n1 (by rw [← z]; exact m)) (fun _ hp=>hp) b
    · rw [List.lookup_cons,beq_eq_false_iff_ne.mpr c] at e
      show QuIn _ _ ((if k=x then (k,ns) else (k,xs)) :: setA qu x ns)
      rw [if_neg fun z=>c z.symm]
      refine .cons ⟨rfl,hv_ne ha fun z=>n1 ?_⟩ (QuIn.set b n2 m2 e)
      show l0∈qa.map (·.2)
      rw [show l0=l from z]
      exact List.mem_map.mpr ⟨_,look_mem e,rfl⟩
theorem Dg.queue (g:Dg CD CS bs qs H0 G L h ds w) {x:Str} {l:Addr} {ns:List Int} (hl:L.qa.lookup x=some l) (len:ns.length≤30) (wn:∀ n∈ns,Wo n):Dg CD CS bs qs H0 (upd G l (.lst (ns.map V.int))) L h ds {w with qu:=setA w.qu x ns}:=by
  have N:=Lay.ne g.nd
  have ml:l∈L.qa.map (·.2):=List.mem_map.mpr ⟨_,look_mem hl,rfl⟩
  obtain ⟨vs,o1,o2⟩:=g.ho
  obtain ⟨rs,r1,r2⟩:=g.hr
  obtain ⟨kb,kq,nb,nq,wb,wq,nw,sw,nu,su,wo,fw⟩:=g.ok
  have gl:∃ xs,G l=some (.lst xs):=by
    have key:∀ {qa:List (Str×Addr)} {qu:List (Str×List Int)},QuIn G qa qu→l∈qa.map (·.2)→∃ xs,G l=some (.lst xs):=fun {qa qu} q=>by
      induction q with
      | nil=>intro m; cases m
      | cons a _ ih =>
        intro m
        rcases List.mem_cons.mp m with z | z
        · rw [z]
          exact ⟨_,a.2⟩
        · exact ih z
    exact key g.hl ml
  obtain ⟨xs,gl⟩:=gl
  refine ⟨g.sm_upd (in_l ml) _,hv_ne g.hd (N.dl l ml),hv_ne g.hst (N.sl l ml),hv_ne g.hb (N.bl l ml),hv_ne g.hq (N.ql l ml),g.hl.set N.ll (by rw [kq]; exact nq) hl,hv_ne g.hw (N.wl l ml),⟨vs,hv_ne o1 (N.ol l ml),ev_keep (not_tup gl (fun _ z=>by cases z)) o2⟩,⟨rs,hv_ne r1 (N.rl l ml),r2⟩,hv_ne g.hu (N.ul l ml),g.hh,g.hm,g.nd,g.fr,?_,g.wt,g.wa,g.wb⟩
  refine ⟨kb,(setA_keys _ _ _).trans kq,nb,nq,wb,fun p hp=>?_,nw,sw,nu,su,wo,fw⟩
  rcases mem_setA hp with z | z
  · exact wq p z
  · rw [z]
    exact ⟨len,wn⟩
theorem Dg.counts (g:Dg CD CS bs qs H0 G L h ds w) (dr:Nat) (se:Int):Dg CD CS bs qs H0 (upd G L.st (.ins CS L.dxs (stFs (.ref L.bd) (.ref L.qd) (.int dr) (.int se)))) L h ds {w with dr:=dr,se:=se}:=by
  have N:=Lay.ne g.nd
  obtain ⟨vs,o1,o2⟩:=g.ho
  obtain ⟨rs,r1,r2⟩:=g.hr
  obtain ⟨kb,kq,nb,nq,wb,wq,nw,sw,nu,su,wo,fw⟩:=g.ok
  exact ⟨g.sm_upd in_st _,hv_ne g.hd N.ds,upd_same,hv_ne g.hb N.sb.symm,hv_ne g.hq N.sq.symm,g.hl.keep (L:=L) (fun a u e m=>hv_ne e (N.sl a m).symm) (fun _ hp=>hp),hv_ne g.hw N.sw.symm,⟨vs,hv_ne o1 N.so.symm,ev_keep (not_tup g.hst (fun _ z=>by cases z)) o2⟩,⟨rs,hv_ne r1 N.sr.symm,r2⟩,hv_ne g.hu N.su.symm,g.hh,g.hm,g.nd,g.fr,⟨kb,kq,nb,nq,wb,wq,nw,sw,nu,su,wo,fw⟩,g.wt,g.wa,g.wb⟩
theorem Dg.sent (g:Dg CD CS bs qs H0 G L h ds w) {vs:List V} {v:V} {e:Ev} (hv:G L.od=some (.lst vs)) (he:EvIn G v e) (we:Wo e.a∧Wo e.b):Dg CD CS bs qs H0 (upd G L.od (.lst (vs++[v]))) L h ds {w with out:=w.out++[e]}:=by
  have N:=Lay.ne g.nd
  obtain ⟨vs',o1,o2⟩:=g.ho
  obtain ⟨rs,r1,r2⟩:=g.hr
  rw [hv] at o1
  cases o1
  obtain ⟨kb,kq,nb,nq,wb,wq,nw,sw,nu,su,wo,fw⟩:=g.ok
  refine ⟨g.sm_upd in_od _,hv_ne g.hd N.do_,hv_ne g.hst N.so,hv_ne g.hb N.bo,hv_ne g.hq N.qo,g.hl.keep (L:=L) (fun a u e m=>hv_ne e (N.ol a m).symm) (fun _ hp=>hp),hv_ne g.hw N.wo,⟨_,upd_same,?_⟩,⟨rs,hv_ne r1 N.or.symm,r2⟩,hv_ne g.hu N.ou.symm,g.hh,g.hm,g.nd,g.fr,⟨kb,kq,nb,nq,wb,wq,nw,sw,nu,su,fun x hx=>(List.mem_append.mp hx).elim (wo x) fun z=>by rw [List.mem_singleton.mp z]; exact we,fw⟩,g.wt,g.wa,g.wb⟩
  exact ev_keep (not_tup hv (fun _ z=>by cases z)) (Paired.snoc o2 he)
theorem Dg.ended (g:Dg CD CS bs qs H0 G L h ds w):Dg CD CS bs qs H0 (upd G L.d (.ins CD L.dx (dF L.m L.hv L.st L.wd L.od true L.rd L.ud))) L h ds {w with en:=true}:=by
  have N:=Lay.ne g.nd
  obtain ⟨vs,o1,o2⟩:=g.ho
  obtain ⟨rs,r1,r2⟩:=g.hr
  obtain ⟨kb,kq,nb,nq,wb,wq,nw,sw,nu,su,wo,fw⟩:=g.ok
  exact ⟨g.sm_upd in_d _,upd_same,hv_ne g.hst N.ds.symm,hv_ne g.hb N.db.symm,hv_ne g.hq N.dq.symm,g.hl.keep (L:=L) (fun a u e m=>hv_ne e (N.dl a m).symm) (fun _ hp=>hp),hv_ne g.hw N.dw.symm,⟨vs,hv_ne o1 N.do_.symm,ev_keep (not_tup g.hd (fun _ z=>by cases z)) o2⟩,⟨rs,hv_ne r1 N.dr.symm,r2⟩,hv_ne g.hu N.du.symm,g.hh,g.hm,g.nd,g.fr,⟨kb,kq,nb,nq,wb,wq,nw,sw,nu,su,wo,fw⟩,g.wt,g.wa,g.wb⟩
theorem Dg.reckoned (g:Dg CD CS bs qs H0 G L h ds w) {rs:List V} {v:V} {F:Fm} (hr:G L.rd=some (.lst rs)) (hF:FmI bs qs H0 v F):Dg CD CS bs qs H0 (upd G L.rd (.lst (rs++[v]))) L h ds {w with rk:=w.rk++[F]}:=by
  have N:=Lay.ne g.nd
  obtain ⟨vs,o1,o2⟩:=g.ho
  obtain ⟨rs',r1,r2⟩:=g.hr
  rw [hr] at r1
  cases r1
  obtain ⟨kb,kq,nb,nq,wb,wq,nw,sw,nu,su,wo,fw⟩:=g.ok
  exact ⟨g.sm_upd in_rd _,hv_ne g.hd N.dr,hv_ne g.hst N.sr,hv_ne g.hb N.br,hv_ne g.hq N.qr,g.hl.keep (L:=L) (fun a u e m=>hv_ne e (N.rl a m).symm) (fun _ hp=>hp),hv_ne g.hw N.wr,⟨vs,hv_ne o1 N.or,ev_keep (not_tup hr (fun _ z=>by cases z)) o2⟩,⟨_,upd_same,Paired.snoc r2 hF⟩,hv_ne g.hu N.ru.symm,g.hh,g.hm,g.nd,g.fr,⟨kb,kq,nb,nq,wb,wq,nw,sw,nu,su,wo,fw⟩,g.wt,g.wa,g.wb⟩
theorem Dg.queued (g:Dg CD CS bs qs H0 G L h ds w) {x:Str} (hx:x∈bs++qs):Dg CD CS bs qs H0 (upd G L.ud (.dK (wrK (addS w.qn x)))) L h ds {w with qn:=addS w.qn x}:=by
  have N:=Lay.ne g.nd
  obtain ⟨vs,o1,o2⟩:=g.ho
  obtain ⟨rs,r1,r2⟩:=g.hr
  obtain ⟨kb,kq,nb,nq,wb,wq,nw,sw,nu,su,wo,fw⟩:=g.ok
  refine ⟨g.sm_upd in_ud _,hv_ne g.hd N.du,hv_ne g.hst N.su,hv_ne g.hb N.bu,hv_ne g.hq N.qu,g.hl.keep (L:=L) (fun a u e m=>hv_ne e (N.ul a m).symm) (fun _ hp=>hp),hv_ne g.hw N.wu,⟨vs,hv_ne o1 N.ou,ev_keep (not_tup g.hu (fun _ z=>by cases z)) o2⟩,⟨rs,hv_ne r1 N.ru,r2⟩,upd_same,g.hh,g.hm,g.nd,g.fr,⟨kb,kq,nb,nq,wb,wq,nw,sw,addS_nd nu,fun y hy=>?_,wo,fw⟩,g.wt,g.wa,g.wb⟩
  rcases addS_mem hy with z | z
  · exact su y z
  · rw [z]
    exact hx
theorem box_at {x:Str} {ps:List (Str×Int)} (m:x∈ps.map (·.1)):valV (boK ps) (Sum.inr x)=some (.int (getB ps x)):=by
  obtain ⟨a,h1,_⟩:=look_some m
  have z:=tab_val V.int x ps
  rw [h1] at z
  unfold getB
  rw [h1]
  exact z
theorem quK_at {x:Str} {l:Addr} {qa:List (Str×Addr)} (m:qa.lookup x=some l):valV (quK qa) (Sum.inr x)=some (.ref l):=by
  have z:=tab_val V.ref x qa
  rw [m] at z
  exact z
theorem getB_wo {x:Str} (k:WkOk bs qs w) (m:x∈bs):Wo (getB w.bx x):=by
  obtain ⟨a,h1,h2⟩:=look_some (ps:=w.bx) (x:=x) (by rw [k.kb]; exact m)
  unfold getB
  rw [h1]
  exact k.wb _ h2
theorem getQ_ok {x:Str} (k:WkOk bs qs w) (m:x∈qs):(getQ w.qu x).length≤30∧∀ n∈getQ w.qu x,Wo n:=by
  obtain ⟨a,h1,h2⟩:=look_some (ps:=w.qu) (x:=x) (by rw [k.kq]; exact m)
  unfold getQ
  rw [h1]
  exact k.wq _ h2
theorem Dg.asks (g:Dg CD CS bs qs H0 G L h ds w):(askW h w).Ok bs qs:=
  ⟨fun x m=>getB_wo g.ok m,fun x m=>by
    have:=(getQ_ok g.ok m).1
    show (getQ w.qu x).length≤1000
    omega,g.wa,g.wb,g.wt⟩
theorem Dg.holds {K:PySem.W.Frag} (g:Dg CD CS bs qs H0 G L h ds w) {gl:Addr} (hg:G gl=some (.lst [.int h.a,.int h.b])):Holds K CS bs qs G L.st gl (askW h w):=
  ⟨⟨L.dxs,L.bd,L.qd,_,_,_,g.hst,st_b _ _ _ _,st_q _ _ _ _,g.hb,g.hq,fun x m=>box_at (by rw [g.ok.kb]; exact m),fun x m=>by
    obtain ⟨l,h1,h2,_⟩:=g.hl.at_ (x:=x) (by rw [g.ok.kq]; exact m)
    exact ⟨l,_,quK_at h1,h2,List.length_map _⟩⟩,hg⟩
end
end My
namespace L2
open PySem
theorem BodyX.own {X:Cx} {E:XK} (hb:BodyX X E):PassesOwn (model X.prog X.w) X.A X.env X.xe:=by
  rw [hb.xe]
  exact PassesOwn.leaving
end L2
namespace My
open PySem L2
structure Mt (K:PySem.W.Frag) (C:Addr) (x qual:Str) (st:Stmt) (ps:List Str) (f:Addr) (fd:FuncData):Prop where
  F:Fun K x qual st f fd
  b:Binds K fd ps []
  m:Meth K C x f
structure Fts6 (K:PySem.W.Frag) (mg:Str→Option Value) (cf:Flt→Addr):Prop where
  two:Fts K mg (cf .nought) (cf .great)
  mF:mg "Full"=some (.ref (cf .full))
  mD:mg "Dry"=some (.ref (cf .dry))
  mS:mg "Span"=some (.ref (cf .span))
  mL:mg "Late"=some (.ref (cf .late))
  xF:PySem.W.excIn K (cf .full) vErr "ValueError.__new__"=true
  xD:PySem.W.excIn K (cf .dry) vErr "ValueError.__new__"=true
  xS:PySem.W.excIn K (cf .span) vErr "ValueError.__new__"=true
  xL:PySem.W.excIn K (cf .late) vErr "ValueError.__new__"=true
def Post (cf:Flt→Addr) (dg:Wk→Hp→Prop) (H0:Hp) (n:Nat) (r:Except Flt Wk) (Q:VK) (E:XK):Prop:=match r with
  | .ok w'=>∀ G',dg w' G'→w'.len≤n→Q .non G'
  | .error e=>∀ G',Same H0 G'→E (.ref (cf e)) none G'
theorem rck_ends {cf:Flt→Addr} {dg:Wk→Hp→Prop} {H0 G':Hp} {n:Nat} {h:Ev} {w:Wk} {f:Fm} {k:Wk→Int→Except Flt Wk} {Q0 Q:VK} {E:XK} (p:Post cf dg H0 n (rck h w f k) Q0 E) (s:Same H0 G')
    (hq:∀ r,ev (askW h w) f=.ok r→Post cf dg H0 n (k {w with rk:=w.rk++[f]} r) Q0 E→Q (.int r) G'):endsX (cf .nought) (cf .great) (ev (askW h w) f) Q E G':=by
  unfold rck at p
  cases e:ev (askW h w) f with
  | ok r =>
    rw [e] at p
    exact hq r e p
  | nought =>
    rw [e] at p
    exact p G' s
  | great =>
    rw [e] at p
    exact p G' s
theorem len_rk {w:Wk} {F:Fm}:w.out.length + (w.rk++[F]).length≤w.len + 4:=by
  rw [List.length_append]
  show _ + (_ + 1)≤w.out.length + w.rk.length + 4
  omega
theorem len_snd {w:Wk} {F F1 F2:Fm} {e:Ev}:(w.out++[e]).length + (w.rk++[F]++[F1]++[F2]).length≤w.len + 4:=by
  rw [List.length_append,List.length_append,List.length_append,List.length_append]
  show _ + 1 + (_ + 1 + 1 + 1)≤w.out.length + w.rk.length + 4
  omega
theorem boK_put {x:Str} {n:Int} {ps:List (Str×Int)} (m:x∈ps.map (·.1)):putK (boK ps) (Sum.inr x) (.int n)=boK (setA ps x n):=by
  obtain ⟨a,h1,_⟩:=look_some m
  exact tab_put V.int x n (by rw [h1]; rfl)
theorem boK_len (ps:List (Str×Int)):(boK ps).length=ps.length:=List.length_map _
section
variable {CD CS:Addr} {bs qs:List Str} {H0 G G':Hp} {L:Lay} {h:Ev} {ds:List Int} {w:Wk}
theorem Dg.few (g:Dg CD CS bs qs H0 G L h ds w):(boK w.bx).length < sizeLine∧(wrK w.wr).length < sizeLine:=by
  have:=g.ok.few
  have:=g.ok.fw
  have:=line1000
  rw [boK_len,wrK_len]
  have e:=congrArg List.length g.ok.kb
  rw [List.length_map] at e
  rw [List.length_append] at *
  omega
theorem Dg.putB (g:Dg CD CS bs qs H0 G L h ds w) {x:Str} {n:Int} (m:x∈bs):DPut G L.bd (.str x) (.int n) (upd G L.bd (.dK (boK (setA w.bx x n)))):=by
  have z:=DPut.k (k:=Sum.inr x) (v:=.int n) g.hb g.few.1
  rw [boK_put (by rw [g.ok.kb]; exact m)] at z
  exact z
theorem Dg.putW (g:Dg CD CS bs qs H0 G L h ds w) (x:Str):DPut G L.wd (.str x) (.bl true) (upd G L.wd (.dK (wrK (addS w.wr x)))):=by
  have z:=DPut.k (k:=Sum.inr x) (v:=.bl true) g.hw g.few.2
  rw [wrK_put] at z
  exact z
theorem Dg.putU (g:Dg CD CS bs qs H0 G L h ds w) (x:Str):DPut G L.ud (.str x) (.bl true) (upd G L.ud (.dK (wrK (addS w.qn x)))):=by
  have z:=DPut.k (k:=Sum.inr x) (v:=.bl true) g.hu (by
    have:=g.ok.few2
    have:=line1000
    rw [wrK_len]
    omega)
  rw [wrK_put] at z
  exact z
theorem Dg.getL (g:Dg CD CS bs qs H0 G L h ds w) {x:Str} (m:x∈qs):∃ l,L.qa.lookup x=some l∧G l=some (.lst ((getQ w.qu x).map V.int))∧DGet G L.qd (.str x) (some (.ref l)):=by
  obtain ⟨l,h1,h2,_⟩:=g.hl.at_ (x:=x) (by rw [g.ok.kq]; exact m)
  refine ⟨l,h1,h2,?_⟩
  have z:=DGet.k (k:=Sum.inr x) g.hq
  rw [quK_at h1] at z
  exact z
end
section
variable {P:Program} {w:World} {K:PySem.W.Frag} {mg:Str→Option Value} {base:Heap} {f fN fR fF fW fT fD fL fQ CD CS CM:Addr} {fd fdN fdR fdF fdW fdT fdD fdL fdQ:FuncData} {cf:Flt→Addr} {bs qs:List Str}
def spNow (CD CS:Addr) (bs qs:List Str):Sp:=fun vs H Q _=>∃ (H0:Hp) (L:Lay) (h:Ev) (ds:List Int) (w:Wk),vs=[.ref L.d]∧Dg CD CS bs qs H0 H L h ds w∧Q (.int h.t) H
theorem scNw:FnScope ["self"] ["self"] (defScope s_Doing_now):=⟨rfl,rfl,rfl,by decide +kernel,rfl,by decide +kernel,by decide +kernel⟩
theorem ok_now (M:Mt K CD "now" "Doing.now" s_Doing_now ["self"] f fd) (T:DT K mg CD):FnOk P w K mg base CX0 1 f fd ["self"] (spNow CD CS bs qs):=by
  refine M.F.ok scNw (fun vs H Q E h=>?_) (fun cdv A outer s H vs Q E hr h=>?_)
  · obtain ⟨H0,L,e,ds,w,rfl,_⟩:=h
    rfl
  obtain ⟨H0,L,e,ds,w,rfl,g,q⟩:=h
  obtain ⟨t,k,ev,h1,h2⟩:=g.hh
  refine ⟨_,pss_one (ps_ret (pe_ix ix_tup (pe_ix ix_tup (pe_fld (pv 0) rfl) pe_int (fun _ _=>rfl)) pe_int (fun _ _=>rfl))),?_⟩
  exact ⟨_,rfl,L.d,CD,L.dx,_,_,rfl,g.hd,T.cl,T.nH,dF_h _ _ _ _ _ _ _ _,t,_,_,_,ev,rfl,SqT.of (g.sm _ _ h1),rfl,k,_,_,_,rfl,rfl,SqT.of (g.sm _ _ h2),rfl,q⟩
def spReck (cf:Flt→Addr) (CD CS:Addr) (bs qs:List Str):Sp:=fun vs H Q E=>∃ (H0:Hp) (L:Lay) (h:Ev) (ds:List Int) (w:Wk) (v:V) (F:Fm),vs=[.ref L.d,v]∧Dg CD CS bs qs H0 H L h ds w∧FmI bs qs H0 v F∧w.len < 400000∧∀ G',Dg CD CS bs qs H0 G' L h ds {w with rk:=w.rk++[F]}→endsX (cf .nought) (cf .great) (ev (askW h w) F) Q E G'
theorem scRk:FnScope ["self","formula"] ["self","formula"] (defScope s_Doing_reckon):=⟨rfl,rfl,rfl,by decide +kernel,rfl,by decide +kernel,by decide +kernel⟩
theorem ok_reck (M:Mt K CD "reckon" "Doing.reckon" s_Doing_reckon ["self","formula"] f fd) (MN:Mt K CD "now" "Doing.now" s_Doing_now ["self"] fN fdN) (DW:Df K mg "worth_of" s_worth_of ["formula","state","now","got"] fW fdW) (DT2:Df K mg "number_of_two" s_number_of_two ["kind","first","second"] fT fdT) (DD:Df K mg "number_of_division" s_number_of_division ["kind","first","second"] fD fdD)
    (DL:Df K mg "number_of_leaf" s_number_of_leaf ["formula","state","now","got"] fL fdL) (T:DT K mg CD) (TF:Fts6 K mg cf) (TM:MdT K mg CM CS) (B:Bl mg):FnOk P w K mg base (CXo P w) 18 f fd ["self","formula"] (spReck cf CD CS bs qs):=by
  have GN:FnOk P w K mg base CX0 1 fN fdN ["self"] (spNow CD CS bs qs):=ok_now MN T
  have GW:FnOk P w K mg base (CXo P w) 17 fW fdW ["formula","state","now","got"] (spWo K CS (cf .nought) (cf .great) bs qs 15):=ok_wo DW DT2 DD DL TF.two TM B 15
  refine M.F.okX scRk (fun vs H Q E h=>?_) (fun cdv A outer s H vs Q E hr h=>?_)
  · obtain ⟨H0,L,e,ds,w,v,F,rfl,_⟩:=h
    rfl
  obtain ⟨H0,L,e,ds,w,v,F,rfl,g,hF,fw,q⟩:=h
  obtain ⟨t,k,eh,h1,h2⟩:=g.hh
  have r1:Room 1 _:=hr.mono (by omega)
  obtain ⟨rs,r1',r2⟩:=g.hr
  have g0:=g.reckoned r1' hF
  refine ⟨_,pss_cons (ps_expr (pe_bm PySem.F.plainAttrs_list PySem.F.slot_list_append PySem.F.type_list_append mt_append (pe_fld (pv 0) rfl) (pa_cons (pv 1) pa_nil))) (pss_one (ps_ret (pe_call GW hr rfl DW.m DW.F.kp DW.b .nil (body_cx.passes fun _ _ _ z=>z) (pa_cons (pv 1) (pa_cons (pe_fld (pv 0) rfl) (pa_cons (pe_meth0 (pv 0) T.cl MN.m GN r1 MN.b .nil pass0) (pa_cons (pe_lst (pa_cons (pe_ix ix_tup (pe_fld (pv 0) rfl) pe_int (fun _ _=>rfl)) (pa_cons (pe_ix ix_tup (pe_fld (pv 0) rfl) pe_int (fun _ _=>rfl)) pa_nil))) pa_nil))))))),?_⟩
  have rl:rs.length < sizeLine:=by
    have z:rs.length=w.rk.length:=Paired.length r2
    have:400000 < sizeLine:=by decide
    have:w.out.length + w.rk.length < 400000:=fw
    omega
  refine ⟨_,rfl,L.d,CD,L.dx,_,_,rfl,g.hd,T.cl,T.nR,dF_r _ _ _ _ _ _ _ _,.inl ⟨rfl,_,SqL.of r1'⟩,_,rfl,L.rd,_,_,rfl,rfl,r1',rl,?_⟩
  refine ⟨_,rfl,_,rfl,L.d,CD,L.dx,_,_,rfl,g0.hd,T.cl,T.nS,dF_s _ _ _ _ _ _ _ _,?_⟩
  refine ⟨_,rfl,L.d,L.dx,_,rfl,g0.hd,dF_no _ _ _ _ _ _ _ _ (by decide +kernel),H0,L,e,ds,_,rfl,g0,?_⟩
  refine ⟨_,rfl,L.d,CD,L.dx,_,_,rfl,g0.hd,T.cl,T.nH,dF_h _ _ _ _ _ _ _ _,t,_,_,_,eh,rfl,SqT.of (g0.sm _ _ h1),rfl,?_⟩
  refine ⟨_,rfl,L.d,CD,L.dx,_,_,rfl,g0.hd,T.cl,T.nH,dF_h _ _ _ _ _ _ _ _,t,_,_,_,eh,rfl,SqT.of (g0.sm _ _ h1),rfl,?_⟩
  refine ⟨lt2,fun l hl=>?_⟩
  have s2:=same_new hl (.lst [.int e.a,.int e.b])
  have g2:=g0.same s2
  exact ⟨v,F,L.st,l,askW e w,rfl,(hF.1.same g2.sm),hF.2,g2.holds upd_same,g2.asks,q _ g2⟩
def spQof (CD CS:Addr) (bs qs:List Str):Sp:=fun vs H Q _=>∃ (H0:Hp) (L:Lay) (h:Ev) (ds:List Int) (w:Wk) (x:Str),vs=[.ref L.d,.str x]∧Dg CD CS bs qs H0 H L h ds w∧x∈qs∧∀ G' l,Dg CD CS bs qs H0 G' L h ds {w with qn:=addS w.qn x}→L.qa.lookup x=some l→G' l=some (.lst ((getQ w.qu x).map V.int))→Q (.ref l) G'
theorem scQo:FnScope ["self","name"] ["self","name"] (defScope s_Doing_queue_of):=⟨rfl,rfl,rfl,by decide +kernel,rfl,by decide +kernel,by decide +kernel⟩
theorem ok_qof (M:Mt K CD "queue_of" "Doing.queue_of" s_Doing_queue_of ["self","name"] f fd) (T:DT K mg CD) (TM:MdT K mg CM CS):FnOk P w K mg base CX0 1 f fd ["self","name"] (spQof CD CS bs qs):=by
  refine M.F.ok scQo (fun vs H Q E h=>?_) (fun cdv A outer s H vs Q E hr h=>?_)
  · obtain ⟨H0,L,e,ds,w,x,rfl,_⟩:=h
    rfl
  obtain ⟨H0,L,e,ds,w,x,rfl,g,hx,q⟩:=h
  have hu:=hu_of hr
  refine ⟨_,pss_cons (ps_dput hu (pe_fld (pv 0) rfl) (pv 1) pe_bl rfl) (pss_one (ps_ret (pe_dget hu (pe_fld (pe_fld (pv 0) rfl) rfl) (pv 1) (fun _ _=>rfl)))),?_⟩
  have g1:=g.queued (x:=x) (List.mem_append_right _ hx)
  obtain ⟨l,hl,gl,dl⟩:=g1.getL hx
  refine ⟨_,rfl,L.d,CD,L.dx,_,_,rfl,g.hd,T.cl,T.nQ,dF_u _ _ _ _ _ _ _ _,_,rfl,L.ud,_,rfl,g.putU x,?_⟩
  exact ⟨_,rfl,L.d,CD,L.dx,_,_,rfl,g1.hd,T.cl,T.nS,dF_s _ _ _ _ _ _ _ _,L.st,CS,L.dxs,_,_,rfl,g1.hst,TM.clS,TM.nQ,st_q _ _ _ _,_,rfl,L.qd,_,rfl,dl,q _ l g1 hl gl⟩
def spFill (CD CS:Addr) (bs qs:List Str):Sp:=fun vs H Q _=>∃ (H0:Hp) (L:Lay) (h:Ev) (ds:List Int) (w:Wk) (x:Str) (n:Int),vs=[.ref L.d,.str x,.int n]∧Dg CD CS bs qs H0 H L h ds w∧x∈bs∧Wo n∧∀ G',Dg CD CS bs qs H0 G' L h ds (fillW w x n)→Q .non G'
theorem scFl:FnScope ["self","box","worth"] ["self","box","worth"] (defScope s_Doing_fill):=⟨rfl,rfl,rfl,by decide +kernel,rfl,by decide +kernel,by decide +kernel⟩
theorem ok_fill (M:Mt K CD "fill" "Doing.fill" s_Doing_fill ["self","box","worth"] f fd) (T:DT K mg CD) (TM:MdT K mg CM CS):FnOk P w K mg base CX0 1 f fd ["self","box","worth"] (spFill CD CS bs qs):=by
  refine M.F.ok scFl (fun vs H Q E h=>?_) (fun cdv A outer s H vs Q E hr h=>?_)
  · obtain ⟨H0,L,e,ds,w,x,n,rfl,_⟩:=h
    rfl
  obtain ⟨H0,L,e,ds,w,x,n,rfl,g,hx,hn,q⟩:=h
  have hu:=hu_of hr
  refine ⟨_,pss_cons (ps_dput hu (pe_fld (pe_fld (pv 0) rfl) rfl) (pv 1) (pv 2) rfl) (pss_one (ps_dput hu (pe_fld (pv 0) rfl) (pv 1) pe_bl rfl)),?_⟩
  have g1:=g.box (x:=x) hn
  have g2:=g1.wrote (x:=x) (List.mem_append_left _ hx)
  refine ⟨_,rfl,_,rfl,L.d,CD,L.dx,_,_,rfl,g.hd,T.cl,T.nS,dF_s _ _ _ _ _ _ _ _,L.st,CS,L.dxs,_,_,rfl,g.hst,TM.clS,TM.nB,st_b _ _ _ _,_,rfl,L.bd,_,rfl,g.putB hx,?_⟩
  exact ⟨_,rfl,L.d,CD,L.dx,_,_,rfl,g1.hd,T.cl,T.nW,dF_w _ _ _ _ _ _ _ _,_,rfl,L.wd,_,rfl,g1.putW x,q _ g2⟩
def spPush (cf:Flt→Addr) (CD CS:Addr) (bs qs:List Str):Sp:=fun vs H Q E=>∃ (H0:Hp) (L:Lay) (h:Ev) (ds:List Int) (w:Wk) (x:Str) (v:V) (F:Fm),vs=[.ref L.d,.str x,v]∧Dg CD CS bs qs H0 H L h ds w∧x∈qs∧FmI bs qs H0 v F∧w.len < 400000 ∧
  Post cf (fun w' G'=>Dg CD CS bs qs H0 G' L h ds w') H0 (w.len + 4) (doD h ds (.push x F) w) Q E
theorem scPu:FnScope ["doing","name","formula","worth","queue"] ["doing","name","formula"] (defScope s_do_push):=⟨rfl,rfl,rfl,by decide +kernel,rfl,by decide +kernel,by decide +kernel⟩
theorem ok_push (D:Df K mg "do_push" s_do_push ["doing","name","formula"] f fd) (MR:Mt K CD "reckon" "Doing.reckon" s_Doing_reckon ["self","formula"] fR fdR) (GR:FnOk P w K mg base (CXo P w) 18 fR fdR ["self","formula"] (spReck cf CD CS bs qs)) (MQ:Mt K CD "queue_of" "Doing.queue_of" s_Doing_queue_of ["self","name"] fQ fdQ) (T:DT K mg CD) (TF:Fts6 K mg cf) (TM:MdT K mg CM CS) (B:Bl mg) :
    FnOk P w K mg base (CXo P w) 19 f fd ["doing","name","formula"] (spPush cf CD CS bs qs):=by
  have GQ:FnOk P w K mg base CX0 1 fQ fdQ ["self","name"] (spQof CD CS bs qs):=ok_qof MQ T TM
  refine D.F.okX scPu (fun vs H Q E h=>?_) (fun cdv A outer s H vs Q E hr h=>?_)
  · obtain ⟨H0,L,e,ds,w,x,v,F,rfl,_⟩:=h
    rfl
  obtain ⟨H0,L,e,ds,w,x,v,F,rfl,g,hx,hF,fw,p⟩:=h
  have hu:=hu_of hr
  have r1:Room 1 _:=hr.mono (by omega)
  refine ⟨_,pss_cons (ps_set (i:=3) scPu.nd rfl (Or.inl rfl) (pe_meth (pv 0) T.cl MR.m GR hr MR.b .nil (body_cx.passes fun _ _ _ z=>z) (pa_cons (pv 2) pa_nil)))
    (pss_cons (ps_set (i:=4) scPu.nd rfl (Or.inl rfl) (pe_meth (pv 0) T.cl MQ.m GQ r1 MQ.b .nil pass0 (pa_cons (pv 1) pa_nil)))
    (pss_cons (ps_if (pt_cmpR op_ge (pe_callB call_len_seq (by rfl) B.len PySem.boot_len (pa_cons (pv 4) pa_nil)) pe_int (nomark _)) (pss_one (ps_raise body_cx rfl rfl TF.mF TF.xF (pa_cons pe_str pa_nil))) pss_nil)
    (pss_cons (ps_expr (pe_bm PySem.F.plainAttrs_list PySem.F.slot_list_append PySem.F.type_list_append mt_append (pv 4) (pa_cons (pv 3) pa_nil)))
    (pss_one (ps_dput hu (pe_fld (pv 0) rfl) (pv 1) pe_bl rfl))))),?_⟩
  simp only [doD] at p
  refine ⟨_,rfl,L.d,L.dx,_,rfl,g.hd,dF_no _ _ _ _ _ _ _ _ (by decide +kernel),_,rfl,H0,L,e,ds,w,v,F,rfl,g,hF,fw,fun G0 g0=>?_⟩
  refine rck_ends p g0.sm fun n en p=>?_
  dsimp only at p
  refine ⟨_,rfl,L.d,L.dx,_,rfl,g0.hd,dF_no _ _ _ _ _ _ _ _ (by decide +kernel),_,rfl,H0,L,e,ds,_,x,rfl,g0,hx,fun G1 l g1 hl gl=>?_⟩
  refine ⟨_,rfl,l,_,rfl,.inl (SqL.of gl),_,_,rfl,rfl,_,rfl,ite2 (fun c=>?_) (fun c=>?_)⟩
  · have c:(30:Int)≤((((getQ w.qu x).map V.int).length:Nat):Int):=dec_t c
    rw [List.length_map] at c
    rw [if_pos (by omega)] at p
    exact ⟨(by show 1≤sizeLine; decide),p _ g1.sm⟩
  · have c:¬ (30:Int)≤((((getQ w.qu x).map V.int).length:Nat):Int):=dec_f c
    rw [List.length_map] at c
    rw [if_neg (by omega)] at p
    have wn:Wo n:=ev_wo g1.asks (hF.1.same g1.sm) en
    have gq:=getQ_ok g1.ok hx
    have g2:=g1.queue (x:=x) (l:=l) (ns:=getQ w.qu x++[n]) hl (by rw [List.length_append]; simp only [List.length_cons,List.length_nil]; omega) (fun m hm=>by
      rcases List.mem_append.mp hm with z | z
      · exact gq.2 m z
      · rw [List.mem_singleton.mp z]
        exact wn)
    have g3:=g2.wrote (x:=x) (List.mem_append_right _ hx)
    have lt:((getQ w.qu x).map V.int).length < sizeLine:=by
      rw [List.length_map]
      have:=line1000
      omega
    refine ⟨_,rfl,.inl ⟨rfl,_,SqL.of gl⟩,_,rfl,l,_,_,rfl,rfl,gl,lt,?_⟩
    have eq:(getQ w.qu x).map V.int++[V.int n]=(getQ w.qu x++[n]).map V.int:=by rw [List.map_append]; rfl
    rw [eq]
    exact ⟨_,rfl,L.d,CD,L.dx,_,_,rfl,g2.hd,T.cl,T.nW,dF_w _ _ _ _ _ _ _ _,_,rfl,L.wd,_,rfl,g2.putW x,p _ g3 (len_rk (w:=w) (F:=F))⟩
end
end My
namespace My
open PySem L2
theorem getD_map (ds:List Int) (i:Nat) (h:i < ds.length):(ds.map V.int)[i]?=some (.int (ds.getD i 0)):=by
  rw [List.getElem?_map,List.getElem?_eq_getElem h,List.getD_eq_getElem?_getD,List.getElem?_eq_getElem h]
  rfl
section
variable {P:Program} {w:World} {K:PySem.W.Frag} {mg:Str→Option Value} {base:Heap} {f fN fR fF CD CS CM:Addr} {fd fdN fdR fdF:FuncData} {cf:Flt→Addr} {bs qs:List Str}
def spDDraw (cf:Flt→Addr) (CD CS:Addr) (bs qs:List Str):Sp:=fun vs H Q E=>∃ (H0:Hp) (L:Lay) (h:Ev) (ds:List Int) (w:Wk) (x:Str) (v:V) (F:Fm),vs=[.ref L.d,.str x,v]∧Dg CD CS bs qs H0 H L h ds w∧x∈bs∧FmI bs qs H0 v F∧w.len < 400000 ∧
  Post cf (fun w' G'=>Dg CD CS bs qs H0 G' L h ds w') H0 (w.len + 4) (doD h ds (.draw x F) w) Q E
theorem scDr:FnScope ["doing","box","formula","divisor","draws","draw"] ["doing","box","formula"] (defScope s_do_draw):=⟨rfl,rfl,rfl,by decide +kernel,rfl,by decide +kernel,by decide +kernel⟩
theorem ok_ddraw (D:Df K mg "do_draw" s_do_draw ["doing","box","formula"] f fd) (MR:Mt K CD "reckon" "Doing.reckon" s_Doing_reckon ["self","formula"] fR fdR) (GR:FnOk P w K mg base (CXo P w) 18 fR fdR ["self","formula"] (spReck cf CD CS bs qs)) (MF:Mt K CD "fill" "Doing.fill" s_Doing_fill ["self","box","worth"] fF fdF) (T:DT K mg CD) (TF:Fts6 K mg cf) (TM:MdT K mg CM CS) (B:Bl mg) :
    FnOk P w K mg base (CXo P w) 19 f fd ["doing","box","formula"] (spDDraw cf CD CS bs qs):=by
  have GF:FnOk P w K mg base CX0 1 fF fdF ["self","box","worth"] (spFill CD CS bs qs):=ok_fill MF T TM
  refine D.F.okX scDr (fun vs H Q E h=>?_) (fun cdv A outer s H vs Q E hr h=>?_)
  · obtain ⟨H0,L,e,ds,w,x,v,F,rfl,_⟩:=h
    rfl
  obtain ⟨H0,L,e,ds,w,x,v,F,rfl,g,hx,hF,fw,p⟩:=h
  have r1:Room 1 _:=hr.mono (by omega)
  refine ⟨_,pss_cons (ps_set (i:=3) scDr.nd rfl (Or.inl rfl) (pe_meth (pv 0) T.cl MR.m GR hr MR.b .nil (body_cx.passes fun _ _ _ z=>z) (pa_cons (pv 2) pa_nil)))
    (pss_cons (ps_if (pt_cmpR op_lt (pv 3) pe_int (nomark _)) (pss_one (ps_raise body_cx rfl rfl TF.two.mN TF.two.xN (pa_cons pe_str pa_nil))) pss_nil)
    (pss_cons (ps_set (i:=4) scDr.nd rfl (Or.inl rfl) (pe_ix ix_tup (pe_fld (pv 0) rfl) pe_int (fun _ _=>rfl)))
    (pss_cons (ps_if (pt_not (pt_truth (pv 4) (fun _=>rfl))) (pss_one (ps_raise body_cx rfl rfl TF.mD TF.xD (pa_cons pe_str pa_nil))) pss_nil)
    (pss_cons (ps_set (i:=5) scDr.nd rfl (Or.inl rfl) (pe_ix ix_list (pv 4) (pe_op op_mod (pe_fld (pe_fld (pv 0) rfl) rfl) (pe_callB call_len_seq (by rfl) B.len PySem.boot_len (pa_cons (pv 4) pa_nil))) (fun _ _=>rfl)))
    (pss_cons (ps_fldaug (pe_fld (pv 0) rfl) pe_int in_add)
    (pss_one (ps_expr (pe_meth (pv 0) T.cl MF.m GF r1 MF.b .nil pass0 (pa_cons (pv 1) (pa_cons (pe_op op_mod (pv 5) (pv 3)) pa_nil)))))))))),?_⟩
  simp only [doD] at p
  refine ⟨_,rfl,L.d,L.dx,_,rfl,g.hd,dF_no _ _ _ _ _ _ _ _ (by decide +kernel),_,rfl,H0,L,e,ds,w,v,F,rfl,g,hF,fw,fun G1 g1=>?_⟩
  refine rck_ends p g1.sm fun n en p=>?_
  refine ⟨_,rfl,_,_,rfl,rfl,_,rfl,ite2 (fun c=>?_) (fun c=>?_)⟩
  · rw [if_pos (dec_t c)] at p
    exact ⟨(by show 1≤sizeLine; decide),p _ g1.sm⟩
  have c:¬ n < 1:=dec_f c
  rw [if_neg c] at p
  obtain ⟨t,x1,x2,x3,x4,dl,em,hm,hdl⟩:=g1.hm
  refine ⟨_,rfl,L.d,CD,L.dx,_,_,rfl,g1.hd,T.cl,T.nM,dF_m _ _ _ _ _ _ _ _,t,_,_,_,em,rfl,SqT.of (g1.sm _ _ hm),rfl,?_⟩
  have hdl1:=g1.sm _ _ hdl
  refine ⟨_,rfl,_,.inl ⟨_,SqL.of hdl1,rfl⟩,?_⟩
  cases hds:ds with
  | nil =>
    rw [hds] at p
    refine iteT ?_
    exact ⟨(by show 1≤sizeLine; decide),p _ g1.sm⟩
  | cons d0 dr =>
    rw [← hds]
    have ne:¬ ds=[]:=by rw [hds]; intro z; cases z
    have pos:0 < ds.length:=by rw [hds]; exact Nat.succ_pos _
    rw [if_neg ne] at p
    have nb:(!(!(ds.map V.int).isEmpty))=false:=by rw [hds]; rfl
    rw [nb]
    refine iteF ?_
    have lt:w.dr % ds.length < ds.length:=Nat.mod_lt _ pos
    have ix:atI (ds.map V.int) ((w.dr:Int) % (((ds.map V.int).length:Nat):Int))=some (.int (ds.getD (w.dr % ds.length) 0)):=by
      rw [List.length_map,← Int.natCast_emod]
      exact atI_nat (getD_map ds _ lt)
    refine ⟨_,rfl,_,rfl,L.d,CD,L.dx,_,_,rfl,g1.hd,T.cl,T.nS,dF_s _ _ _ _ _ _ _ _,L.st,CS,L.dxs,_,_,rfl,g1.hst,TM.clS,TM.nD,st_d _ _ _ _,_,rfl,dl,_,rfl,.inl (SqL.of hdl1),_,_,rfl,rfl,(by rw [List.length_map]; omega),dl,_,_,_,rfl,rfl,SqL.of hdl1,ix,?_⟩
    refine ⟨_,rfl,L.d,CD,L.dx,_,_,rfl,g1.hd,T.cl,T.nS,dF_s _ _ _ _ _ _ _ _,L.st,CS,L.dxs,_,_,rfl,g1.hst,TM.clS,TM.nD,st_d _ _ _ _,_,_,rfl,rfl,L.dxs,_,g1.hst,st_few _ _ _ _,?_⟩
    rw [stFs_d]
    have g2:=g1.counts (w.dr + 1) w.se
    have wn:Wo n:=ev_wo g1.asks (hF.1.same g1.sm) en
    have wm:Wo (ds.getD (w.dr % ds.length) 0 % n):=by
      have a1:=Int.emod_nonneg (ds.getD (w.dr % ds.length) 0) (show n≠0 by omega)
      have a2:=Int.emod_lt_of_pos (ds.getD (w.dr % ds.length) 0) (show 0 < n by omega)
      unfold Wo at wn ⊢
      omega
    exact ⟨_,rfl,L.d,L.dx,_,rfl,g2.hd,dF_no _ _ _ _ _ _ _ _ (by decide +kernel),_,rfl,_,rfl,_,rfl,_,_,rfl,rfl,(by omega),H0,L,e,ds,_,x,_,rfl,g2,hx,wm,fun G' g3=>p G' g3 (len_rk (w:=w) (F:=F))⟩
def spSend (cf:Flt→Addr) (CD CS:Addr) (bs qs:List Str):Sp:=fun vs H Q E=>∃ (H0:Hp) (L:Lay) (h:Ev) (ds:List Int) (w:Wk) (t:Addr) (u u1 u2:V) (to:Int) (sg:Str) (rk:Int) (F F1 F2:Fm),vs=[.ref L.d,.ref t]∧Dg CD CS bs qs H0 H L h ds w∧H0 t=some (.tup [.str "send",.int to,.str sg,u,.int rk,u1,u2]) ∧
  FmI bs qs H0 u F∧FmI bs qs H0 u1 F1∧FmI bs qs H0 u2 F2∧w.len + 4 < 400000∧Post cf (fun w' G'=>Dg CD CS bs qs H0 G' L h ds w') H0 (w.len + 4) (doD h ds (.send to sg F rk F1 F2) w) Q E
theorem scSe:FnScope ["doing","deed","span","first","second","when","key"] ["doing","deed"] (defScope s_do_send):=⟨rfl,rfl,rfl,by decide +kernel,rfl,by decide +kernel,by decide +kernel⟩
theorem ok_send (D:Df K mg "do_send" s_do_send ["doing","deed"] f fd) (MR:Mt K CD "reckon" "Doing.reckon" s_Doing_reckon ["self","formula"] fR fdR) (GR:FnOk P w K mg base (CXo P w) 18 fR fdR ["self","formula"] (spReck cf CD CS bs qs)) (MN:Mt K CD "now" "Doing.now" s_Doing_now ["self"] fN fdN) (T:DT K mg CD) (TF:Fts6 K mg cf) (TM:MdT K mg CM CS) (B:Bl mg) :
    FnOk P w K mg base (CXo P w) 19 f fd ["doing","deed"] (spSend cf CD CS bs qs):=by
  have GN:FnOk P w K mg base CX0 1 fN fdN ["self"] (spNow CD CS bs qs):=ok_now MN T
  refine D.F.okX scSe (fun vs H Q E h=>?_) (fun cdv A outer s H vs Q E hr h=>?_)
  · obtain ⟨H0,L,e,ds,w,t,u,u1,u2,to,sg,rk,F,F1,F2,rfl,_⟩:=h
    rfl
  obtain ⟨H0,L,e,ds,w,t,u,u1,u2,to,sg,rk,F,F1,F2,rfl,g,ht,hF,hF1,hF2,lo,p⟩:=h
  have r1:Room 1 _:=hr.mono (by omega)
  refine ⟨_,pss_cons (ps_set (i:=2) scSe.nd rfl (Or.inl rfl) (pe_meth (pv 0) T.cl MR.m GR hr MR.b .nil (body_cx.passes fun _ _ _ z=>z) (pa_cons (pe_ix ix_tup (pv 1) pe_int (fun _ _=>rfl)) pa_nil)))
    (pss_cons (ps_if (pw_or (pt_cmpR op_lt (pv 2) pe_int (nomark _)) (pw_or1 (pt_cmpR op_gt (pv 2) (pe_op op_pow pe_int pe_int) (nomark _)))).pt (pss_one (ps_raise body_cx rfl rfl TF.mS TF.xS (pa_cons pe_str pa_nil))) pss_nil)
    (pss_cons (ps_set (i:=3) scSe.nd rfl (Or.inl rfl) (pe_meth (pv 0) T.cl MR.m GR hr MR.b .nil (body_cx.passes fun _ _ _ z=>z) (pa_cons (pe_ix ix_tup (pv 1) pe_int (fun _ _=>rfl)) pa_nil)))
    (pss_cons (ps_set (i:=4) scSe.nd rfl (Or.inl rfl) (pe_meth (pv 0) T.cl MR.m GR hr MR.b .nil (body_cx.passes fun _ _ _ z=>z) (pa_cons (pe_ix ix_tup (pv 1) pe_int (fun _ _=>rfl)) pa_nil)))
    (pss_cons (ps_set (i:=5) scSe.nd rfl (Or.inl rfl) (pe_op op_add (pe_meth0 (pv 0) T.cl MN.m GN r1 MN.b .nil pass0) (pv 2)))
    (pss_cons (ps_if (pt_cmpR op_gt (pv 5) (pe_op op_pow pe_int pe_int) (nomark _)) (pss_one (ps_raise body_cx rfl rfl TF.mL TF.xL (pa_cons pe_str pa_nil))) pss_nil)
    (pss_cons (ps_set (i:=6) scSe.nd rfl (Or.inl rfl) (pe_tup (pa_cons (pv 5) (pa_cons (pe_ix ix_tup (pv 1) pe_int (fun _ _=>rfl)) (pa_cons (pe_ix ix_tup (pe_fld (pv 0) rfl) pe_int (fun _ _=>rfl)) (pa_cons (pe_fld (pe_fld (pv 0) rfl) rfl) pa_nil))))))
    (pss_cons (ps_fldaug (pe_fld (pv 0) rfl) pe_int in_add)
    (pss_one (ps_expr (pe_bm PySem.F.plainAttrs_list PySem.F.slot_list_append PySem.F.type_list_append mt_append (pe_fld (pv 0) rfl) (pa_cons (pe_tup (pa_cons (pv 6) (pa_cons (pe_ix ix_tup (pv 1) pe_int (fun _ _=>rfl)) (pa_cons (pe_ix ix_tup (pv 1) pe_int (fun _ _=>rfl)) (pa_cons (pv 3) (pa_cons (pv 4) pa_nil)))))) pa_nil))))))))))),?_⟩
  simp only [doD] at p
  have f0:w.len < 400000:=by omega
  have f1:Wk.len {w with rk:=w.rk++[F]} < 400000:=by
    show w.out.length + (w.rk++[F]).length < 400000
    rw [List.length_append]
    have:w.out.length + w.rk.length + 4 < 400000:=lo
    show _ + (_ + 1) < _
    omega
  have f2:Wk.len {w with rk:=w.rk++[F]++[F1]} < 400000:=by
    show w.out.length + (w.rk++[F]++[F1]).length < 400000
    rw [List.length_append,List.length_append]
    have:w.out.length + w.rk.length + 4 < 400000:=lo
    show _ + (_ + 1 + 1) < _
    omega
  have l1:1≤sizeLine:=by decide
  have c6:CPow 10 6:=⟨by decide,by decide,by decide⟩
  have c12:CPow 10 12:=⟨by decide,by decide,by decide⟩
  have tt:∀ {G:Hp},Same H0 G→SqT K G t [.str "send",.int to,.str sg,u,.int rk,u1,u2]:=fun {G} z=>SqT.of (z _ _ ht)
  refine ⟨_,rfl,L.d,L.dx,_,rfl,g.hd,dF_no _ _ _ _ _ _ _ _ (by decide +kernel),_,rfl,t,_,_,_,rfl,rfl,tt g.sm,rfl,H0,L,e,ds,w,u,F,rfl,g,hF,f0,fun G1 g1=>?_⟩
  refine rck_ends p g1.sm fun n en p=>?_
  refine ⟨_,rfl,_,_,rfl,rfl,_,rfl,ite2 (fun c=>?_) (fun c=>?_)⟩
  · rw [if_pos (.inl (dec_t c))] at p
    exact iteT ⟨l1,p _ g1.sm⟩
  have c:¬ n < 1:=dec_f c
  refine ⟨_,rfl,_,_,rfl,rfl,c6,_,_,rfl,rfl,_,rfl,ite2 (fun c2=>?_) (fun c2=>?_)⟩
  · rw [if_pos (.inr (dec_t c2))] at p
    exact ⟨l1,p _ g1.sm⟩
  have c2:¬ 10 ^ 6 < n:=dec_f c2
  rw [if_neg (fun z=>z.elim c c2)] at p
  refine ⟨_,rfl,L.d,L.dx,_,rfl,g1.hd,dF_no _ _ _ _ _ _ _ _ (by decide +kernel),_,rfl,t,_,_,_,rfl,rfl,tt g1.sm,rfl,H0,L,e,ds,_,u1,F1,rfl,g1,hF1,f1,fun G2 g2=>?_⟩
  refine rck_ends p g2.sm fun n1 en1 p=>?_
  refine ⟨_,rfl,L.d,L.dx,_,rfl,g2.hd,dF_no _ _ _ _ _ _ _ _ (by decide +kernel),_,rfl,t,_,_,_,rfl,rfl,tt g2.sm,rfl,H0,L,e,ds,_,u2,F2,rfl,g2,hF2,f2,fun G3 g3=>?_⟩
  refine rck_ends p g3.sm fun n2 en2 p=>?_
  refine ⟨_,rfl,L.d,L.dx,_,rfl,g3.hd,dF_no _ _ _ _ _ _ _ _ (by decide +kernel),H0,L,e,ds,_,rfl,g3,_,rfl,_,_,rfl,rfl,?_⟩
  refine ⟨_,rfl,_,_,rfl,rfl,c12,_,_,rfl,rfl,_,rfl,ite2 (fun c3=>?_) (fun c3=>?_)⟩
  · rw [if_pos (show 10 ^ 12 < e.t + n from dec_t c3)] at p
    exact ⟨l1,p _ g3.sm⟩
  rw [if_neg (show ¬ 10 ^ 12 < e.t + n from dec_f c3)] at p
  obtain ⟨th,kh,eh,h1,h2⟩:=g3.hh
  refine ⟨_,rfl,_,rfl,t,_,_,_,rfl,rfl,tt g3.sm,rfl,_,rfl,L.d,CD,L.dx,_,_,rfl,g3.hd,T.cl,T.nH,dF_h _ _ _ _ _ _ _ _,th,_,_,_,eh,rfl,SqT.of (g3.sm _ _ h1),rfl,_,rfl,L.d,CD,L.dx,_,_,rfl,g3.hd,T.cl,T.nS,dF_s _ _ _ _ _ _ _ _,L.st,CS,L.dxs,_,_,rfl,g3.hst,TM.clS,TM.nS,st_s _ _ _ _,(by show 4≤sizeLine; decide),fun ky hk=>?_⟩
  have s4:=same_new hk (.tup [.int (e.t + n),.int rk,.int e.to,.int w.se])
  have g4:=g3.same s4
  refine ⟨_,rfl,L.d,CD,L.dx,_,_,rfl,g4.hd,T.cl,T.nS,dF_s _ _ _ _ _ _ _ _,L.st,CS,L.dxs,_,_,rfl,g4.hst,TM.clS,TM.nS,st_s _ _ _ _,_,_,rfl,rfl,L.dxs,_,g4.hst,st_few _ _ _ _,?_⟩
  rw [stFs_s]
  have g5:=g4.counts w.dr (w.se + 1)
  have hky:∀ {G:Hp} {o o':HO},G ky=some (.tup [.int (e.t + n),.int rk,.int e.to,.int w.se])→G L.st=some o'→(∀ xs,o'≠.tup xs)→upd G L.st o ky=some (.tup [.int (e.t + n),.int rk,.int e.to,.int w.se]):=fun h1 h2 h3=>hv_ne h1 (ne_of h1 h2 (fun z=>h3 _ z.symm))
  have k5:=hky (o:=.ins CS L.dxs (stFs (.ref L.bd) (.ref L.qd) (.int w.dr) (.int (w.se + 1)))) (upd_same:upd G3 ky _ ky=_) g4.hst (fun xs z=>by cases z)
  obtain ⟨vs,o1,o2⟩:=g5.ho
  refine ⟨_,rfl,L.d,CD,L.dx,_,_,rfl,g5.hd,T.cl,T.nO,dF_o _ _ _ _ _ _ _ _,.inl ⟨rfl,_,SqL.of o1⟩,?_⟩
  refine ⟨_,rfl,_,rfl,t,_,_,_,rfl,rfl,tt g5.sm,rfl,_,rfl,t,_,_,_,rfl,rfl,tt g5.sm,rfl,_,rfl,_,rfl,lt5,fun ev hev=>?_⟩
  have s6:=same_new hev (.tup [.ref ky,.int to,.str sg,.int n1,.int n2])
  have g6:=g5.same s6
  have ol:vs.length < sizeLine:=by
    have:=Paired.length o2
    have z:vs.length=w.out.length:=this
    have:400000 < sizeLine:=by decide
    have:w.out.length + w.rk.length + 4 < 400000:=lo
    omega
  refine ⟨L.od,vs,_,rfl,rfl,s6 _ _ o1,ol,?_⟩
  have g7:=g6.sent (v:=.ref ev) (e:=⟨e.t + n,rk,e.to,w.se,to,sg,n1,n2⟩) (s6 _ _ o1) ⟨ev,ky,rfl,upd_same,s6 _ _ k5⟩ ⟨ev_wo g1.asks (hF1.1.same g1.sm) en1,ev_wo g2.asks (hF2.1.same g2.sm) en2⟩
  exact p _ g7 (len_snd (w:=w) (F:=F) (F1:=F1) (F2:=F2))
end
end My
namespace My
open PySem L2
mutual
def Dd.size:Dd→Nat
  | .pull _ _ o=>o.size + 1
  | .ife _ t e=>t.size + e.size + 1
  | _=>1
def Ds.size:Ds→Nat
  | .nil=>0
  | .cons d r=>d.size + r.size
end
theorem Post.le {cf:Flt→Addr} {dg:Wk→Hp→Prop} {H0:Hp} {m n:Nat} {r:Except Flt Wk} {Q:VK} {E:XK} (p:Post cf dg H0 n r Q E) (h:m≤n):Post cf dg H0 m r Q E:=by
  cases r with
  | ok w=>exact fun G g l=>p G g (Nat.le_trans l h)
  | error e=>exact p
section
variable {P:Program} {w:World} {K:PySem.W.Frag} {mg:Str→Option Value} {base:Heap} {f fR fF fP fD fU fW fS f1 fQ CD CS CM:Addr} {fd fdR fdF fdP fdD fdU fdW fdS fd1 fdQ:FuncData} {cf:Flt→Addr} {bs qs:List Str}
def spDds (cf:Flt→Addr) (CD CS:Addr) (bs qs:List Str) (n:Nat):Sp:=fun vs H Q E=>∃ (H0:Hp) (L:Lay) (h:Ev) (ds:List Int) (w:Wk) (v:V) (D:Ds),vs=[.ref L.d,v]∧Dg CD CS bs qs H0 H L h ds w∧LstIn H0 (DsIn bs qs H0 D) v∧D.deep < n∧w.len + 4 * D.size < 400000 ∧
  Post cf (fun w' G'=>Dg CD CS bs qs H0 G' L h ds w') H0 (w.len + 4 * D.size) (doS h ds D w) Q E
def spDd (cf:Flt→Addr) (CD CS:Addr) (bs qs:List Str) (n:Nat):Sp:=fun vs H Q E=>∃ (H0:Hp) (L:Lay) (h:Ev) (ds:List Int) (w:Wk) (v:V) (D:Dd),vs=[.ref L.d,v]∧Dg CD CS bs qs H0 H L h ds w∧DdIn bs qs H0 D v∧D.deep < n∧w.len + 4 * D.size < 400000 ∧
  Post cf (fun w' G'=>Dg CD CS bs qs H0 G' L h ds w') H0 (w.len + 4 * D.size) (doD h ds D w) Q E
def spPull (cf:Flt→Addr) (CD CS:Addr) (bs qs:List Str) (n:Nat):Sp:=fun vs H Q E=>∃ (H0:Hp) (L:Lay) (h:Ev) (ds:List Int) (w:Wk) (q x:Str) (v:V) (D:Ds),vs=[.ref L.d,.str q,.str x,v]∧Dg CD CS bs qs H0 H L h ds w∧q∈qs∧x∈bs∧LstIn H0 (DsIn bs qs H0 D) v∧D.deep < n∧w.len + 4 * D.size < 400000 ∧
  Post cf (fun w' G'=>Dg CD CS bs qs H0 G' L h ds w') H0 (w.len + 4 * D.size) (doD h ds (.pull q x D) w) Q E
theorem scPl:FnScope ["doing","name","box","otherwise","queue"] ["doing","name","box","otherwise"] (defScope s_do_pull):=⟨rfl,rfl,rfl,by decide +kernel,rfl,by decide +kernel,by decide +kernel⟩
theorem ok_pull {n k:Nat} (hk:1≤k) (D:Df K mg "do_pull" s_do_pull ["doing","name","box","otherwise"] f fd) (DD:Df K mg "do_deeds" s_do_deeds ["doing","deeds"] fD fdD) (GD:FnOk P w K mg base (CXo P w) k fD fdD ["doing","deeds"] (spDds cf CD CS bs qs n)) (MF:Mt K CD "fill" "Doing.fill" s_Doing_fill ["self","box","worth"] fF fdF) (MQ:Mt K CD "queue_of" "Doing.queue_of" s_Doing_queue_of ["self","name"] fQ fdQ) (T:DT K mg CD) (TM:MdT K mg CM CS) :
    FnOk P w K mg base (CXo P w) (k + 1) f fd ["doing","name","box","otherwise"] (spPull cf CD CS bs qs n):=by
  have GF:FnOk P w K mg base CX0 1 fF fdF ["self","box","worth"] (spFill CD CS bs qs):=ok_fill MF T TM
  have GQ:FnOk P w K mg base CX0 1 fQ fdQ ["self","name"] (spQof CD CS bs qs):=ok_qof MQ T TM
  refine D.F.okX scPl (fun vs H Q E h=>?_) (fun cdv A outer s H vs Q E hr h=>?_)
  · obtain ⟨H0,L,e,ds,w,q,x,v,D,rfl,_⟩:=h
    rfl
  obtain ⟨H0,L,e,ds,w,q,x,v,D,rfl,g,hq,hx,hv,hn,ho,p⟩:=h
  have r1:Room 1 _:=hr.mono hk
  have hu:=hu_of hr
  refine ⟨_,pss_cons (ps_set (i:=4) scPl.nd rfl (Or.inl rfl) (pe_meth (pv 0) T.cl MQ.m GQ r1 MQ.b .nil pass0 (pa_cons (pv 1) pa_nil)))
    (pss_one (ps_if (pt_truth (pv 4) (fun _=>rfl))
      (pss_cons (ps_expr (pe_meth (pv 0) T.cl MF.m GF r1 MF.b .nil pass0 (pa_cons (pv 2) (pa_cons (pe_bm PySem.F.plainAttrs_list PySem.F.slot_list_pop PySem.F.type_list_pop mt_popAt (pv 4) (pa_cons pe_int pa_nil)) pa_nil))))
      (pss_one (ps_dput hu (pe_fld (pv 0) rfl) (pv 1) pe_bl rfl)))
      (pss_one (ps_expr (pe_call GD hr rfl DD.m DD.F.kp DD.b .nil (body_cx.passes fun _ _ _ z=>z) (pa_cons (pv 0) (pa_cons (pv 3) pa_nil))))))),?_⟩
  simp only [doD] at p
  refine ⟨_,rfl,L.d,L.dx,_,rfl,g.hd,dF_no _ _ _ _ _ _ _ _ (by decide +kernel),_,rfl,H0,L,e,ds,w,q,rfl,g,hq,fun G0 l g0 hl gl=>?_⟩
  refine ⟨_,rfl,_,.inl ⟨_,SqL.of gl,rfl⟩,?_⟩
  have gq:(getQ w.qu q).length≤30∧∀ n∈getQ w.qu q,Wo n:=getQ_ok g.ok hq
  cases e1:getQ w.qu q with
  | nil =>
    rw [e1] at p
    refine iteF ?_
    exact ⟨_,rfl,_,rfl,H0,L,e,ds,_,v,D,rfl,g0,hv,hn,ho,p⟩
  | cons m ms =>
    rw [e1] at p gl gq
    refine iteT ?_
    have g1:=g0.queue (x:=q) (l:=l) (ns:=ms) hl (by have:=gq.1; rw [List.length_cons] at this; omega) (fun z hz=>gq.2 z (List.mem_cons_of_mem _ hz))
    refine ⟨_,rfl,L.d,L.dx,_,rfl,g0.hd,dF_no _ _ _ _ _ _ _ _ (by decide +kernel),_,rfl,_,rfl,.inl ⟨rfl,_,SqL.of gl⟩,l,_,_,0,.int m,rfl,rfl,gl,(by decide),(by decide),(ixN_seq (n:=((m :: ms).map V.int).length) (i:=0) (j:=0) (by unfold ixN; rw [if_pos (by decide),if_pos (by rw [List.length_map,List.length_cons]; omega)]; rfl)).1,rfl,?_⟩
    refine ⟨H0,L,e,ds,_,x,m,rfl,g1,hx,gq.2 m List.mem_cons_self,fun G2 g2=>?_⟩
    have g3:=g2.wrote (x:=q) (List.mem_append_right _ hq)
    exact ⟨_,rfl,L.d,CD,L.dx,_,_,rfl,g2.hd,T.cl,T.nW,dF_w _ _ _ _ _ _ _ _,_,rfl,L.wd,_,rfl,g2.putW q,p _ g3 (Nat.le_add_right _ _)⟩
theorem scDd:FnScope ["doing","deed","kind"] ["doing","deed"] (defScope s_do_deed):=⟨rfl,rfl,rfl,by decide +kernel,rfl,by decide +kernel,by decide +kernel⟩
theorem ok_deed {n k:Nat} (hk:19≤k) (D:Df K mg "do_deed" s_do_deed ["doing","deed"] f fd) (DD:Df K mg "do_deeds" s_do_deeds ["doing","deeds"] fD fdD) (GD:FnOk P w K mg base (CXo P w) k fD fdD ["doing","deeds"] (spDds cf CD CS bs qs n))
    (MF:Mt K CD "fill" "Doing.fill" s_Doing_fill ["self","box","worth"] fF fdF) (MR:Mt K CD "reckon" "Doing.reckon" s_Doing_reckon ["self","formula"] fR fdR) (GR:FnOk P w K mg base (CXo P w) 18 fR fdR ["self","formula"] (spReck cf CD CS bs qs))
    (DP:Df K mg "do_pull" s_do_pull ["doing","name","box","otherwise"] fP fdP) (DU:Df K mg "do_push" s_do_push ["doing","name","formula"] fU fdU) (GU:FnOk P w K mg base (CXo P w) 19 fU fdU ["doing","name","formula"] (spPush cf CD CS bs qs))
    (DW:Df K mg "do_draw" s_do_draw ["doing","box","formula"] fW fdW) (GW:FnOk P w K mg base (CXo P w) 19 fW fdW ["doing","box","formula"] (spDDraw cf CD CS bs qs)) (DS:Df K mg "do_send" s_do_send ["doing","deed"] fS fdS) (GS:FnOk P w K mg base (CXo P w) 19 fS fdS ["doing","deed"] (spSend cf CD CS bs qs)) (MQ:Mt K CD "queue_of" "Doing.queue_of" s_Doing_queue_of ["self","name"] fQ fdQ) (T:DT K mg CD) (TM:MdT K mg CM CS) :
    FnOk P w K mg base (CXo P w) (k + 2) f fd ["doing","deed"] (spDd cf CD CS bs qs (n + 1)):=by
  have GF:FnOk P w K mg base CX0 1 fF fdF ["self","box","worth"] (spFill CD CS bs qs):=ok_fill MF T TM
  have GP:FnOk P w K mg base (CXo P w) (k + 1) fP fdP ["doing","name","box","otherwise"] (spPull cf CD CS bs qs n):=ok_pull (by omega) DP DD GD MF MQ T TM
  refine D.F.okX scDd (fun vs H Q E h=>?_) (fun cdv A outer s H vs Q E hr h=>?_)
  · obtain ⟨H0,L,e,ds,w,v,D,rfl,_⟩:=h
    rfl
  obtain ⟨H0,L,e,ds,w,v,D,rfl,g,hv,hn,ho,p⟩:=h
  have r1:Room 1 _:=hr.mono (by omega)
  have r18:Room 18 _:=hr.mono (by omega)
  have r19:Room 19 _:=hr.mono (by omega)
  have rk:Room k _:=hr.mono (by omega)
  refine ⟨_,pss_cons (ps_set (i:=2) scDd.nd rfl (Or.inl rfl) (pe_ix ix_tup (pv 1) pe_int (fun _ _=>rfl)))
    (pss_one (ps_if (pt_cmpR op_eq (pv 2) pe_str (nomark _)) (pss_one (ps_expr (pe_meth (pv 0) T.cl MF.m GF r1 MF.b .nil pass0 (pa_cons (pe_ix ix_tup (pv 1) pe_int (fun _ _=>rfl)) (pa_cons (pe_meth (pv 0) T.cl MR.m GR r18 MR.b .nil (body_cx.passes fun _ _ _ z=>z) (pa_cons (pe_ix ix_tup (pv 1) pe_int (fun _ _=>rfl)) pa_nil)) pa_nil)))))
    (pss_one (ps_if (pt_cmpR op_eq (pv 2) pe_str (nomark _)) (pss_one (ps_expr (pe_call GU r19 rfl DU.m DU.F.kp DU.b .nil (body_cx.passes fun _ _ _ z=>z) (pa_cons (pv 0) (pa_cons (pe_ix ix_tup (pv 1) pe_int (fun _ _=>rfl)) (pa_cons (pe_ix ix_tup (pv 1) pe_int (fun _ _=>rfl)) pa_nil))))))
    (pss_one (ps_if (pt_cmpR op_eq (pv 2) pe_str (nomark _)) (pss_one (ps_expr (pe_call GP hr rfl DP.m DP.F.kp DP.b .nil (body_cx.passes fun _ _ _ z=>z) (pa_cons (pv 0) (pa_cons (pe_ix ix_tup (pv 1) pe_int (fun _ _=>rfl)) (pa_cons (pe_ix ix_tup (pv 1) pe_int (fun _ _=>rfl)) (pa_cons (pe_ix ix_tup (pv 1) pe_int (fun _ _=>rfl)) pa_nil)))))))
    (pss_one (ps_if (pt_cmpR op_eq (pv 2) pe_str (nomark _)) (pss_one (ps_expr (pe_call GW r19 rfl DW.m DW.F.kp DW.b .nil (body_cx.passes fun _ _ _ z=>z) (pa_cons (pv 0) (pa_cons (pe_ix ix_tup (pv 1) pe_int (fun _ _=>rfl)) (pa_cons (pe_ix ix_tup (pv 1) pe_int (fun _ _=>rfl)) pa_nil))))))
    (pss_one (ps_if (pt_cmpR op_eq (pv 2) pe_str (nomark _)) (pss_one (ps_expr (pe_call GS r19 rfl DS.m DS.F.kp DS.b .nil (body_cx.passes fun _ _ _ z=>z) (pa_cons (pv 0) (pa_cons (pv 1) pa_nil)))))
    (pss_one (ps_if (pt_cmpR op_eq (pv 2) pe_str (nomark _)) (pss_one (ps_expr (pe_call GD rk rfl DD.m DD.F.kp DD.b .nil (body_cx.passes fun _ _ _ z=>z) (pa_cons (pv 0) (pa_cons (pe_ifExp (pt_cmpR op_ne (pe_meth (pv 0) T.cl MR.m GR r18 MR.b .nil (body_cx.passes fun _ _ _ z=>z) (pa_cons (pe_ix ix_tup (pv 1) pe_int (fun _ _=>rfl)) pa_nil)) pe_int (nomark _)) (pe_ix ix_tup (pv 1) pe_int (fun _ _=>rfl)) (pe_ix ix_tup (pv 1) pe_int (fun _ _=>rfl))) pa_nil)))))
    (pss_one (ps_if (pt_cmpR op_eq (pv 2) pe_str (nomark _)) (pss_one (ps_fld (pv 0) pe_bl rfl)) pss_nil)))))))))))))),?_⟩
  have no:∀ {m:Str},dNames.contains m=false→(dF L.m L.hv L.st L.wd L.od w.en L.rd L.ud).lookup m=none:=fun z=>dF_no _ _ _ _ _ _ _ _ z
  have nx:∀ {a b:Str} {p1 p2:Prop},(a == b)=false→p2→(if decide (V.str a=V.str b)=true then p1 else p2):=fun z q=>iteE (strF (sne z)) (iteF q)
  have yx:∀ {a:Str} {p1 p2:Prop},p1→(if decide (V.str a=V.str a)=true then p1 else p2):=fun q=>iteE (strT _) (iteT q)
  have fw:w.len < 400000:=by omega
  cases D with
  | put x F =>
    obtain ⟨t,u,rfl,ht,hx,hF⟩:=(by simpa only [DdIn] using hv)
    have tt:=SqT.of (K:=K) (g.sm _ _ ht)
    simp only [doD] at p
    refine ⟨_,rfl,t,_,_,_,rfl,rfl,tt,rfl,_,rfl,rfl,_,rfl,yx ?_⟩
    refine ⟨_,rfl,L.d,L.dx,_,rfl,g.hd,no (by decide +kernel),_,rfl,t,_,_,_,rfl,rfl,tt,rfl,?_⟩
    refine ⟨_,rfl,L.d,L.dx,_,rfl,g.hd,no (by decide +kernel),_,rfl,t,_,_,_,rfl,rfl,tt,rfl,H0,L,e,ds,w,u,F,rfl,g,hF,fw,fun G1 g1=>?_⟩
    refine rck_ends p g1.sm fun m em p=>?_
    exact ⟨H0,L,e,ds,_,x,m,rfl,g1,hx,ev_wo g1.asks (hF.1.same g1.sm) em,fun G' g'=>p G' g' (len_rk (w:=w) (F:=F))⟩
  | push x F =>
    obtain ⟨t,u,rfl,ht,hx,hF⟩:=(by simpa only [DdIn] using hv)
    have tt:=SqT.of (K:=K) (g.sm _ _ ht)
    refine ⟨_,rfl,t,_,_,_,rfl,rfl,tt,rfl,_,rfl,rfl,_,rfl,nx (by decide +kernel) ?_⟩
    refine ⟨_,rfl,rfl,_,rfl,yx ?_⟩
    exact ⟨_,rfl,_,rfl,t,_,_,_,rfl,rfl,tt,rfl,_,rfl,t,_,_,_,rfl,rfl,tt,rfl,H0,L,e,ds,w,x,u,F,rfl,g,hx,hF,fw,p⟩
  | pull q x o =>
    obtain ⟨t,u,rfl,ht,hq,hx,hl⟩:=(by simpa only [DdIn] using hv)
    have tt:=SqT.of (K:=K) (g.sm _ _ ht)
    simp only [Dd.deep] at hn
    simp only [Dd.size] at ho p
    refine ⟨_,rfl,t,_,_,_,rfl,rfl,tt,rfl,_,rfl,rfl,_,rfl,nx (by decide +kernel) ?_⟩
    refine ⟨_,rfl,rfl,_,rfl,nx (by decide +kernel) ?_⟩
    refine ⟨_,rfl,rfl,_,rfl,yx ?_⟩
    exact ⟨_,rfl,_,rfl,t,_,_,_,rfl,rfl,tt,rfl,_,rfl,t,_,_,_,rfl,rfl,tt,rfl,_,rfl,t,_,_,_,rfl,rfl,tt,rfl,H0,L,e,ds,w,q,x,u,o,rfl,g,hq,hx,hl,(by omega),(by omega),p.le (by omega)⟩
  | draw x F =>
    obtain ⟨t,u,rfl,ht,hx,hF⟩:=(by simpa only [DdIn] using hv)
    have tt:=SqT.of (K:=K) (g.sm _ _ ht)
    refine ⟨_,rfl,t,_,_,_,rfl,rfl,tt,rfl,_,rfl,rfl,_,rfl,nx (by decide +kernel) ?_⟩
    refine ⟨_,rfl,rfl,_,rfl,nx (by decide +kernel) ?_⟩
    refine ⟨_,rfl,rfl,_,rfl,nx (by decide +kernel) ?_⟩
    refine ⟨_,rfl,rfl,_,rfl,yx ?_⟩
    exact ⟨_,rfl,_,rfl,t,_,_,_,rfl,rfl,tt,rfl,_,rfl,t,_,_,_,rfl,rfl,tt,rfl,H0,L,e,ds,w,x,u,F,rfl,g,hx,hF,fw,p⟩
  | send to sg F rk F1 F2 =>
    obtain ⟨t,u,u1,u2,rfl,ht,hF,hF1,hF2⟩:=(by simpa only [DdIn] using hv)
    have tt:=SqT.of (K:=K) (g.sm _ _ ht)
    simp only [Dd.size] at ho p
    refine ⟨_,rfl,t,_,_,_,rfl,rfl,tt,rfl,_,rfl,rfl,_,rfl,nx (by decide +kernel) ?_⟩
    refine ⟨_,rfl,rfl,_,rfl,nx (by decide +kernel) ?_⟩
    refine ⟨_,rfl,rfl,_,rfl,nx (by decide +kernel) ?_⟩
    refine ⟨_,rfl,rfl,_,rfl,nx (by decide +kernel) ?_⟩
    refine ⟨_,rfl,rfl,_,rfl,yx ?_⟩
    exact ⟨_,rfl,_,rfl,H0,L,e,ds,w,t,u,u1,u2,to,sg,rk,F,F1,F2,rfl,g,ht,hF,hF1,hF2,(by omega),p⟩
  | ife F x y =>
    obtain ⟨t,u,u1,u2,rfl,ht,hF,hX,hY⟩:=(by simpa only [DdIn] using hv)
    simp only [Dd.deep] at hn
    simp only [Dd.size] at ho p
    simp only [doD] at p
    have tt:=SqT.of (K:=K) (g.sm _ _ ht)
    refine ⟨_,rfl,t,_,_,_,rfl,rfl,tt,rfl,_,rfl,rfl,_,rfl,nx (by decide +kernel) ?_⟩
    refine ⟨_,rfl,rfl,_,rfl,nx (by decide +kernel) ?_⟩
    refine ⟨_,rfl,rfl,_,rfl,nx (by decide +kernel) ?_⟩
    refine ⟨_,rfl,rfl,_,rfl,nx (by decide +kernel) ?_⟩
    refine ⟨_,rfl,rfl,_,rfl,nx (by decide +kernel) ?_⟩
    refine ⟨_,rfl,rfl,_,rfl,yx ?_⟩
    refine ⟨_,rfl,_,rfl,L.d,L.dx,_,rfl,g.hd,no (by decide +kernel),_,rfl,t,_,_,_,rfl,rfl,tt,rfl,H0,L,e,ds,w,u,F,rfl,g,hF,fw,fun G1 g1=>?_⟩
    have tt1:=SqT.of (K:=K) (g1.sm _ _ ht)
    have lw:Wk.len {w with rk:=w.rk++[F]}=w.len + 1:=by
      show w.out.length + (w.rk++[F]).length=w.out.length + w.rk.length + 1
      rw [List.length_append]
      rfl
    refine rck_ends p g1.sm fun m em p=>?_
    refine ⟨rfl,_,rfl,?_⟩
    by_cases c:m=0
    · subst c
      rw [if_pos rfl] at p
      refine iteE (b:=false) rfl (iteF ?_)
      exact ⟨_,rfl,t,_,_,_,rfl,rfl,tt1,rfl,H0,L,e,ds,_,u2,y,rfl,g1,hY,(by omega),(by rw [lw]; omega),p.le (by rw [lw]; omega)⟩
    · rw [if_neg c] at p
      refine iteE (b:=true) (by rw [decide_eq_false (fun z=>c (int_eq z))]; rfl) (iteT ?_)
      exact ⟨_,rfl,t,_,_,_,rfl,rfl,tt1,rfl,H0,L,e,ds,_,u1,x,rfl,g1,hX,(by omega),(by rw [lw]; omega),p.le (by rw [lw]; omega)⟩
  | fin =>
    obtain ⟨t,rfl,ht⟩:=(by simpa only [DdIn] using hv)
    have tt:=SqT.of (K:=K) (g.sm _ _ ht)
    simp only [doD] at p
    refine ⟨_,rfl,t,_,_,_,rfl,rfl,tt,rfl,_,rfl,rfl,_,rfl,nx (by decide +kernel) ?_⟩
    refine ⟨_,rfl,rfl,_,rfl,nx (by decide +kernel) ?_⟩
    refine ⟨_,rfl,rfl,_,rfl,nx (by decide +kernel) ?_⟩
    refine ⟨_,rfl,rfl,_,rfl,nx (by decide +kernel) ?_⟩
    refine ⟨_,rfl,rfl,_,rfl,nx (by decide +kernel) ?_⟩
    refine ⟨_,rfl,rfl,_,rfl,nx (by decide +kernel) ?_⟩
    refine ⟨_,rfl,rfl,_,rfl,yx ?_⟩
    refine ⟨_,rfl,L.d,CD,L.dx,_,rfl,g.hd,T.cl,T.nE,dF_few _ _ _ _ _ _ _ _,?_⟩
    rw [dF_end]
    exact p _ g.ended (Nat.le_add_right _ _)
theorem scDs:FnScope ["doing","deeds","deed"] ["doing","deeds"] (defScope s_do_deeds):=⟨rfl,rfl,rfl,by decide +kernel,rfl,by decide +kernel,by decide +kernel⟩
theorem ok_deeds1 {n k:Nat} (D:Df K mg "do_deeds" s_do_deeds ["doing","deeds"] f fd) (D1:Df K mg "do_deed" s_do_deed ["doing","deed"] f1 fd1) (G1:FnOk P w K mg base (CXo P w) k f1 fd1 ["doing","deed"] (spDd cf CD CS bs qs n)) :
    FnOk P w K mg base (CXo P w) (k + 1) f fd ["doing","deeds"] (spDds cf CD CS bs qs n):=by
  refine D.F.okX scDs (fun vs H Q E h=>?_) (fun cdv A outer s H vs Q E hr h=>?_)
  · obtain ⟨H0,L,e,ds,w,v,D,rfl,_⟩:=h
    rfl
  obtain ⟨H0,L,e,ds,w,v,D,rfl,g,⟨l,vs,rfl,hl,hlen,hD⟩,hn,ho,p⟩:=h
  refine ⟨_,pss_one (ps_for body_cx.own rfl (pi_list (pv 1)) (pg_name (i:=2) scDs.nd rfl (Or.inl rfl)) (pss_one (ps_expr (pe_call G1 hr rfl D1.m D1.F.kp D1.b .nil (body_cx.passes fun _ _ _ z=>z) (pa_cons (pv 0) (pa_cons (pv 2) pa_nil)))))),?_⟩
  refine ⟨_,rfl,l,rfl,⟨_,SqL.of (g.sm _ _ hl)⟩,for_list (K:=K) (a:=l) (xs:=vs) (fun i σ G=>∃ (D':Ds) (w':Wk) (u:Option V),σ=[some (.ref L.d),some (.ref l),u]∧Dg CD CS bs qs H0 G L e ds w'∧DsIn bs qs H0 D' (vs.drop i)∧D'.deep < n∧w'.len + 4 * D'.size≤w.len + 4 * D.size ∧
    Post cf (fun w' G'=>Dg CD CS bs qs H0 G' L e ds w') H0 (w.len + 4 * D.size) (doS e ds D' w') Q E) ⟨D,w,none,rfl,g,hD,hn,Nat.le_refl _,p⟩ ?_ ?_ ?_⟩
  · rintro i σ G _ ⟨D',w',u,rfl,g',_⟩
    exact SqL.of (g'.sm _ _ hl)
  · rintro i x σ G hi ⟨D',w',u,rfl,g',hD',hn',ho',p'⟩
    have lt:i < vs.length:=(List.getElem?_eq_some_iff.mp hi).1
    have hx:vs[i]=x:=(List.getElem?_eq_some_iff.mp hi).2
    rw [List.drop_eq_getElem_cons lt,hx] at hD'
    cases D' with
    | nil =>
      simp only [DsIn] at hD'
      cases hD'
    | cons d r =>
      obtain ⟨v0,vr,ev,hd,hr'⟩:=(by simpa only [DsIn] using hD')
      cases ev
      simp only [Ds.deep] at hn'
      simp only [Ds.size] at ho'
      refine ⟨_,rfl,_,rfl,H0,L,e,ds,w',x,d,rfl,g',hd,(by omega),(by omega),?_⟩
      simp only [doS] at p'
      cases ed:doD e ds d w' with
      | error er =>
        rw [ed] at p'
        exact p'
      | ok w2 =>
        rw [ed] at p'
        intro G2 g2 l2
        exact ⟨r,w2,_,rfl,g2,hr',(by omega),(by omega),p'⟩
  · rintro σ G ⟨D',w',u,rfl,g',hD',hn',ho',p'⟩
    rw [List.drop_length] at hD'
    cases D' with
    | nil =>
      simp only [doS] at p'
      exact p' G g' (by omega)
    | cons d r =>
      obtain ⟨v0,vr,ev,_⟩:=(by simpa only [DsIn] using hD')
      cases ev
theorem ok_deeds (D:Df K mg "do_deeds" s_do_deeds ["doing","deeds"] f fd) (D1:Df K mg "do_deed" s_do_deed ["doing","deed"] f1 fd1)
    (MF:Mt K CD "fill" "Doing.fill" s_Doing_fill ["self","box","worth"] fF fdF) (MR:Mt K CD "reckon" "Doing.reckon" s_Doing_reckon ["self","formula"] fR fdR) (GR:FnOk P w K mg base (CXo P w) 18 fR fdR ["self","formula"] (spReck cf CD CS bs qs))
    (DP:Df K mg "do_pull" s_do_pull ["doing","name","box","otherwise"] fP fdP) (DU:Df K mg "do_push" s_do_push ["doing","name","formula"] fU fdU) (GU:FnOk P w K mg base (CXo P w) 19 fU fdU ["doing","name","formula"] (spPush cf CD CS bs qs))
    (DW:Df K mg "do_draw" s_do_draw ["doing","box","formula"] fW fdW) (GW:FnOk P w K mg base (CXo P w) 19 fW fdW ["doing","box","formula"] (spDDraw cf CD CS bs qs)) (DS:Df K mg "do_send" s_do_send ["doing","deed"] fS fdS) (GS:FnOk P w K mg base (CXo P w) 19 fS fdS ["doing","deed"] (spSend cf CD CS bs qs)) (MQ:Mt K CD "queue_of" "Doing.queue_of" s_Doing_queue_of ["self","name"] fQ fdQ) (T:DT K mg CD) (TM:MdT K mg CM CS) :
    ∀ n:Nat,FnOk P w K mg base (CXo P w) (20 + 3 * n) f fd ["doing","deeds"] (spDds cf CD CS bs qs n)
  | 0=>by
    have no:∀ vs H Q E,¬ spDds cf CD CS bs qs 0 vs H Q E:=fun vs H Q E h=>by
      obtain ⟨H0,L,e,ds,w,v,D,_,_,_,hn,_⟩:=h
      omega
    exact ⟨fun vs H Q E h=>absurd h (no vs H Q E),fun A outer s H args us vs Q E _ _ _ _ h=>absurd h (no vs H Q E)⟩
  | n + 1=>ok_deeds1 D D1 (ok_deed (n:=n) (k:=20 + 3 * n) (by omega) D1 D (ok_deeds D D1 MF MR GR DP DU GU DW GW DS GS MQ T TM n) MF MR GR DP DU GU DW GW DS GS MQ T TM)
end
end My
namespace L2
open PySem PySem.Spec PyProof.Rows
theorem call_dictD {X:Cx}:CallR X (.type "dict") (fun xs H Q=>∃ d kvs,xs=[V.ref d]∧H d=some (.dK kvs)∧∀ p,H p=none→Q (.ref p) (upd H p (.dK kvs))):=by
  intro pins s σ H xs us Q I r h
  obtain ⟨d,kvs,rfl,hd,q⟩:=h
  obtain ⟨u,rfl,ru⟩:=vals1 r
  cases ru
  obtain ⟨hz,n1,ws,k1,m1⟩:=(show ObjOk X.prog X.w H s.heap d (.dK kvs) from I.hok d _ hd)
  refine kt_call_dict (knd:=mixKind X.prog X.w) n1 m1 (by rw [← k1.length]; exact hz) fun h' hn sb=>?_
  have kk:∀ b o,s.heap.get? b=some o→h'.get? b=some o:=fun b o e=>(sb.2 b (Nat.ne_of_lt (Heap.lt_size e))).trans (Heap.get?_push_of_some _ e)
  exact ⟨.ref s.heap.objs.size,_,I.laid (a:=s.heap.objs.size) (o:=.dK kvs) (t':=s.toks) kk (Nat.le_refl _) (dk_new hz (beq_eq_false_iff_ne.mpr (Ne.symm (Nat.ne_of_lt I.big))) k1 hn),rfl,q _ (I.hok.fresh (Nat.le_refl _))⟩
end L2
namespace My
open PySem L2
def StIn (CS:Addr) (H:Hp) (st:Addr) (bx:List (Str×Int)) (qu:List (Str×List Int)) (dr:Nat) (se:Int):Prop:=
  ∃ dx bd qd qa,H st=some (.ins CS dx (stFs (.ref bd) (.ref qd) (.int dr) (.int se)))∧H bd=some (.dK (boK bx))∧H qd=some (.dK (quK qa))∧QuIn H qa qu
theorem QuIn.same {G G':Hp} (s:Same G G') {qa:List (Str×Addr)} {qu:List (Str×List Int)} (q:QuIn G qa qu):QuIn G' qa qu:=
  QuIn.keep (L:=⟨0,0,0,0,0,0,0,0,0,0,.non,.non,qa⟩) (fun a u e _=>s _ _ e) (fun _ h=>h) q
theorem StIn.same {CS:Addr} {H H':Hp} (s:Same H H') {st:Addr} {bx:List (Str×Int)} {qu:List (Str×List Int)} {dr:Nat} {se:Int} (h:StIn CS H st bx qu dr se):StIn CS H' st bx qu dr se:=by
  obtain ⟨dx,bd,qd,qa,h1,h2,h3,h4⟩:=h
  exact ⟨dx,bd,qd,qa,s _ _ h1,s _ _ h2,s _ _ h3,h4.same s⟩
structure StNew (CS:Addr) (H G:Hp) (st:Addr) (bx:List (Str×Int)) (qu:List (Str×List Int)) (dr:Nat) (se:Int) (dxs bd qd:Addr) (qa:List (Str×Addr)):Prop where
  sm:Same H G
  hst:G st=some (.ins CS dxs (stFs (.ref bd) (.ref qd) (.int dr) (.int se)))
  hb:G bd=some (.dK (boK bx))
  hq:G qd=some (.dK (quK qa))
  hl:QuIn G qa qu
  nd:(st :: bd :: qd :: qa.map (·.2)).Nodup
  fr:∀ a∈st :: bd :: qd :: qa.map (·.2),H a=none
def spCopy (CS:Addr):Sp:=fun vs H Q _=>∃ (st:Addr) (bx:List (Str×Int)) (qu:List (Str×List Int)) (dr:Nat) (se:Int),vs=[.ref st]∧StIn CS H st bx qu dr se∧(qu.map (·.1)).Nodup∧qu.length < 100 ∧
  ∀ (G:Hp) (st' dxs bd qd:Addr) (qa:List (Str×Addr)),StNew CS H G st' bx qu dr se dxs bd qd qa→Q (.ref st') G
theorem quK_app {qa:List (Str×Addr)} {x:Str} {l:Addr} (h:x∉qa.map (·.1)):putK (quK qa) (Sum.inr x) (.ref l)=quK (qa++[(x,l)]):=by
  have e:qa.lookup x=none:=by
    cases z:qa.lookup x with
    | none=>rfl
    | some a=>exact absurd (List.mem_map.mpr ⟨_,look_mem z,rfl⟩) h
  unfold putK
  have v:valV (quK qa) (Sum.inr x)=none:=by
    have z:=tab_val V.ref x qa
    rw [e] at z
    exact z
  rw [valV_any,v]
  show (if false=true then _ else _)=_
  rw [if_neg (by decide)]
  unfold quK
  rw [List.map_append]
  rfl
theorem quK_len (qa:List (Str×Addr)):(quK qa).length=qa.length:=List.length_map _
theorem QuIn.len {G:Hp} {qa:List (Str×Addr)} {qu:List (Str×List Int)} (q:QuIn G qa qu):qa.length=qu.length:=Paired.length q
theorem QuIn.nm {G:Hp}:∀ {qa:List (Str×Addr)} {qu:List (Str×List Int)},QuIn G qa qu→qa.map (·.1)=qu.map (·.1)
  | _,_,.nil=>rfl
  | _ :: _,_ :: _,.cons a b=>by rw [List.map_cons,List.map_cons,a.1,QuIn.nm b]
theorem QuIn.nth {G:Hp}:∀ {qa:List (Str×Addr)} {qu:List (Str×List Int)} {i:Nat} {p:Str×Addr},QuIn G qa qu→qa[i]?=some p→∃ q,qu[i]?=some q∧p.1=q.1∧G p.2=some (.lst (q.2.map V.int))
  | _,_,i,p,.nil,h=>by simp at h
  | _ :: _,_ :: _,0,p,.cons a b,h=>by
    simp at h
    subst h
    exact ⟨_,rfl,a.1,a.2⟩
  | _ :: _,_ :: _,i + 1,p,.cons a b,h=>by
    obtain ⟨q,h1,h2⟩:=QuIn.nth (i:=i) (p:=p) b (by simpa using h)
    exact ⟨q,by simpa using h1,h2⟩
section
variable {P:Program} {w:World} {K:PySem.W.Frag} {mg:Str→Option Value} {base:Heap} {f fI CD CS CM:Addr} {fd fdI:FuncData}
theorem scCo:FnScope ["self","queues","name","worths"] ["self"] (defScope s_State_copy):=⟨rfl,rfl,rfl,by decide +kernel,rfl,by decide +kernel,by decide +kernel⟩
theorem ok_copy (F:Fun K "copy" "State.copy" s_State_copy f fd) (MS:Mk K CS fI) (FI:Fun K "__init__" "State.__init__" s_State_init fI fdI) (bI:Binds K fdI ["self","boxes","queues","drawn","sent"] []) (B:Bl mg) (T:MdT K mg CM CS) :
    FnOk P w K mg base CX0 3 f fd ["self"] (spCopy CS):=by
  have GI:FnOk P w K mg base CX0 1 fI fdI ["self","boxes","queues","drawn","sent"] (spSI CS):=ok_SI FI T
  refine F.ok scCo (fun vs H Q E h=>?_) (fun cdv A outer s H vs Q E hr h=>?_)
  · obtain ⟨st,bx,qu,dr,se,rfl,_⟩:=h
    rfl
  obtain ⟨st,bx,qu,dr,se,rfl,⟨dx,bd,qd,qa,hst,hb,hq,hl⟩,ndq,lq,k⟩:=h
  have hu:=hu_of hr
  refine ⟨_,pss_cons (ps_set (i:=1) scCo.nd rfl (Or.inl rfl) pe_dnewK)
    (pss_cons (ps_thaw (ps_for PassesOwn.never rfl (pi_items (pe_fld (pv 0) rfl)) (pg_tup rfl (pgs_cons (pg_name (i:=2) scCo.nd rfl (Or.inl rfl)) (pgs_cons (pg_name (i:=3) scCo.nd rfl (Or.inl rfl)) pgs_nil))) (pss_one (ps_dput hu (pv 1) (pv 2) (pe_callTy call_list_of (by rfl) B.list boot_list (pa_cons (pv 3) pa_nil)) rfl))))
    (pss_one (ps_ret (pe_make MS GI hr (by rfl) T.mS bI .nil pass0 (pa_cons (pe_callTy call_dictD (by rfl) B.dict boot_dict (pa_cons (pe_fld (pv 0) rfl) pa_nil)) (pa_cons (pv 1) (pa_cons (pe_fld (pv 0) rfl) (pa_cons (pe_fld (pv 0) rfl) pa_nil)))))))),?_⟩
  intro d hd
  have s1:Same H (upd H d (.dK [])):=same_new hd _
  have nf:∀ (ob:Obj) (u:HO),H qd≠some (.frz ob u):=fun ob u z=>by
    rw [hq] at z
    cases z
  have ndd:d≠qd:=(ne_of_none hq hd).symm
  have nlq:(qa.map (·.1)).Nodup:=by
    rw [hl.nm]
    exact ndq
  refine ⟨_,rfl,st,CS,dx,_,_,rfl,s1 _ _ hst,T.clS,T.nQ,st_q _ _ _ _,qd,_,rfl,s1 _ _ hq,nf,fun od=>?_⟩
  refine for_items (d:=qd) (od:=od) (kvs:=quK qa) (fun i σ G=>∃ (v2 v3:Option V) (qa':List (Str×Addr)),σ=[some (.ref st),some (.ref d),v2,v3]∧G qd=some (.frz od (.dK (quK qa)))∧(∀ b o,H b=some o→b≠qd→G b=some o)∧G d=some (.dK (quK qa')) ∧
    QuIn G qa' (qu.take i)∧(qa'.map (·.2)).Nodup∧∀ a∈qa'.map (·.2),H a=none∧a≠d) ⟨none,none,[],rfl,upd_same,fun b o e n=>?_,?_,?_,List.nodup_nil,fun a h=>by cases h⟩ ?_ ?_ ?_
  · rw [upd_ne n]
    exact s1 _ _ e
  · rw [upd_ne ndd]
    exact upd_same
  · rw [List.take_zero]
    exact .nil
  · rintro i σ G _ ⟨_,_,_,_,h1,_⟩
    exact h1
  · rintro i kv t σ G hi ⟨v2,v3,qa',rfl,g1,g2,g3,g4,g5,g6⟩ ht
    obtain ⟨p,hp,rfl⟩:∃ p,qa[i]?=some p∧kv=((Sum.inr p.1:Key),V.ref p.2):=by
      unfold quK at hi
      rw [List.getElem?_map] at hi
      cases z:qa[i]? with
      | none =>
        rw [z] at hi
        cases hi
      | some p =>
        rw [z] at hi
        cases hi
        exact ⟨p,rfl,rfl⟩
    obtain ⟨q,hq1,hq2,hq3⟩:=hl.nth hp
    have st_:=same_new ht (.tup [kV (Sum.inr p.1),.ref p.2])
    have npq:p.2≠qd:=ne_of hq3 hq (by intro z; cases z)
    refine ⟨t,_,rfl,SqT.of upd_same,rfl,_,_,rfl,_,_,rfl,rfl,?_⟩
    refine ⟨_,rfl,p.2,_,rfl,.inl (SqL.of (st_ _ _ (g2 _ _ hq3 npq))),fun l hl'=>?_⟩
    have sl:=same_new hl' (.lst (q.2.map V.int))
    have gd2:=sl _ _ (st_ _ _ g3)
    have lti:i < qu.length:=(List.getElem?_eq_some_iff.mp hq1).1
    have tk:(qu.take (i + 1))=qu.take i++[q]:=by
      rw [List.take_add_one,hq1]
      rfl
    have nin:p.1∉qa'.map (·.1):=by
      rw [g4.nm,hq2]
      intro z
      have nd2:((qu.take (i + 1)).map (·.1)).Nodup:=by
        rw [List.map_take]
        exact ndq.sublist (List.take_sublist _ _)
      rw [tk,List.map_append] at nd2
      exact (List.nodup_append.mp nd2).2.2 _ z q.1 (by simp) rfl
    have len':(quK qa').length < sizeLine:=by
      have z:=g4.len
      rw [List.length_take] at z
      rw [quK_len]
      have:=line1000
      omega
    have dp:=DPut.k (k:=Sum.inr p.1) (v:=.ref l) gd2 len'
    rw [quK_app nin] at dp
    refine ⟨_,rfl,_,rfl,d,_,rfl,dp,?_⟩
    have nlG:G l=none:=by
      cases z:G l with
      | none=>rfl
      | some o =>
        have:=st_ _ _ z
        rw [hl'] at this
        cases this
    have nl0:H l=none:=by
      cases z:H l with
      | none=>rfl
      | some o =>
        by_cases c:l=qd
        · rw [c,g1] at nlG
          cases nlG
        · rw [g2 _ _ z c] at nlG
          cases nlG
    have nld:l≠d:=fun z=>by rw [z,g3] at nlG; cases nlG
    refine ⟨_,_,qa'++[(p.1,l)],rfl,?_,fun b o e n=>?_,upd_same,?_,?_,fun a ha=>?_⟩
    · rw [upd_ne ndd.symm]
      exact sl _ _ (st_ _ _ g1)
    · rw [upd_ne (ne_of_none e hd)]
      exact sl _ _ (st_ _ _ (g2 _ _ e n))
    · rw [tk]
      have old:QuIn (upd (upd (upd G t (.tup [kV (Sum.inr p.1),.ref p.2])) l (.lst (q.2.map V.int))) d (.dK (quK (qa'++[(p.1,l)])))) qa' (qu.take i):=
        QuIn.keep (L:=⟨0,0,0,0,0,0,0,0,0,0,.non,.non,qa'⟩) (fun a u e m=>hv_ne (sl _ _ (st_ _ _ e)) (g6 a m).2) (fun _ h=>h) g4
      exact Paired.snoc old ⟨hq2,hv_ne upd_same nld⟩
    · rw [List.map_append]
      refine List.nodup_append.mpr ⟨g5,by simp,fun a ha b hb=>?_⟩
      rw [List.mem_singleton.mp hb]
      intro z
      obtain ⟨pp,hpp,e⟩:=List.mem_map.mp ha
      obtain ⟨j,hj⟩:=List.getElem?_of_mem hpp
      obtain ⟨_,_,_,y⟩:=g4.nth hj
      rw [e,z,nlG] at y
      cases y
    · rw [List.map_append] at ha
      rcases List.mem_append.mp ha with z | z
      · exact g6 a z
      · rw [List.mem_singleton.mp z]
        exact ⟨nl0,nld⟩
  · rintro σ G ⟨v2,v3,qa',rfl,g1,g2,g3,g4,g5,g6⟩
    rw [quK_len,hl.len,List.take_length] at g4
    refine ⟨qd,od,_,g1,nf,?_⟩
    have sH:Same H (upd G qd (.dK (quK qa))):=fun b o e=>by
      by_cases c:b=qd
      · rw [c,upd_same]
        rw [c,hq] at e
        exact e
      · rw [upd_ne c]
        exact g2 _ _ e c
    have g3':upd G qd (.dK (quK qa)) d=some (.dK (quK qa')):=hv_ne g3 ndd
    have g4':QuIn (upd G qd (.dK (quK qa))) qa' qu:=
      QuIn.keep (L:=⟨0,0,0,0,0,0,0,0,0,0,.non,.non,qa'⟩) (fun a u e m=>hv_ne e (ne_of_none hq (g6 a m).1).symm) (fun _ h=>h) g4
    generalize upd G qd (.dK (quK qa))=G2 at sH g3' g4'
    refine ⟨_,rfl,st,CS,dx,_,_,rfl,sH _ _ hst,T.clS,T.nB,st_b _ _ _ _,bd,_,rfl,sH _ _ hb,fun e he=>?_⟩
    have s3:=same_new he (.dK (boK bx))
    refine ⟨_,rfl,_,rfl,st,CS,dx,_,_,rfl,s3 _ _ (sH _ _ hst),T.clS,T.nD,st_d _ _ _ _,_,rfl,st,CS,dx,_,_,rfl,s3 _ _ (sH _ _ hst),T.clS,T.nS,st_s _ _ _ _,?_⟩
    intro x dx' nx ndx nex
    refine ⟨x,dx',_,_,_,_,rfl,upd_same,fun H' hx bt=>⟨rfl,?_⟩⟩
    have sm:Same (upd G2 e (.dK (boK bx))) H':=fun b o e2=>by
      have cx:b≠x:=ne_of_none e2 nx
      refine bt b o ?_ cx
      rw [upd_ne cx,upd_ne (ne_of_none e2 ndx)]
      exact e2
    have sm2:=s3.trans sm
    have fresh:∀ {a:Addr},upd G2 e (.dK (boK bx)) a=none→H a=none:=fun {a} z=>by
      cases y:H a with
      | none=>rfl
      | some o =>
        rw [s3 _ _ (sH _ _ y)] at z
        cases z
    have he0:H e=none:=by
      cases y:H e with
      | none=>rfl
      | some o =>
        rw [sH _ _ y] at he
        cases he
    refine k H' x dx' e d qa' ⟨sH.trans sm2,hx,sm _ _ upd_same,sm2 _ _ g3',g4'.same sm2,?_,?_⟩
    · have nx_e:x≠e:=(ne_of_none (upd_same:upd G2 e (.dK (boK bx)) e=_) nx).symm
      have nx_d:x≠d:=(ne_of_none (s3 _ _ g3') nx).symm
      have ne_d:e≠d:=(ne_of_none g3' he).symm
      have ql:∀ a∈qa'.map (·.2),∃ o,G2 a=some o:=fun a ha=>by
        obtain ⟨pp,hpp,e⟩:=List.mem_map.mp ha
        obtain ⟨j,hj⟩:=List.getElem?_of_mem hpp
        obtain ⟨_,_,_,y⟩:=g4'.nth hj
        rw [← e]
        exact ⟨_,y⟩
      refine List.nodup_cons.mpr ⟨fun z=>?_,List.nodup_cons.mpr ⟨fun z=>?_,List.nodup_cons.mpr ⟨fun z=>(g6 d z).2 rfl,g5⟩⟩⟩
      · rcases List.mem_cons.mp z with z | z
        · exact nx_e z
        · rcases List.mem_cons.mp z with z | z
          · exact nx_d z
          · obtain ⟨o,y⟩:=ql x z
            exact (ne_of_none (s3 _ _ y) nx) rfl
      · rcases List.mem_cons.mp z with z | z
        · exact ne_d z
        · obtain ⟨o,y⟩:=ql e z
          exact (ne_of_none y he) rfl
    · intro a ha
      rcases List.mem_cons.mp ha with z | z
      · rw [z]
        exact fresh nx
      · rcases List.mem_cons.mp z with z | z
        · rw [z]
          exact he0
        · rcases List.mem_cons.mp z with z | z
          · rw [z]
            exact hd
          · exact (g6 a z).1
end
end My
namespace My
open PySem L2
theorem Dg.base {CD CS:Addr} {bs qs:List Str} {H0 H0' G G':Hp} {L:Lay} {h:Ev} {ds:List Int} {w:Wk} (g:Dg CD CS bs qs H0 G L h ds w) (s:Same G G') (s0:Same H0 H0') (s1:Same H0' G') (fr:∀ a∈L.all,H0' a=none):Dg CD CS bs qs H0' G' L h ds w:=by
  obtain ⟨t,x1,x2,x3,x4,dl,em,hm,hdl⟩:=g.hm
  have g':=g.same s
  obtain ⟨rs,r1,r2⟩:=g'.hr
  exact ⟨s1,g'.hd,g'.hst,g'.hb,g'.hq,g'.hl,g'.hw,g'.ho,⟨rs,r1,Paired.mono (fun _ _ z=>z.same s0) r2⟩,g'.hu,g.hh.same s0,⟨t,x1,x2,x3,x4,dl,em,s0 _ _ hm,s0 _ _ hdl⟩,g.nd,fr,g.ok,g.wt,g.wa,g.wb⟩
theorem QuIn.there {G:Hp} {qa:List (Str×Addr)} {qu:List (Str×List Int)} (q:QuIn G qa qu) {a:Addr} (h:a∈qa.map (·.2)):∃ xs,G a=some (.lst xs):=by
  obtain ⟨pp,hpp,e⟩:=List.mem_map.mp h
  obtain ⟨j,hj⟩:=List.getElem?_of_mem hpp
  obtain ⟨_,_,_,y⟩:=q.nth hj
  rw [← e]
  exact ⟨_,y⟩
theorem Dg.there {CD CS:Addr} {bs qs:List Str} {H0 G:Hp} {L:Lay} {h:Ev} {ds:List Int} {w:Wk} (g:Dg CD CS bs qs H0 G L h ds w):∀ a∈L.all,∃ o,G a=some o:=fun a ha=>by
  obtain ⟨vs,o1,_⟩:=g.ho
  obtain ⟨rs,r1,_⟩:=g.hr
  unfold Lay.all at ha
  simp only [List.mem_cons] at ha
  rcases ha with rfl | rfl | rfl | rfl | rfl | rfl | rfl | rfl | ha
  · exact ⟨_,g.hd⟩
  · exact ⟨_,g.hst⟩
  · exact ⟨_,g.hb⟩
  · exact ⟨_,g.hq⟩
  · exact ⟨_,g.hw⟩
  · exact ⟨_,o1⟩
  · exact ⟨_,r1⟩
  · exact ⟨_,g.hu⟩
  · obtain ⟨xs,e⟩:=g.hl.there ha
    exact ⟨_,e⟩
def HsIn (bs qs:List Str) (H:Hp) (v:V) (p:Str×Ds):Prop:=∃ t u,v=.ref t∧H t=some (.tup [.str p.1,u])∧LstIn H (DsIn bs qs H p.2) u
def dsOf (hs:List (Str×Ds)) (sg:Str):Ds:=(hs.lookup sg).getD .nil
theorem HsIn.same {bs qs:List Str} {H H':Hp} (s:Same H H') {v:V} {p:Str×Ds} (h:HsIn bs qs H v p):HsIn bs qs H' v p:=by
  obtain ⟨t,u,e,h1,h2⟩:=h
  exact ⟨t,u,e,s _ _ h1,h2.same s (DsIn.same s p.2)⟩
section
variable {P:Program} {w:World} {K:PySem.W.Frag} {mg:Str→Option Value} {base:Heap} {f fC fI CD CS CM:Addr} {fd fdC fdI:FuncData} {bs qs:List Str}
theorem upd_none {G:Hp} {a b:Addr} {o:HO} (h:upd G a o b=none):b≠a∧G b=none:=by
  by_cases c:b=a
  · rw [c,upd_same] at h
    cases h
  · rw [upd_ne c] at h
    exact ⟨c,h⟩
theorem di_at {G:Hp} {d wd od rd ud a:Addr} {i3 i4 i6 i7 i8 o:HO} (hwd:G wd=none) (hod:G od=none) (hrd:G rd=none) (hud:G ud=none) (e:G a=some o) (n:a≠d):upd (upd (upd (upd (upd (upd (upd (upd (upd G d i3) wd (.dK [])) d i4) od (.lst [])) d i6) rd (.lst [])) d i7) ud (.dK [])) d i8 a=some o:=
  hv_ne (hv_ne (hv_ne (hv_ne (hv_ne (hv_ne (hv_ne (hv_ne (hv_ne e n) (ne_of_none e hwd)) n) (ne_of_none e hod)) n) (ne_of_none e hrd)) n) (ne_of_none e hud)) n
def spDI (CD CS:Addr) (bs qs:List Str):Sp:=fun vs H Q _=>∃ (H0:Hp) (d dx st:Addr) (m hv:V) (h:Ev) (ds:List Int) (bx:List (Str×Int)) (qu:List (Str×List Int)) (dr:Nat) (se:Int),vs=[.ref d,m,.ref st,hv]∧H d=some (.ins CD dx [])∧H0 d=none∧Same H0 H∧StIn CS H0 st bx qu dr se ∧
  EvIn H0 hv h∧(∃ t x1 x2 x3 x4 dl,m=.ref t∧H0 t=some (.tup [x1,x2,x3,.ref dl,x4])∧H0 dl=some (.lst (ds.map V.int)))∧WkOk bs qs ⟨bx,qu,dr,se,[],[],false,[],[]⟩∧Wo h.t∧Wo h.a∧Wo h.b ∧
  ∀ (G:Hp) (L:Lay),L.d=d→L.m=m→Dg CD CS bs qs H0 G L h ds ⟨bx,qu,dr,se,[],[],false,[],[]⟩→Q .non G
theorem scDI:FnScope ["self","machine","state","happening"] ["self","machine","state","happening"] (defScope s_Doing_init):=⟨rfl,rfl,rfl,by decide +kernel,rfl,by decide +kernel,by decide +kernel⟩
theorem ok_DI (F:Fun K "__init__" "Doing.__init__" s_Doing_init f fd) (MC:Mt K CS "copy" "State.copy" s_State_copy ["self"] fC fdC) (GC:FnOk P w K mg base CX0 3 fC fdC ["self"] (spCopy CS)) (T:DT K mg CD) (TM:MdT K mg CM CS):FnOk P w K mg base CX0 4 f fd ["self","machine","state","happening"] (spDI CD CS bs qs):=by
  refine F.ok scDI (fun vs H Q E h=>?_) (fun cdv A outer s H vs Q E hr h=>?_)
  · obtain ⟨H0,d,dx,st,m,hv,h,ds,bx,qu,dr,se,rfl,_⟩:=h
    rfl
  obtain ⟨H0,d,dx,st,m,hv,h,ds,bx,qu,dr,se,rfl,hd,nd0,s0,hS,hE,hM,ok,wt,wa,wb,k⟩:=h
  refine ⟨_,pss_cons (ps_fld (pv 0) (pv 1) rfl) (pss_cons (ps_fld (pv 0) (pv 3) rfl) (pss_cons (ps_fld (pv 0) (pe_meth0 (pv 2) TM.clS MC.m GC hr MC.b .nil pass0) rfl) (pss_cons (ps_fld (pv 0) pe_dnewK rfl) (pss_cons (ps_fld (pv 0) (pe_lst pa_nil) rfl) (pss_cons (ps_fld (pv 0) pe_bl rfl) (pss_cons (ps_fld (pv 0) (pe_lst pa_nil) rfl) (pss_one (ps_fld (pv 0) pe_dnewK rfl)))))))),?_⟩
  have l1:=putF_le "machine" m []
  have l2:=putF_le "happening" hv (putF "machine" m [])
  simp only [List.length_nil] at l1
  refine ⟨_,rfl,_,rfl,d,CD,dx,[],rfl,hd,T.cl,T.nM,(by show 0 < 1000; decide),?_⟩
  refine ⟨_,rfl,_,rfl,d,CD,dx,_,rfl,upd_same,T.cl,T.nH,(by omega),?_⟩
  rw [upd_upd]
  have sd:∀ (o:HO),Same H0 (upd H d o):=fun o b u e=>by
    rw [upd_ne (ne_of_none e nd0)]
    exact s0 _ _ e
  obtain ⟨dxs0,bd0,qd0,qa0,hst0,_⟩:=id hS
  refine ⟨_,rfl,st,dxs0,_,rfl,sd _ _ _ hst0,st_no _ _ _ _ (by decide +kernel),st,bx,qu,dr,se,rfl,hS.same (sd _),(by rw [ok.kq]; exact ok.nq),?_,fun G st' dxs bd qd qa N=>?_⟩
  · have e:=congrArg List.length ok.kq
    rw [List.length_map] at e
    have:=ok.fw
    rw [List.length_append] at this
    show qu.length < 100
    have e:qu.length=qs.length:=e
    omega
  have gd:G d=some (.ins CD dx (putF "happening" hv (putF "machine" m []))):=N.sm _ _ upd_same
  have l3:=putF_le "state" (.ref st') (putF "happening" hv (putF "machine" m []))
  have l4:=fun wd=>putF_le "written" (.ref wd) (putF "state" (.ref st') (putF "happening" hv (putF "machine" m [])))
  have l5:=fun od wd=>putF_le "outgoing" (.ref od) (putF "written" (.ref wd) (putF "state" (.ref st') (putF "happening" hv (putF "machine" m []))))
  refine ⟨_,rfl,d,CD,dx,_,rfl,gd,T.cl,T.nS,(by omega),?_⟩
  have l6:=fun od wd=>putF_le "ends" (.bl false) (putF "outgoing" (.ref od) (putF "written" (.ref wd) (putF "state" (.ref st') (putF "happening" hv (putF "machine" m [])))))
  have l7:=fun rd od wd=>putF_le "reckoned" (.ref rd) (putF "ends" (.bl false) (putF "outgoing" (.ref od) (putF "written" (.ref wd) (putF "state" (.ref st') (putF "happening" hv (putF "machine" m []))))))
  intro wd hwd
  obtain ⟨nwd,hwd⟩:=upd_none hwd
  refine ⟨_,rfl,d,CD,dx,_,rfl,(by rw [upd_ne nwd.symm]; exact upd_same),T.cl,T.nW,(by omega),Nat.zero_le _,fun od hod=>?_⟩
  obtain ⟨nod,hod⟩:=upd_none hod
  obtain ⟨now_,hod⟩:=upd_none hod
  obtain ⟨_,hod⟩:=upd_none hod
  have l4':=l4 wd
  have l5':=l5 od wd
  have l6':=l6 od wd
  refine ⟨_,rfl,d,CD,dx,_,rfl,(by rw [upd_ne nod.symm]; exact upd_same),T.cl,T.nO,(by omega),?_⟩
  refine ⟨_,rfl,d,CD,dx,_,rfl,upd_same,T.cl,T.nE,(by omega),Nat.zero_le _,fun rd hrd=>?_⟩
  rw [upd_upd] at hrd ⊢
  obtain ⟨nrd,hrd⟩:=upd_none hrd
  obtain ⟨nro,hrd⟩:=upd_none hrd
  obtain ⟨_,hrd⟩:=upd_none hrd
  obtain ⟨nrw,hrd⟩:=upd_none hrd
  obtain ⟨_,hrd⟩:=upd_none hrd
  have l7':=l7 rd od wd
  refine ⟨_,rfl,d,CD,dx,_,rfl,(by rw [upd_ne nrd.symm]; exact upd_same),T.cl,T.nR,(by omega),?_⟩
  intro ud hud
  obtain ⟨nud,hud⟩:=upd_none hud
  obtain ⟨nur,hud⟩:=upd_none hud
  obtain ⟨_,hud⟩:=upd_none hud
  obtain ⟨nuo,hud⟩:=upd_none hud
  obtain ⟨_,hud⟩:=upd_none hud
  obtain ⟨nuw,hud⟩:=upd_none hud
  obtain ⟨_,hud⟩:=upd_none hud
  refine ⟨_,rfl,d,CD,dx,_,rfl,(by rw [upd_ne nud.symm]; exact upd_same),T.cl,T.nQ,(by omega),?_⟩
  rw [dF_new]
  have frH:∀ {a:Addr},G a=none→H0 a=none:=fun {a} z=>by
    cases y:H0 a with
    | none=>rfl
    | some o =>
      rw [N.sm _ _ (sd _ _ _ y)] at z
      cases z
  have fr0:∀ a∈st' :: bd :: qd :: qa.map (·.2),H0 a=none∧a≠d:=fun a ha=>by
    have z:=N.fr a ha
    have n:a≠d:=fun y=>by
      rw [y,upd_same] at z
      cases z
    rw [upd_ne n] at z
    refine ⟨?_,n⟩
    cases y:H0 a with
    | none=>rfl
    | some o =>
      rw [s0 _ _ y] at z
      cases z
  have thG:∀ a∈st' :: bd :: qd :: qa.map (·.2),∃ o,G a=some o:=fun a ha=>by
    simp only [List.mem_cons] at ha
    rcases ha with rfl | rfl | rfl | ha
    · exact ⟨_,N.hst⟩
    · exact ⟨_,N.hb⟩
    · exact ⟨_,N.hq⟩
    · obtain ⟨xs,e⟩:=N.hl.there ha
      exact ⟨_,e⟩
  have i1:∀ {b:Addr} {xs:List Addr},b∈b :: xs:=List.mem_cons_self
  have i2:∀ {a b:Addr} {xs:List Addr},b∈xs→b∈a :: xs:=fun z=>List.mem_cons_of_mem _ z
  refine k _ ⟨d,dx,st',dxs,bd,qd,wd,od,rd,ud,m,hv,qa⟩ rfl rfl ⟨fun b o e=>di_at hwd hod hrd hud (N.sm _ _ (sd _ _ _ e)) (ne_of_none e nd0),upd_same,di_at hwd hod hrd hud N.hst (fr0 _ i1).2,di_at hwd hod hrd hud N.hb (fr0 _ (i2 i1)).2,di_at hwd hod hrd hud N.hq (fr0 _ (i2 (i2 i1))).2,?_,?_,⟨[],?_,.nil⟩,⟨[],?_,.nil⟩,?_,hE,hM,?_,?_,ok,wt,wa,wb⟩
  · exact QuIn.keep (L:=⟨0,0,0,0,0,0,0,0,0,0,.non,.non,qa⟩) (fun a u e m=>di_at hwd hod hrd hud e (fr0 a (i2 (i2 (i2 m)))).2) (fun _ h=>h) N.hl
  · show upd _ d _ wd=some (.dK [])
    rw [upd_ne nwd,upd_ne nuw.symm,upd_ne nwd,upd_ne nrw.symm,upd_ne nwd,upd_ne now_.symm,upd_ne nwd,upd_same]
  · show upd _ d _ od=some (.lst [])
    rw [upd_ne nod,upd_ne nuo.symm,upd_ne nod,upd_ne nro.symm,upd_ne nod,upd_same]
  · show upd _ d _ rd=some (.lst [])
    rw [upd_ne nrd,upd_ne nur.symm,upd_ne nrd,upd_same]
  · show upd _ d _ ud=some (.dK [])
    rw [upd_ne nud,upd_same]
  · have nd:=N.nd
    have hn:∀ {a:Addr} {xs:List Addr},a∉xs→xs.Nodup→(a :: xs).Nodup:=fun p q=>List.nodup_cons.mpr ⟨p,q⟩
    obtain ⟨n1,nd⟩:=List.nodup_cons.mp nd
    obtain ⟨n2,nd⟩:=List.nodup_cons.mp nd
    obtain ⟨n3,nd⟩:=List.nodup_cons.mp nd
    simp only [List.mem_cons,not_or] at n1 n2 n3
    have wdn:∀ a∈st' :: bd :: qd :: qa.map (·.2),a≠wd:=fun a ha z=>by
      obtain ⟨o,y⟩:=thG a ha
      rw [z,hwd] at y
      cases y
    have odn:∀ a∈st' :: bd :: qd :: qa.map (·.2),a≠od:=fun a ha z=>by
      obtain ⟨o,y⟩:=thG a ha
      rw [z,hod] at y
      cases y
    have rdn:∀ a∈st' :: bd :: qd :: qa.map (·.2),a≠rd:=fun a ha z=>by
      obtain ⟨o,y⟩:=thG a ha
      rw [z,hrd] at y
      cases y
    have udn:∀ a∈st' :: bd :: qd :: qa.map (·.2),a≠ud:=fun a ha z=>by
      obtain ⟨o,y⟩:=thG a ha
      rw [z,hud] at y
      cases y
    show (d :: st' :: bd :: qd :: wd :: od :: rd :: ud :: qa.map (·.2)).Nodup
    refine hn ?_ (hn ?_ (hn ?_ (hn ?_ (hn ?_ (hn ?_ (hn ?_ (hn ?_ nd)))))))
    · simp only [List.mem_cons,not_or]
      exact ⟨fun z=>(fr0 _ i1).2 z.symm,fun z=>(fr0 _ (i2 i1)).2 z.symm,fun z=>(fr0 _ (i2 (i2 i1))).2 z.symm,nwd.symm,nod.symm,nrd.symm,nud.symm,fun z=>(fr0 d (i2 (i2 (i2 z)))).2 rfl⟩
    · simp only [List.mem_cons,not_or]
      exact ⟨n1.1,n1.2.1,wdn _ i1,odn _ i1,rdn _ i1,udn _ i1,n1.2.2⟩
    · simp only [List.mem_cons,not_or]
      exact ⟨n2.1,wdn _ (i2 i1),odn _ (i2 i1),rdn _ (i2 i1),udn _ (i2 i1),n2.2⟩
    · simp only [List.mem_cons,not_or]
      exact ⟨wdn _ (i2 (i2 i1)),odn _ (i2 (i2 i1)),rdn _ (i2 (i2 i1)),udn _ (i2 (i2 i1)),n3⟩
    · simp only [List.mem_cons,not_or]
      exact ⟨now_.symm,nrw.symm,nuw.symm,fun z=>wdn wd (i2 (i2 (i2 z))) rfl⟩
    · simp only [List.mem_cons,not_or]
      exact ⟨nro.symm,nuo.symm,fun z=>odn od (i2 (i2 (i2 z))) rfl⟩
    · simp only [List.mem_cons,not_or]
      exact ⟨nur.symm,fun z=>rdn rd (i2 (i2 (i2 z))) rfl⟩
    · exact fun z=>udn ud (i2 (i2 (i2 z))) rfl
  · intro a ha
    unfold Lay.all at ha
    simp only [List.mem_cons] at ha
    rcases ha with rfl | rfl | rfl | rfl | rfl | rfl | rfl | rfl | ha
    · exact nd0
    · exact (fr0 _ i1).1
    · exact (fr0 _ (i2 i1)).1
    · exact (fr0 _ (i2 (i2 i1))).1
    · exact frH hwd
    · exact frH hod
    · exact frH hrd
    · exact frH hud
    · exact (fr0 a (i2 (i2 (i2 ha)))).1
def spBy (bs qs:List Str):Sp:=fun vs H Q _=>∃ (H0:Hp) (t hl:Addr) (x0 x1 x2 x3:V) (hv:List V) (hs:List (Str×Ds)) (sg:Str),vs=[.ref t,.str sg]∧Same H0 H∧H0 t=some (.tup [x0,x1,x2,x3,.ref hl])∧H0 hl=some (.lst hv)∧Paired (HsIn bs qs H0) hv hs ∧
  (∀ u,LstIn H0 (DsIn bs qs H0 (dsOf hs sg)) u→Q u H)∧∀ l,H l=none→dsOf hs sg=.nil→Q (.ref l) (upd H l (.lst []))
theorem scBy:FnScope ["machine","sign","heard"] ["machine","sign"] (defScope s_deeds_by_sign):=⟨rfl,rfl,rfl,by decide +kernel,rfl,by decide +kernel,by decide +kernel⟩
theorem pair_drop {α β:Type} {R:α→β→Prop}:∀ {xs:List α} {ys:List β} {i:Nat} {x:α},Paired R xs ys→xs[i]?=some x→∃ y,ys[i]?=some y∧R x y
  | _,_,i,x,.nil,h=>by simp at h
  | _,_,0,x,.cons a b,h=>by
    simp at h
    subst h
    exact ⟨_,rfl,a⟩
  | _,_,i + 1,x,.cons a b,h=>by
    obtain ⟨y,h1,h2⟩:=pair_drop (i:=i) (x:=x) b (by simpa using h)
    exact ⟨y,by simpa using h1,h2⟩
theorem ok_by (D:Df K mg "deeds_by_sign" s_deeds_by_sign ["machine","sign"] f fd):FnOk P w K mg base CX0 1 f fd ["machine","sign"] (spBy bs qs):=by
  refine D.F.ok scBy (fun vs H Q E h=>?_) (fun cdv A outer s H vs Q E hr h=>?_)
  · obtain ⟨H0,t,hl,x0,x1,x2,x3,hv,hs,sg,rfl,_⟩:=h
    rfl
  obtain ⟨H0,t,hl,x0,x1,x2,x3,hv,hs,sg,rfl,sm,ht,hh,pr,k1,k2⟩:=h
  have ht:=sm _ _ ht
  have hh:=sm _ _ hh
  refine ⟨_,pss_cons (ps_for PassesOwn.never rfl (pi_list (pe_ix ix_tup (pv 0) pe_int (fun _ _=>rfl))) (pg_name (i:=2) scBy.nd rfl (Or.inl rfl)) (pss_one (ps_if (pt_cmpR op_eq (pe_ix ix_tup (pv 2) pe_int (fun _ _=>rfl)) (pv 1) (nomark _)) (pss_one (ps_ret (pe_ix ix_tup (pv 2) pe_int (fun _ _=>rfl)))) pss_nil)))
    (pss_one (ps_ret (pe_lst pa_nil))),?_⟩
  refine ⟨_,rfl,t,_,_,_,rfl,rfl,SqT.of ht,rfl,hl,rfl,⟨_,SqL.of hh⟩,for_list (K:=K) (a:=hl) (xs:=hv) (fun i σ G=>G=H∧(∃ u,σ=[some (.ref t),some (.str sg),u])∧dsOf hs sg=dsOf (hs.drop i) sg) ⟨rfl,⟨_,rfl⟩,by rw [List.drop_zero]⟩ ?_ ?_ ?_⟩
  · rintro i σ G _ ⟨rfl,_⟩
    exact SqL.of hh
  · rintro i x σ G hi ⟨rfl,⟨u,rfl⟩,e⟩
    obtain ⟨p,hp,t',u',rfl,ht',hl'⟩:=pair_drop pr hi
    have ht':=sm _ _ ht'
    have lt:i < hs.length:=(List.getElem?_eq_some_iff.mp hp).1
    have hx:hs[i]=p:=(List.getElem?_eq_some_iff.mp hp).2
    rw [List.drop_eq_getElem_cons lt,hx] at e
    obtain ⟨pn,pd⟩:=p
    refine ⟨_,rfl,t',_,_,_,rfl,rfl,SqT.of ht',rfl,_,rfl,rfl,_,rfl,?_⟩
    by_cases c:pn=sg
    · subst c
      refine iteE (strT _) (iteT ?_)
      refine ⟨_,rfl,t',_,_,_,rfl,rfl,SqT.of ht',rfl,k1 u' ?_⟩
      rw [e]
      unfold dsOf
      rw [List.lookup_cons_self]
      exact hl'
    · refine iteE (strF c) (iteF ?_)
      refine ⟨rfl,⟨_,rfl⟩,?_⟩
      rw [e]
      unfold dsOf
      rw [List.lookup_cons,beq_eq_false_iff_ne.mpr (fun z=>c z.symm)]
  · rintro σ G ⟨rfl,⟨u,rfl⟩,e⟩
    have ln:=Paired.length pr
    rw [ln,List.drop_length] at e
    exact ⟨Nat.zero_le _,fun l hl'=>k2 l hl' e⟩
end
end My
namespace My
open PySem L2
structure MaIn (bs qs:List Str) (ds:List Int) (hs:List (Str×Ds)) (H:Hp) (m:V):Prop where
  ex:∃ (t bl ql dl hl:Addr) (nm:V) (vb hv:List V),m=.ref t∧H t=some (.tup [nm,.ref bl,.ref ql,.ref dl,.ref hl])∧H bl=some (.lst vb)∧Paired (fun v (x:Str)=>∃ a n,v=.ref a∧H a=some (.tup [.str x,n])) vb bs∧H ql=some (.lst (qs.map V.str))∧H dl=some (.lst (ds.map V.int))∧H hl=some (.lst hv)∧Paired (HsIn bs qs H) hv hs
theorem MaIn.same {bs qs:List Str} {ds:List Int} {hs:List (Str×Ds)} {H H':Hp} (s:Same H H') {m:V} (h:MaIn bs qs ds hs H m):MaIn bs qs ds hs H' m:=by
  obtain ⟨t,bl,ql,dl,hl,nm,vb,hv,e,h1,h2,h3,h4,h5,h6,h7⟩:=h
  exact ⟨t,bl,ql,dl,hl,nm,vb,hv,e,s _ _ h1,s _ _ h2,Paired.mono (fun v x z=>by
    obtain ⟨a,n,e,y⟩:=z
    exact ⟨a,n,e,s _ _ y⟩) h3,s _ _ h4,s _ _ h5,s _ _ h6,Paired.mono (fun _ _ z=>z.same s) h7⟩
def wrB (bs:List Str) (w:Wk):List (Str×Int):=(bs.filter fun x=>decide (x∈w.wr)).map fun x=>(x,getB w.bx x)
def wrQ (qs:List Str) (w:Wk):List (Str×List Int):=(qs.filter fun x=>decide (x∈w.wr)).map fun x=>(x,getQ w.qu x)
def WbIn (G:Hp) (v:V) (p:Str×Int):Prop:=∃ t,v=.ref t∧G t=some (.tup [.str p.1,.int p.2])
def WqIn (G:Hp) (v:V) (p:Str×Addr):Prop:=∃ t,v=.ref t∧G t=some (.tup [.str p.1,.ref p.2])
theorem WbIn.keep {G G':Hp} (k:∀ a xs,G a=some (.tup xs)→G' a=some (.tup xs)) {v:V} {p:Str×Int} (h:WbIn G v p):WbIn G' v p:=by
  obtain ⟨t,e,h1⟩:=h
  exact ⟨t,e,k _ _ h1⟩
theorem WqIn.keep {G G':Hp} (k:∀ a xs,G a=some (.tup xs)→G' a=some (.tup xs)) {v:V} {p:Str×Addr} (h:WqIn G v p):WqIn G' v p:=by
  obtain ⟨t,e,h1⟩:=h
  exact ⟨t,e,k _ _ h1⟩
structure WrIn (bs qs:List Str) (w:Wk) (H G:Hp) (wl:Addr) (ws1 ws2:List V) (qa:List (Str×Addr)):Prop where
  hl:G wl=some (.lst (ws1++ws2))
  b:Paired (WbIn G) ws1 (wrB bs w)
  q:Paired (WqIn G) ws2 qa
  l:QuIn G qa (wrQ qs w)
  nd:(wl :: qa.map (·.2)).Nodup
  fr:∀ a∈wl :: qa.map (·.2),H a=none
theorem filter_take {p:Str→Bool} {xs:List Str} {i:Nat} {x:Str} (h:xs[i]?=some x):(xs.take (i + 1)).filter p=(xs.take i).filter p++if p x=true then [x] else []:=by
  rw [List.take_add_one,h,List.filter_append]
  show _++[x].filter p=_
  by_cases c:p x=true
  · rw [if_pos c,List.filter_cons_of_pos c]
    rfl
  · rw [if_neg c,List.filter_cons_of_neg c]
    rfl
theorem same_but {H G:Hp} {a:Addr} (s:Same H G) (n:H a=none) (o:HO):Same H (upd G a o):=fun b u e=>by
  rw [upd_ne (ne_of_none e n)]
  exact s _ _ e
theorem none_of {H G:Hp} (s:Same H G) {a:Addr} (n:G a=none):H a=none:=by
  cases z:H a with
  | none=>rfl
  | some o =>
    rw [s _ _ z] at n
    cases n
section
variable {P:Program} {w:World} {K:PySem.W.Frag} {mg:Str→Option Value} {base:Heap} {f CD CS CM:Addr} {fd:FuncData} {bs qs:List Str}
def spWr (CD CS:Addr) (bs qs:List Str):Sp:=fun vs H Q _=>∃ (H0:Hp) (L:Lay) (h:Ev) (ds:List Int) (w:Wk) (hs:List (Str×Ds)),vs=[.ref L.d]∧Dg CD CS bs qs H0 H L h ds w∧MaIn bs qs ds hs H0 L.m ∧
  ∀ (G:Hp) (wl:Addr) (ws1 ws2:List V) (qa:List (Str×Addr)),Same H G→WrIn bs qs w H G wl ws1 ws2 qa→Q (.ref wl) G
theorem scWr:FnScope ["doing","writes","box","name"] ["doing"] (defScope s_writes_of):=⟨rfl,rfl,rfl,by decide +kernel,rfl,by decide +kernel,by decide +kernel⟩
theorem ok_writes (D:Df K mg "writes_of" s_writes_of ["doing"] f fd) (T:DT K mg CD) (TM:MdT K mg CM CS) (B:Bl mg):FnOk P w K mg base CX0 1 f fd ["doing"] (spWr CD CS bs qs):=by
  refine D.F.ok scWr (fun vs H Q E h=>?_) (fun cdv A outer s H vs Q E hr h=>?_)
  · obtain ⟨H0,L,h,ds,w,hs,rfl,_⟩:=h
    rfl
  obtain ⟨H0,L,h,ds,w,hs,rfl,g,⟨t,bl,ql,dl,hl,nm,vb,hv,em,ht,hbl,pb,hql,hdl,hhl,_⟩,k⟩:=h
  have hu:=hu_of hr
  refine ⟨_,pss_cons (ps_set (i:=1) scWr.nd rfl (Or.inl rfl) (pe_lst pa_nil))
    (pss_cons (ps_for PassesOwn.never rfl (pi_list (pe_ix ix_tup (pe_fld (pv 0) rfl) pe_int (fun _ _=>rfl))) (pg_name (i:=2) scWr.nd rfl (Or.inl rfl)) (pss_one (ps_if (pt_cmp (pc_din hu (pe_ix ix_tup (pv 2) pe_int (fun _ _=>rfl)) (pe_fld (pv 0) rfl)))
      (pss_one (ps_expr (pe_bm PySem.F.plainAttrs_list PySem.F.slot_list_append PySem.F.type_list_append mt_append (pv 1) (pa_cons (pe_tup (pa_cons (pe_ix ix_tup (pv 2) pe_int (fun _ _=>rfl)) (pa_cons (pe_dget hu (pe_fld (pe_fld (pv 0) rfl) rfl) (pe_ix ix_tup (pv 2) pe_int (fun _ _=>rfl)) (fun _ _=>rfl)) pa_nil))) pa_nil)))) pss_nil)))
    (pss_cons (ps_for PassesOwn.never rfl (pi_list (pe_ix ix_tup (pe_fld (pv 0) rfl) pe_int (fun _ _=>rfl))) (pg_name (i:=3) scWr.nd rfl (Or.inl rfl)) (pss_one (ps_if (pt_cmp (pc_din hu (pv 3) (pe_fld (pv 0) rfl)))
      (pss_one (ps_expr (pe_bm PySem.F.plainAttrs_list PySem.F.slot_list_append PySem.F.type_list_append mt_append (pv 1) (pa_cons (pe_tup (pa_cons (pv 3) (pa_cons (pe_callTy call_list_of (by rfl) B.list boot_list (pa_cons (pe_dget hu (pe_fld (pe_fld (pv 0) rfl) rfl) (pv 3) (fun _ _=>rfl)) pa_nil)) pa_nil))) pa_nil)))) pss_nil)))
    (pss_one (ps_ret (pv 1))))),?_⟩
  have big:=line1000
  have fw:=g.ok.fw
  rw [List.length_append] at fw
  refine ⟨Nat.zero_le _,fun wl hwl=>?_⟩
  have s0:=same_new hwl (.lst [])
  have inW:∀ {G:Hp} (g:Dg CD CS bs qs H0 G L h ds w) (x:Str),DGet G L.wd (.str x) (if x∈w.wr then some (.bl true) else none):=fun {G} g x=>by
    have z:=DGet.k (k:=Sum.inr x) g.hw
    rw [wrK_val] at z
    exact z
  refine ⟨_,rfl,L.d,CD,L.dx,_,_,rfl,s0 _ _ g.hd,T.cl,T.nM,dF_m _ _ _ _ _ _ _ _,t,_,_,_,em,rfl,SqT.of (s0 _ _ (g.sm _ _ ht)),rfl,bl,rfl,⟨_,SqL.of (s0 _ _ (g.sm _ _ hbl))⟩,?_⟩
  refine for_list (K:=K) (a:=bl) (xs:=vb) (fun i σ G=>∃ (u:Option V) (ws:List V),σ=[some (.ref L.d),some (.ref wl),u,none]∧Same H G∧G wl=some (.lst ws)∧Paired (WbIn G) ws (((bs.take i).filter fun x=>decide (x∈w.wr)).map fun x=>(x,getB w.bx x))) ⟨none,[],rfl,s0,upd_same,by rw [List.take_zero]; exact .nil⟩ ?_ ?_ ?_
  · rintro i σ G _ ⟨_,_,rfl,sm,_⟩
    exact SqL.of (sm _ _ (g.sm _ _ hbl))
  · rintro i x σ G hi ⟨u,ws,rfl,sm,gw,pw⟩
    have g1:=g.same sm
    obtain ⟨y,hy,a,n,rfl,ha⟩:=pair_drop pb hi
    have ha:=g1.sm _ _ ha
    have my:y∈bs:=List.mem_of_getElem? hy
    have ft:=filter_take (p:=fun x=>decide (x∈w.wr)) hy
    refine ⟨_,rfl,a,_,_,_,rfl,rfl,SqT.of ha,rfl,_,rfl,L.d,CD,L.dx,_,_,rfl,g1.hd,T.cl,T.nW,dF_w _ _ _ _ _ _ _ _,L.wd,_,rfl,inW g1 y,_,rfl,?_⟩
    by_cases c:y∈w.wr
    · rw [if_pos c]
      rw [if_pos (decide_eq_true c)] at ft
      refine iteT ?_
      refine ⟨_,rfl,.inl ⟨rfl,_,SqL.of gw⟩,_,rfl,a,_,_,_,rfl,rfl,SqT.of ha,rfl,_,rfl,L.d,CD,L.dx,_,_,rfl,g1.hd,T.cl,T.nS,dF_s _ _ _ _ _ _ _ _,L.st,CS,L.dxs,_,_,rfl,g1.hst,TM.clS,TM.nB,st_b _ _ _ _,_,rfl,a,_,_,_,rfl,rfl,SqT.of ha,rfl,L.bd,_,rfl,(by have z:=DGet.k (k:=Sum.inr y) g1.hb; rw [box_at (by rw [g1.ok.kb]; exact my)] at z; exact z),lt2,fun tt htt=>?_⟩
      have st_:=same_new htt (.tup [.str y,.int (getB w.bx y)])
      have lw:=Paired.length pw
      have lf:(((bs.take i).filter fun x=>decide (x∈w.wr)).map fun x=>(x,getB w.bx x)).length≤bs.length:=by
        rw [List.length_map]
        refine Nat.le_trans (List.length_filter_le _ _) ?_
        rw [List.length_take]
        omega
      refine ⟨wl,ws,_,rfl,rfl,st_ _ _ gw,(by omega),_,_,rfl,same_but (sm.trans st_) hwl _,upd_same,?_⟩
      rw [ft,List.map_append]
      have kp:∀ b xs,upd G tt (.tup [.str y,.int (getB w.bx y)]) b=some (.tup xs)→upd (upd G tt (.tup [.str y,.int (getB w.bx y)])) wl (.lst (ws++[.ref tt])) b=some (.tup xs):=fun b xs z=>hv_ne z (ne_of z (st_ _ _ gw) (by intro q; cases q))
      exact Paired.snoc (Paired.mono (fun _ _ z=>(z.keep fun b xs e=>st_ _ _ e).keep kp) pw) ⟨tt,rfl,kp _ _ upd_same⟩
    · rw [if_neg c]
      rw [if_neg (by rw [decide_eq_false c]; decide),List.append_nil] at ft
      refine iteF ⟨_,ws,rfl,sm,gw,?_⟩
      rw [ft]
      exact pw
  rintro σ G ⟨u,ws1,rfl,sm,gw,pw⟩
  have g1:=g.same sm
  have ev1:vb.length=bs.length:=Paired.length pb
  rw [ev1,List.take_length] at pw
  refine ⟨_,rfl,L.d,CD,L.dx,_,_,rfl,g1.hd,T.cl,T.nM,dF_m _ _ _ _ _ _ _ _,t,_,_,_,em,rfl,SqT.of (g1.sm _ _ ht),rfl,ql,rfl,⟨_,SqL.of (g1.sm _ _ hql)⟩,?_⟩
  refine for_list (K:=K) (a:=ql) (xs:=qs.map V.str) (fun i σ G=>∃ (u v:Option V) (ws2:List V) (qa:List (Str×Addr)),σ=[some (.ref L.d),some (.ref wl),u,v]∧Same H G∧G wl=some (.lst (ws1++ws2))∧Paired (WbIn G) ws1 (wrB bs w)∧Paired (WqIn G) ws2 qa ∧
    QuIn G qa (((qs.take i).filter fun x=>decide (x∈w.wr)).map fun x=>(x,getQ w.qu x))∧(wl :: qa.map (·.2)).Nodup∧∀ a∈wl :: qa.map (·.2),H a=none) ⟨_,_,[],[],rfl,sm,by rw [List.append_nil]; exact gw,pw,.nil,by rw [List.take_zero]; exact .nil,by simp,fun a ha=>by rw [List.mem_singleton.mp ha]; exact hwl⟩ ?_ ?_ ?_
  · rintro i σ G _ ⟨_,_,_,_,rfl,sm,_⟩
    exact SqL.of (sm _ _ (g.sm _ _ hql))
  · rintro i x σ G hi ⟨u,v,ws2,qa,rfl,sm,gw,pw,pq,pl,nd,fr⟩
    have g1:=g.same sm
    obtain ⟨y,hy,rfl⟩:∃ y,qs[i]?=some y∧x=.str y:=by
      rw [List.getElem?_map] at hi
      cases z:qs[i]? with
      | none =>
        rw [z] at hi
        cases hi
      | some y =>
        rw [z] at hi
        cases hi
        exact ⟨y,rfl,rfl⟩
    have my:y∈qs:=List.mem_of_getElem? hy
    have ft:=filter_take (p:=fun x=>decide (x∈w.wr)) hy
    refine ⟨_,rfl,_,rfl,L.d,CD,L.dx,_,_,rfl,g1.hd,T.cl,T.nW,dF_w _ _ _ _ _ _ _ _,L.wd,_,rfl,inW g1 y,_,rfl,?_⟩
    by_cases c:y∈w.wr
    · rw [if_pos c]
      rw [if_pos (decide_eq_true c)] at ft
      refine iteT ?_
      obtain ⟨l,h1,h2,h3⟩:=g1.getL my
      refine ⟨_,rfl,.inl ⟨rfl,_,SqL.of gw⟩,_,rfl,_,rfl,L.d,CD,L.dx,_,_,rfl,g1.hd,T.cl,T.nS,dF_s _ _ _ _ _ _ _ _,L.st,CS,L.dxs,_,_,rfl,g1.hst,TM.clS,TM.nQ,st_q _ _ _ _,_,rfl,L.qd,_,rfl,h3,l,_,rfl,.inl (SqL.of h2),fun nl hnl=>?_⟩
      have sn:=same_new hnl (.lst ((getQ w.qu y).map V.int))
      refine ⟨lt2,fun tt htt=>?_⟩
      have st_:=same_new htt (.tup [.str y,.ref nl])
      have lw:=Paired.length pq
      have lb:=Paired.length pw
      have lq:=Paired.length pl
      have lf:(((qs.take i).filter fun x=>decide (x∈w.wr)).map fun x=>(x,getQ w.qu x)).length≤qs.length:=by
        rw [List.length_map]
        refine Nat.le_trans (List.length_filter_le _ _) ?_
        rw [List.length_take]
        omega
      have lf2:(wrB bs w).length≤bs.length:=by
        unfold wrB
        rw [List.length_map]
        exact List.length_filter_le _ _
      have gw':=st_ _ _ (sn _ _ gw)
      have nlw:nl≠wl:=(ne_of_none gw hnl).symm
      have kp:∀ b xs,upd (upd G nl (.lst ((getQ w.qu y).map V.int))) tt (.tup [.str y,.ref nl]) b=some (.tup xs)→upd (upd (upd G nl (.lst ((getQ w.qu y).map V.int))) tt (.tup [.str y,.ref nl])) wl (.lst (ws1++ws2++[.ref tt])) b=some (.tup xs):=fun b xs z=>hv_ne z (ne_of z gw' (by intro q; cases q))
      refine ⟨wl,_,_,rfl,rfl,gw',(by rw [List.length_append]; omega),_,_,ws2++[.ref tt],qa++[(y,nl)],rfl,same_but ((sm.trans sn).trans st_) hwl _,(by rw [← List.append_assoc]; exact upd_same),?_,?_,?_,?_,?_⟩
      · exact Paired.mono (fun _ _ z=>(z.keep fun b xs e=>st_ _ _ (sn _ _ e)).keep kp) pw
      · exact Paired.snoc (Paired.mono (fun _ _ z=>(z.keep fun b xs e=>st_ _ _ (sn _ _ e)).keep kp) pq) ⟨tt,rfl,kp _ _ upd_same⟩
      · rw [ft,List.map_append]
        refine Paired.snoc (QuIn.keep (L:=⟨0,0,0,0,0,0,0,0,0,0,.non,.non,qa⟩) (fun a u e m=>hv_ne (st_ _ _ (sn _ _ e)) fun z=>?_) (fun _ h=>h) pl) ⟨rfl,hv_ne (st_ _ _ upd_same) nlw⟩
        rw [z] at m
        exact (List.nodup_cons.mp nd).1 m
      · rw [List.map_append,← List.cons_append]
        refine List.nodup_append.mpr ⟨nd,by simp,fun a ha b hb=>?_⟩
        rw [List.mem_singleton.mp hb]
        intro z
        rcases List.mem_cons.mp ha with q | q
        · exact nlw ((show a=nl from z).symm.trans q)
        · obtain ⟨xs,q⟩:=pl.there q
          rw [show a=nl from z,hnl] at q
          cases q
      · intro a ha
        rw [List.map_append,← List.cons_append] at ha
        rcases List.mem_append.mp ha with z | z
        · exact fr a z
        · rw [List.mem_singleton.mp z]
          exact none_of sm hnl
    · rw [if_neg c]
      rw [if_neg (by rw [decide_eq_false c]; decide),List.append_nil] at ft
      refine iteF ⟨_,_,ws2,qa,rfl,sm,gw,pw,pq,?_,nd,fr⟩
      rw [ft]
      exact pl
  rintro σ G ⟨u,v,ws2,qa,rfl,sm,gw,pw,pq,pl,nd,fr⟩
  rw [List.length_map,List.take_length] at pl
  exact ⟨_,rfl,k G wl ws1 ws2 qa sm ⟨gw,pw,pq,pl,nd,fr⟩⟩
end
end My
namespace My
open PySem L2
structure DnOk (CD CS:Addr) (bs qs:List Str) (H G:Hp) (L:Lay) (h:Ev) (ds:List Int) (w:Wk) (t rc wl:Addr) (ws1 ws2:List V) (qa:List (Str×Addr)):Prop where
  dg:∃ H0,Same H H0∧Dg CD CS bs qs H0 G L h ds w
  ht:G t=some (.tup [.ref L.st,.ref rc,.bl w.en])
  hrc:∃ k,G rc=some (.tup [.ref k,.int h.to,.str h.sg,.int h.a,.int h.b,.ref wl,.ref L.od])∧H k=some (.tup [.int h.t,.int h.r,.int h.fr,.int h.c])
  wr:WrIn bs qs w H G wl ws1 ws2 qa
  nd:(L.all++wl :: qa.map (·.2)).Nodup
theorem DnOk.sm {CD CS:Addr} {bs qs:List Str} {H G:Hp} {L:Lay} {h:Ev} {ds:List Int} {w:Wk} {t rc wl:Addr} {ws1 ws2:List V} {qa:List (Str×Addr)} (n:DnOk CD CS bs qs H G L h ds w t rc wl ws1 ws2 qa):Same H G:=by
  obtain ⟨H0,s,g⟩:=n.dg
  exact s.trans g.sm
def w0 (bx:List (Str×Int)) (qu:List (Str×List Int)) (dr:Nat) (se:Int):Wk:=⟨bx,qu,dr,se,[],[],false,[],[]⟩
section
variable {P:Program} {w:World} {K:PySem.W.Frag} {mg:Str→Option Value} {base:Heap} {f fI fS fB fW fO CD CS CM:Addr} {fd fdI fdS fdB fdW fdO:FuncData} {bs qs:List Str} {cf:Flt→Addr}
def spDone (cf:Flt→Addr) (CM CD CS:Addr) (bs qs:List Str) (n:Nat):Sp:=fun vs H Q E=>∃ (m dxm ml st:Addr) (fs:List (Str×V)) (ms:List V) (hv mv:V) (h:Ev) (ds:List Int) (hs:List (Str×Ds)) (bx:List (Str×Int)) (qu:List (Str×List Int)) (dr:Nat) (se:Int),vs=[.ref m,.ref st,hv]∧H m=some (.ins CM dxm fs)∧fs.lookup ("machines":Str)=some (.ref ml)∧H ml=some (.lst ms) ∧
  EvIn H hv h∧atI ms h.to=some mv∧MaIn bs qs ds hs H mv∧StIn CS H st bx qu dr se∧WkOk bs qs (w0 bx qu dr se)∧Wo h.t∧Wo h.a∧Wo h.b∧(dsOf hs h.sg).deep < n∧(dsOf hs h.sg).size < 100000 ∧
  match doS h ds (dsOf hs h.sg) (w0 bx qu dr se) with
  | .ok w'=>∀ (G:Hp) (L:Lay) (t rc wl:Addr) (ws1 ws2:List V) (qa:List (Str×Addr)),DnOk CD CS bs qs H G L h ds w' t rc wl ws1 ws2 qa→Q (.ref t) G
  | .error e=>∀ G,Same H G→E (.ref (cf e)) none G
theorem by_go {CD CS:Addr} {bs qs:List Str} {H G:Hp} {L:Lay} {h:Ev} {ds:List Int} {w:Wk} {tm hl:Addr} {x0 x1 x2 x3:V} {hvs:List V} {hs:List (Str×Ds)} {sg:Str} {Q1:VK} {E:XK} (g:Dg CD CS bs qs H G L h ds w) (htm:H tm=some (.tup [x0,x1,x2,x3,.ref hl])) (hhl:H hl=some (.lst hvs)) (ph:Paired (HsIn bs qs H) hvs hs)
    (k:∀ (H0 G1:Hp) (u:V),Same H H0→Same G G1→Dg CD CS bs qs H0 G1 L h ds w→LstIn H0 (DsIn bs qs H0 (dsOf hs sg)) u→Q1 u G1):spBy bs qs [.ref tm,.str sg] G Q1 E:=by
  refine ⟨H,tm,hl,_,_,_,_,hvs,hs,sg,rfl,g.sm,htm,hhl,ph,fun u hu=>k H G u (Same.refl _) (Same.refl _) g hu,fun l hl' e=>?_⟩
  have sl:=same_new hl' (.lst [])
  have nl:=none_of g.sm hl'
  have s0:=same_new nl (.lst [])
  have s1:Same (upd H l (.lst [])) (upd G l (.lst [])):=fun b o z=>by
    by_cases c:b=l
    · rw [c] at z ⊢
      rw [upd_same] at z ⊢
      exact z
    · rw [upd_ne c] at z ⊢
      exact g.sm _ _ z
  refine k _ _ _ s0 sl (g.base sl s0 s1 fun a ha=>?_) ⟨l,[],rfl,upd_same,by show 0 < 1000; decide,?_⟩
  · obtain ⟨o,z⟩:=g.there a ha
    rw [upd_ne (ne_of_none z hl')]
    exact g.fr a ha
  · rw [e]
    simp only [DsIn]
def spDof (cf:Flt→Addr) (CM CD CS:Addr) (bs qs:List Str) (n:Nat):Sp:=fun vs H Q E=>∃ (m dxm ml st:Addr) (fs:List (Str×V)) (ms:List V) (hv mv:V) (h:Ev) (ds:List Int) (hs:List (Str×Ds)) (bx:List (Str×Int)) (qu:List (Str×List Int)) (dr:Nat) (se:Int),vs=[.ref m,.ref st,hv]∧H m=some (.ins CM dxm fs)∧fs.lookup ("machines":Str)=some (.ref ml)∧H ml=some (.lst ms) ∧
  EvIn H hv h∧atI ms h.to=some mv∧MaIn bs qs ds hs H mv∧StIn CS H st bx qu dr se∧WkOk bs qs (w0 bx qu dr se)∧Wo h.t∧Wo h.a∧Wo h.b∧(dsOf hs h.sg).deep < n∧(dsOf hs h.sg).size < 100000 ∧
  match doS h ds (dsOf hs h.sg) (w0 bx qu dr se) with
  | .ok w'=>∀ (H0 G:Hp) (L:Lay),Same H H0→Dg CD CS bs qs H0 G L h ds w'→L.m=mv→Q (.ref L.d) G
  | .error e=>∀ G,Same H G→E (.ref (cf e)) none G
theorem scDf:FnScope ["model","state","happening","machine","doing"] ["model","state","happening"] (defScope s_doing_of):=⟨rfl,rfl,rfl,by decide +kernel,rfl,by decide +kernel,by decide +kernel⟩
theorem ok_dof {n:Nat} (D:Df K mg "doing_of" s_doing_of ["model","state","happening"] f fd) (MD:Mk K CD fI) (bI:Binds K fdI ["self","machine","state","happening"] []) (GI:FnOk P w K mg base CX0 4 fI fdI ["self","machine","state","happening"] (spDI CD CS bs qs))
    (DS:Df K mg "do_deeds" s_do_deeds ["doing","deeds"] fS fdS) (GS:FnOk P w K mg base (CXo P w) (20 + 3 * n) fS fdS ["doing","deeds"] (spDds cf CD CS bs qs n)) (DB:Df K mg "deeds_by_sign" s_deeds_by_sign ["machine","sign"] fB fdB) (T:DT K mg CD) (TM:MdT K mg CM CS) :
    FnOk P w K mg base (CXo P w) (20 + 3 * n + 1) f fd ["model","state","happening"] (spDof cf CM CD CS bs qs n):=by
  have GB:FnOk P w K mg base CX0 1 fB fdB ["machine","sign"] (spBy bs qs):=ok_by DB
  refine D.F.okX scDf (fun vs H Q E h=>?_) (fun cdv A outer s H vs Q E hr h=>?_)
  · obtain ⟨m,dxm,ml,st,fs,ms,hv,mv,h,ds,hs,bx,qu,dr,se,rfl,_⟩:=h
    rfl
  obtain ⟨m,dxm,ml,st,fs,ms,hv,mv,h,ds,hs,bx,qu,dr,se,rfl,hm,hfs,hml,hE,hmv,hM,hS,ok,wt,wa,wb,dn,sz,p⟩:=h
  have r1:Room 1 _:=hr.mono (by omega)
  have r5:Room 5 _:=hr.mono (by omega)
  refine ⟨_,pss_cons (ps_set (i:=3) scDf.nd rfl (Or.inl rfl) (pe_ix ix_list (pe_fld (pv 0) rfl) (pe_ix ix_tup (pv 2) pe_int (fun _ _=>rfl)) (fun _ _=>rfl)))
    (pss_cons (ps_set (i:=4) scDf.nd rfl (Or.inl rfl) (pe_make MD GI r5 (by rfl) T.mD bI .nil pass0 (pa_cons (pv 3) (pa_cons (pv 1) (pa_cons (pv 2) pa_nil)))))
    (pss_cons (ps_expr (pe_call GS hr (by rfl) DS.m DS.F.kp DS.b .nil (body_cx.passes fun _ _ _ z=>z) (pa_cons (pv 4) (pa_cons (pe_call GB r1 (by rfl) DB.m DB.F.kp DB.b .nil pass0 (pa_cons (pv 3) (pa_cons (pe_ix ix_tup (pv 2) pe_int (fun _ _=>rfl)) pa_nil))) pa_nil))))
    (pss_one (ps_ret (pv 4))))),?_⟩
  obtain ⟨th,kh,rfl,hth,hkh⟩:=id hE
  obtain ⟨tm,bl,ql,dl,hl,nm,vb,hvs,rfl,htm,hbl,pb,hql,hdl,hhl,ph⟩:=hM.ex
  refine ⟨_,rfl,m,CM,dxm,_,_,rfl,hm,TM.clM,TM.nM,hfs,_,rfl,th,_,_,_,rfl,rfl,SqT.of hth,rfl,ml,_,_,_,rfl,rfl,SqL.of hml,hmv,?_⟩
  refine ⟨_,rfl,_,rfl,_,rfl,?_⟩
  intro d dx nd_ ndx nne
  have sA:Same H (upd (upd H dx (.own d)) d (.ins CD dx [])):=fun b o e=>by
    rw [upd_ne (ne_of_none e nd_),upd_ne (ne_of_none e ndx)]
    exact e
  refine ⟨H,d,dx,st,.ref tm,.ref th,h,ds,bx,qu,dr,se,rfl,upd_same,nd_,sA,hS,hE,⟨tm,_,_,_,_,dl,rfl,htm,hdl⟩,ok,wt,wa,wb,fun G L eL em g=>⟨rfl,?_⟩⟩
  have gth:=g.sm _ _ hth
  refine ⟨_,rfl,_,rfl,_,rfl,th,_,_,_,rfl,rfl,SqT.of gth,rfl,?_⟩
  subst eL
  refine by_go (E:=E0) g htm hhl ph fun H0 G1 u s0 s1 g1 hu=>?_
  refine ⟨H0,L,h,ds,w0 bx qu dr se,u,dsOf hs h.sg,rfl,g1,hu,dn,(by show 0 + _ < _; omega),?_⟩
  have mid:∀ {dg:Wk→Hp→Prop} {r:Except Flt Wk} {Q1:VK} {k:Nat},r=doS h ds (dsOf hs h.sg) (w0 bx qu dr se)→(∀ w' G2,r=.ok w'→dg w' G2→Q1 .non G2)→Post cf dg H0 k r Q1 E:=fun {dg r Q1 k} e q=>by
    cases r with
    | ok w'=>exact fun G2 g2 _=>q w' G2 rfl g2
    | error er =>
      rw [← e] at p
      exact fun G2 s2=>p G2 (s0.trans s2)
  refine mid rfl fun w' G2 ew g2=>?_
  rw [ew] at p
  exact ⟨_,rfl,p H0 G2 L s0 g2 em⟩
theorem scDo:FnScope ["model","state","happening","doing","record"] ["model","state","happening"] (defScope s_done):=⟨rfl,rfl,rfl,by decide +kernel,rfl,by decide +kernel,by decide +kernel⟩
theorem ok_done {n:Nat} (D:Df K mg "done" s_done ["model","state","happening"] f fd) (DO:Df K mg "doing_of" s_doing_of ["model","state","happening"] fO fdO) (MD:Mk K CD fI) (bI:Binds K fdI ["self","machine","state","happening"] []) (GI:FnOk P w K mg base CX0 4 fI fdI ["self","machine","state","happening"] (spDI CD CS bs qs))
    (DS:Df K mg "do_deeds" s_do_deeds ["doing","deeds"] fS fdS) (GS:FnOk P w K mg base (CXo P w) (20 + 3 * n) fS fdS ["doing","deeds"] (spDds cf CD CS bs qs n)) (DB:Df K mg "deeds_by_sign" s_deeds_by_sign ["machine","sign"] fB fdB) (DW:Df K mg "writes_of" s_writes_of ["doing"] fW fdW) (T:DT K mg CD) (TM:MdT K mg CM CS) (B:Bl mg) :
    FnOk P w K mg base (CXo P w) (20 + 3 * n + 2) f fd ["model","state","happening"] (spDone cf CM CD CS bs qs n):=by
  have GO:FnOk P w K mg base (CXo P w) (20 + 3 * n + 1) fO fdO ["model","state","happening"] (spDof cf CM CD CS bs qs n):=ok_dof DO MD bI GI DS GS DB T TM
  have GW:FnOk P w K mg base CX0 1 fW fdW ["doing"] (spWr CD CS bs qs):=ok_writes DW T TM B
  refine D.F.okX scDo (fun vs H Q E h=>?_) (fun cdv A outer s H vs Q E hr h=>?_)
  · obtain ⟨m,dxm,ml,st,fs,ms,hv,mv,h,ds,hs,bx,qu,dr,se,rfl,_⟩:=h
    rfl
  obtain ⟨m,dxm,ml,st,fs,ms,hv,mv,h,ds,hs,bx,qu,dr,se,rfl,hm,hfs,hml,hE,hmv,hM,hS,ok,wt,wa,wb,dn,sz,p⟩:=h
  have r1:Room 1 _:=hr.mono (by omega)
  refine ⟨_,pss_cons (ps_set (i:=3) scDo.nd rfl (Or.inl rfl) (pe_call GO hr (by rfl) DO.m DO.F.kp DO.b .nil (body_cx.passes fun _ _ _ z=>z) (pa_cons (pv 0) (pa_cons (pv 1) (pa_cons (pv 2) pa_nil)))))
    (pss_cons (ps_set (i:=4) scDo.nd rfl (Or.inl rfl) (pe_op op_catT (pv 2) (pe_tup (pa_cons (pe_call GW r1 (by rfl) DW.m DW.F.kp DW.b .nil pass0 (pa_cons (pv 3) pa_nil)) (pa_cons (pe_fld (pv 3) rfl) pa_nil)))))
    (pss_one (ps_ret (pe_tup (pa_cons (pe_fld (pv 3) rfl) (pa_cons (pv 4) (pa_cons (pe_fld (pv 3) rfl) pa_nil))))))),?_⟩
  obtain ⟨th,kh,rfl,hth,hkh⟩:=id hE
  refine ⟨_,rfl,_,rfl,_,rfl,m,dxm,ml,st,fs,ms,_,mv,h,ds,hs,bx,qu,dr,se,rfl,hm,hfs,hml,hE,hmv,hM,hS,ok,wt,wa,wb,dn,sz,?_⟩
  cases ew:doS h ds (dsOf hs h.sg) (w0 bx qu dr se) with
  | error e =>
    rw [ew] at p
    exact p
  | ok w' =>
  rw [ew] at p
  intro H0 G2 L s0 g2 em
  have hth2:=g2.sm _ _ (s0 _ _ hth)
  have gM:MaIn bs qs ds hs H0 L.m:=by
    rw [em]
    exact hM.same s0
  refine ⟨_,rfl,_,rfl,H0,L,h,ds,w',hs,rfl,g2,gM,fun G3 wl ws1 ws2 qa s3 wr=>?_⟩
  have g3:=g2.same s3
  refine ⟨_,rfl,L.d,CD,L.dx,_,_,rfl,g3.hd,T.cl,T.nO,dF_o _ _ _ _ _ _ _ _,lt2,fun tt htt=>?_⟩
  have s4:=same_new htt (.tup [.ref wl,.ref L.od])
  refine ⟨th,tt,_,_,rfl,rfl,SqT.of (s4 _ _ (s3 _ _ hth2)),SqT.of upd_same,(by intro z; cases z),(by show 7≤sizeLine; decide),(fun z=>by cases z),fun _ rc hrc=>?_⟩
  have s5:=same_new hrc (.tup [.ref kh,.int h.to,.str h.sg,.int h.a,.int h.b,.ref wl,.ref L.od])
  have g5:=(g3.same s4).same s5
  refine ⟨_,rfl,L.d,CD,L.dx,_,_,rfl,g5.hd,T.cl,T.nS,dF_s _ _ _ _ _ _ _ _,_,rfl,_,rfl,L.d,CD,L.dx,_,_,rfl,g5.hd,T.cl,T.nE,dF_e _ _ _ _ _ _ _ _,(by show 3≤sizeLine; decide),fun t ht=>?_⟩
  have s6:=same_new ht (.tup [.ref L.st,.ref rc,.bl w'.en])
  have s46:=(s4.trans s5).trans s6
  refine p _ L t rc wl ws1 ws2 qa ⟨⟨H0,s0,g5.same s6⟩,upd_same,⟨kh,s6 _ _ upd_same,hkh⟩,⟨s46 _ _ wr.hl,Paired.mono (fun _ _ z=>z.keep fun b xs e=>s46 _ _ e) wr.b,Paired.mono (fun _ _ z=>z.keep fun b xs e=>s46 _ _ e) wr.q,wr.l.same s46,wr.nd,fun a ha=>none_of (s0.trans g2.sm) (wr.fr a ha)⟩,?_⟩
  refine List.nodup_append.mpr ⟨g2.nd,wr.nd,fun a ha b hb z=>?_⟩
  obtain ⟨o,y⟩:=g2.there a ha
  rw [z,wr.fr b hb] at y
  cases y
end
end My
namespace My
open PySem L2
theorem seq_i {t u:TS} {D:Ends} {σ:St} {H:Hp} (h:t {D with nx:=u D} σ H):tSeq t u D σ H:=h
theorem asg_i {te:TE} {g:TG} {D:Ends} {σ:St} {H:Hp} (h:te σ H fun x H1=>g x σ H1 D.nx):tAsg te g D σ H:=h
theorem gname_i {i:Nat} {v:V} {σ:St} {H:Hp} {Q:St→Hp→Prop} (h:Q (σ.set i (some v)) H):gName i v σ H Q:=h
theorem tup_i {t:TA} {σ:St} {H:Hp} {Q:VK} (h:t σ H fun xs H1=>xs.length≤sizeLine∧∀ p,H1 p=none→Q (.ref p) (upd H1 p (.tup xs))):tTup t σ H Q:=h
end My
namespace My
open PySem L2
section
variable {X:Cx} {e:Expr} {ta:TE} {f:Str} {pos:Pos}
theorem list_ofK (K:PySem.W.Frag) (hK:X.K=K):CallR X (.type "list") (fun xs H Q=>∃ p ys,xs=[.ref p]∧(SqL K H p ys∨SqT K H p ys)∧∀ l,H l=none→Q (.ref l) (upd H l (.lst ys))):=by
  rw [← hK]
  exact call_list_of
end
end My
namespace My
open PySem L2
theorem tree_of {H:Hp} {n:Nat} {t:Addr} {xs:List V} (ht:H t=some (.tup xs)∨H t=some (.lst xs)) (T:Tree H n (.ref t)):∃ m,n=m + 1∧∀ x∈xs,Tree H m x:=by
  cases n with
  | zero=>exact T.elim
  | succ m =>
    refine ⟨m,rfl,?_⟩
    rcases T with T | ⟨p,ys,e,h1,_,h2⟩
    · exact T.elim
    · cases e
      have exy:xs=ys:=by
        rcases ht with ht | ht <;> rcases h1 with h1 | h1 <;> rw [ht] at h1 <;> cases h1 <;> rfl
      rw [exy]
      exact h2
theorem al_tup {H H':Hp} {n:Nat} {t:Addr} {xs:List V} {v':V} (ht:H t=some (.tup xs)) (T:Tree H n (.ref t)) (al:Alike H H' n (.ref t) v'):∃ m t' ys,v'=.ref t'∧H' t'=some (.tup ys)∧Paired (Alike H H' m) xs ys∧∀ x∈xs,Tree H m x:=by
  obtain ⟨m,rfl,h⟩:=tree_of (.inl ht) T
  obtain ⟨t',ys,e,h1,h2⟩:=alike_tup ht al
  exact ⟨m,t',ys,e,h1,h2,h⟩
theorem al_lst {H H':Hp} {n:Nat} {t:Addr} {xs:List V} {v':V} (ht:H t=some (.lst xs)) (T:Tree H n (.ref t)) (al:Alike H H' n (.ref t) v'):∃ m t' ys,v'=.ref t'∧H' t'=some (.lst ys)∧Paired (Alike H H' m) xs ys∧∀ x∈xs,Tree H m x:=by
  obtain ⟨m,rfl,h⟩:=tree_of (.inr ht) T
  obtain ⟨t',ys,e,h1,h2⟩:=alike_lst ht al
  exact ⟨m,t',ys,e,h1,h2,h⟩
theorem p_cons {R:V→V→Prop} {x:V} {xs ys:List V} (r:Paired R (x :: xs) ys):∃ y yr,ys=y :: yr∧R x y∧Paired R xs yr:=by
  cases r with
  | cons a b=>exact ⟨_,_,rfl,a,b⟩
theorem p_nil {R:V→V→Prop} {ys:List V} (r:Paired R [] ys):ys=[]:=by
  cases r
  rfl
theorem FmIn.alike {bs qs:List Str} {H H':Hp} {v:V} {F:Fm} (h:FmIn bs qs H v F):∀ {n:Nat} {v':V},Tree H n v→Alike H H' n v v'→FmIn bs qs H' v' F:=by
  induction h with
  | num h1 h2 =>
    intro n v' T al
    obtain ⟨m,t',ys,rfl,g1,g2,_⟩:=al_tup h1 T al
    rw [alike_scs g2 (by intro x hx; simp only [List.mem_cons,List.not_mem_nil,or_false] at hx; rcases hx with rfl | rfl <;> exact trivial)] at g1
    exact .num g1 h2
  | box h1 h2 =>
    intro n v' T al
    obtain ⟨m,t',ys,rfl,g1,g2,_⟩:=al_tup h1 T al
    rw [alike_scs g2 (by intro x hx; simp only [List.mem_cons,List.not_mem_nil,or_false] at hx; rcases hx with rfl | rfl <;> exact trivial)] at g1
    exact .box g1 h2
  | long h1 h2 =>
    intro n v' T al
    obtain ⟨m,t',ys,rfl,g1,g2,_⟩:=al_tup h1 T al
    rw [alike_scs g2 (by intro x hx; simp only [List.mem_cons,List.not_mem_nil,or_false] at hx; rcases hx with rfl | rfl <;> exact trivial)] at g1
    exact .long g1 h2
  | got h1 =>
    intro n v' T al
    obtain ⟨m,t',ys,rfl,g1,g2,_⟩:=al_tup h1 T al
    rw [alike_scs g2 (by intro x hx; simp only [List.mem_cons,List.not_mem_nil,or_false] at hx; rcases hx with rfl | rfl <;> exact trivial)] at g1
    exact .got g1
  | now h1 =>
    intro n v' T al
    obtain ⟨m,t',ys,rfl,g1,g2,_⟩:=al_tup h1 T al
    rw [alike_scs g2 (by intro x hx; rw [List.mem_singleton.mp hx]; exact trivial)] at g1
    exact .now g1
  | two h1 h2 _ _ i1 i2 =>
    intro n v' T al
    obtain ⟨m,t',ys,rfl,g1,g2,tr⟩:=al_tup h1 T al
    obtain ⟨y0,yr,rfl,a0,g2⟩:=p_cons g2
    obtain ⟨y1,yr,rfl,a1,g2⟩:=p_cons g2
    obtain ⟨y2,yr,rfl,a2,g2⟩:=p_cons g2
    obtain rfl:=p_nil g2
    have e0:=alike_sc (v:=.str _) trivial a0
    rw [e0] at g1
    exact .two g1 h2 (i1 (tr _ (by simp)) a1) (i2 (tr _ (by simp)) a2)
theorem FmI.alike {bs qs:List Str} {H H':Hp} {v v':V} {F:Fm} {n:Nat} (h:FmI bs qs H v F) (T:Tree H n v) (al:Alike H H' n v v'):FmI bs qs H' v' F:=⟨h.1.alike T al,h.2⟩
theorem LstIn.alike {H H':Hp} {R R':List V→Prop} {v v':V} {n:Nat} (h:LstIn H R v) (T:Tree H n v) (al:Alike H H' n v v') (k:∀ m vs ys,R vs→Paired (Alike H H' m) vs ys→(∀ x∈vs,Tree H m x)→R' ys):LstIn H' R' v':=by
  obtain ⟨l,vs,rfl,h1,h2,h3⟩:=h
  obtain ⟨m,t',ys,rfl,g1,g2,tr⟩:=al_lst h1 T al
  exact ⟨t',ys,rfl,g1,by rw [← Paired.length g2]; exact h2,k m vs ys h3 g2 tr⟩
mutual
theorem DdIn.alike {bs qs:List Str} {H H':Hp}:∀ (d:Dd) (v v':V) (n:Nat),DdIn bs qs H d v→Tree H n v→Alike H H' n v v'→DdIn bs qs H' d v'
  | .put x f,v,v',n,h,T,al=>by
    obtain ⟨t,u,rfl,h1,h2,h3⟩:=(by simpa only [DdIn] using h)
    obtain ⟨m,t',ys,rfl,g1,g2,tr⟩:=al_tup h1 T al
    obtain ⟨y0,yr,rfl,a0,g2⟩:=p_cons g2
    obtain ⟨y1,yr,rfl,a1,g2⟩:=p_cons g2
    obtain ⟨y2,yr,rfl,a2,g2⟩:=p_cons g2
    obtain rfl:=p_nil g2
    rw [alike_sc (v:=.str _) trivial a0,alike_sc (v:=.str _) trivial a1] at g1
    simp only [DdIn]
    exact ⟨t',y2,rfl,g1,h2,h3.alike (tr _ (by simp)) a2⟩
  | .push x f,v,v',n,h,T,al=>by
    obtain ⟨t,u,rfl,h1,h2,h3⟩:=(by simpa only [DdIn] using h)
    obtain ⟨m,t',ys,rfl,g1,g2,tr⟩:=al_tup h1 T al
    obtain ⟨y0,yr,rfl,a0,g2⟩:=p_cons g2
    obtain ⟨y1,yr,rfl,a1,g2⟩:=p_cons g2
    obtain ⟨y2,yr,rfl,a2,g2⟩:=p_cons g2
    obtain rfl:=p_nil g2
    rw [alike_sc (v:=.str _) trivial a0,alike_sc (v:=.str _) trivial a1] at g1
    simp only [DdIn]
    exact ⟨t',y2,rfl,g1,h2,h3.alike (tr _ (by simp)) a2⟩
  | .pull q x o,v,v',n,h,T,al=>by
    obtain ⟨t,u,rfl,h1,h2,h3,h4⟩:=(by simpa only [DdIn] using h)
    obtain ⟨m,t',ys,rfl,g1,g2,tr⟩:=al_tup h1 T al
    obtain ⟨y0,yr,rfl,a0,g2⟩:=p_cons g2
    obtain ⟨y1,yr,rfl,a1,g2⟩:=p_cons g2
    obtain ⟨y2,yr,rfl,a2,g2⟩:=p_cons g2
    obtain ⟨y3,yr,rfl,a3,g2⟩:=p_cons g2
    obtain rfl:=p_nil g2
    rw [alike_sc (v:=.str _) trivial a0,alike_sc (v:=.str _) trivial a1,alike_sc (v:=.str _) trivial a2] at g1
    simp only [DdIn]
    exact ⟨t',y3,rfl,g1,h2,h3,h4.alike (tr _ (by simp)) a3 fun m vs ys a b c=>DsIn.alike o vs ys m a b c⟩
  | .draw x f,v,v',n,h,T,al=>by
    obtain ⟨t,u,rfl,h1,h2,h3⟩:=(by simpa only [DdIn] using h)
    obtain ⟨m,t',ys,rfl,g1,g2,tr⟩:=al_tup h1 T al
    obtain ⟨y0,yr,rfl,a0,g2⟩:=p_cons g2
    obtain ⟨y1,yr,rfl,a1,g2⟩:=p_cons g2
    obtain ⟨y2,yr,rfl,a2,g2⟩:=p_cons g2
    obtain rfl:=p_nil g2
    rw [alike_sc (v:=.str _) trivial a0,alike_sc (v:=.str _) trivial a1] at g1
    simp only [DdIn]
    exact ⟨t',y2,rfl,g1,h2,h3.alike (tr _ (by simp)) a2⟩
  | .send to sg sp rk a b,v,v',n,h,T,al=>by
    obtain ⟨t,u,u1,u2,rfl,h1,h2,h3,h4⟩:=(by simpa only [DdIn] using h)
    obtain ⟨m,t',ys,rfl,g1,g2,tr⟩:=al_tup h1 T al
    obtain ⟨y0,yr,rfl,a0,g2⟩:=p_cons g2
    obtain ⟨y1,yr,rfl,a1,g2⟩:=p_cons g2
    obtain ⟨y2,yr,rfl,a2,g2⟩:=p_cons g2
    obtain ⟨y3,yr,rfl,a3,g2⟩:=p_cons g2
    obtain ⟨y4,yr,rfl,a4,g2⟩:=p_cons g2
    obtain ⟨y5,yr,rfl,a5,g2⟩:=p_cons g2
    obtain ⟨y6,yr,rfl,a6,g2⟩:=p_cons g2
    obtain rfl:=p_nil g2
    rw [alike_sc (v:=.str _) trivial a0,alike_sc (v:=.int _) trivial a1,alike_sc (v:=.str _) trivial a2,alike_sc (v:=.int _) trivial a4] at g1
    simp only [DdIn]
    exact ⟨t',y3,y5,y6,rfl,g1,h2.alike (tr _ (by simp)) a3,h3.alike (tr _ (by simp)) a5,h4.alike (tr _ (by simp)) a6⟩
  | .ife f x y,v,v',n,h,T,al=>by
    obtain ⟨t,u,u1,u2,rfl,h1,h2,h3,h4⟩:=(by simpa only [DdIn] using h)
    obtain ⟨m,t',ys,rfl,g1,g2,tr⟩:=al_tup h1 T al
    obtain ⟨y0,yr,rfl,a0,g2⟩:=p_cons g2
    obtain ⟨y1,yr,rfl,a1,g2⟩:=p_cons g2
    obtain ⟨y2,yr,rfl,a2,g2⟩:=p_cons g2
    obtain ⟨y3,yr,rfl,a3,g2⟩:=p_cons g2
    obtain rfl:=p_nil g2
    rw [alike_sc (v:=.str _) trivial a0] at g1
    simp only [DdIn]
    exact ⟨t',y1,y2,y3,rfl,g1,h2.alike (tr _ (by simp)) a1,h3.alike (tr _ (by simp)) a2 fun m vs ys a b c=>DsIn.alike x vs ys m a b c,h4.alike (tr _ (by simp)) a3 fun m vs ys a b c=>DsIn.alike y vs ys m a b c⟩
  | .fin,v,v',n,h,T,al=>by
    obtain ⟨t,rfl,h1⟩:=(by simpa only [DdIn] using h)
    obtain ⟨m,t',ys,rfl,g1,g2,tr⟩:=al_tup h1 T al
    obtain ⟨y0,yr,rfl,a0,g2⟩:=p_cons g2
    obtain rfl:=p_nil g2
    rw [alike_sc (v:=.str _) trivial a0] at g1
    simp only [DdIn]
    exact ⟨t',rfl,g1⟩
theorem DsIn.alike {bs qs:List Str} {H H':Hp}:∀ (d:Ds) (vs ys:List V) (n:Nat),DsIn bs qs H d vs→Paired (Alike H H' n) vs ys→(∀ x∈vs,Tree H n x)→DsIn bs qs H' d ys
  | .nil,vs,ys,n,h,al,T=>by
    have e:vs=[]:=by simpa only [DsIn] using h
    subst e
    obtain rfl:=p_nil al
    simp only [DsIn]
  | .cons d r,vs,ys,n,h,al,T=>by
    obtain ⟨v,vr,rfl,h1,h2⟩:=(by simpa only [DsIn] using h)
    obtain ⟨y,yr,rfl,a,b⟩:=p_cons al
    simp only [DsIn]
    exact ⟨y,yr,rfl,DdIn.alike d v y n h1 (T v List.mem_cons_self) a,DsIn.alike r vr yr n h2 b fun x hx=>T x (List.mem_cons_of_mem _ hx)⟩
end
theorem paired_al {α:Type} {R R':V→α→Prop} {S:V→V→Prop} {T:V→Prop} (f:∀ v a v',R v a→S v v'→T v→R' v' a):∀ {xs ys:List V} {as:List α},Paired R xs as→Paired S xs ys→(∀ x∈xs,T x)→Paired R' ys as
  | _,_,_,.nil,.nil,_=>.nil
  | _,_,_,.cons a b,.cons c d,t=>.cons (f _ _ _ a c (t _ List.mem_cons_self)) (paired_al f b d fun x hx=>t x (List.mem_cons_of_mem _ hx))
theorem MaIn.alike {bs qs:List Str} {ds:List Int} {hs:List (Str×Ds)} {H H':Hp} {v v':V} {n:Nat} (h:MaIn bs qs ds hs H v) (T:Tree H n v) (al:Alike H H' n v v'):MaIn bs qs ds hs H' v':=by
  obtain ⟨t,bl,ql,dl,hl,nm,vb,hv,rfl,h1,h2,h3,h4,h5,h6,h7⟩:=h.ex
  obtain ⟨m,t',ys,rfl,g1,g2,tr⟩:=al_tup h1 T al
  obtain ⟨y0,yr,rfl,a0,g2⟩:=p_cons g2
  obtain ⟨y1,yr,rfl,a1,g2⟩:=p_cons g2
  obtain ⟨y2,yr,rfl,a2,g2⟩:=p_cons g2
  obtain ⟨y3,yr,rfl,a3,g2⟩:=p_cons g2
  obtain ⟨y4,yr,rfl,a4,g2⟩:=p_cons g2
  obtain rfl:=p_nil g2
  obtain ⟨m1,b',zs1,rfl,c1,d1,t1⟩:=al_lst h2 (tr _ (by simp)) a1
  obtain ⟨m2,q',zs2,rfl,c2,d2,t2⟩:=al_lst h4 (tr _ (by simp)) a2
  obtain ⟨m3,e',zs3,rfl,c3,d3,t3⟩:=al_lst h5 (tr _ (by simp)) a3
  obtain ⟨m4,f',zs4,rfl,c4,d4,t4⟩:=al_lst h6 (tr _ (by simp)) a4
  rw [alike_scs d2 (by intro x hx; obtain ⟨z,_,rfl⟩:=List.mem_map.mp hx; exact trivial)] at c2
  rw [alike_scs d3 (by intro x hx; obtain ⟨z,_,rfl⟩:=List.mem_map.mp hx; exact trivial)] at c3
  refine ⟨t',b',q',e',f',y0,zs1,zs4,rfl,g1,c1,paired_al (fun v a v' x y z=>?_) h3 d1 t1,c2,c3,c4,paired_al (fun v a v' x y z=>?_) h7 d4 t4⟩
  · obtain ⟨p,k,rfl,hp⟩:=x
    obtain ⟨m',p',ws,rfl,k1,k2,_⟩:=al_tup hp z y
    obtain ⟨w0,wr,rfl,b0,k2⟩:=p_cons k2
    obtain ⟨w1,wr,rfl,b1,k2⟩:=p_cons k2
    obtain rfl:=p_nil k2
    rw [alike_sc (v:=.str _) trivial b0] at k1
    exact ⟨p',w1,rfl,k1⟩
  · obtain ⟨p,u,rfl,hp,hu⟩:=x
    obtain ⟨m',p',ws,rfl,k1,k2,tr'⟩:=al_tup hp z y
    obtain ⟨w0,wr,rfl,b0,k2⟩:=p_cons k2
    obtain ⟨w1,wr,rfl,b1,k2⟩:=p_cons k2
    obtain rfl:=p_nil k2
    rw [alike_sc (v:=.str _) trivial b0] at k1
    exact ⟨p',w1,rfl,k1,hu.alike (tr' _ (by simp)) b1 fun m vs ys a b c=>DsIn.alike _ vs ys m a b c⟩
end My
namespace My
open PySem L2
def rLenK (K:PySem.W.Frag):List V→Hp→VK→Prop:=fun xs H Q=>∃ p ys,xs=[.ref p]∧(SqL K H p ys∨SqT K H p ys)∧Q (.int ys.length) H
theorem call_lenK {X:Cx} (K:PySem.W.Frag) (hK:X.K=K):CallR X (.builtin "len") (rLenK K):=by
  rw [← hK]
  exact call_len_seq
theorem ix_listK {X:Cx} (K:PySem.W.Frag) (hK:X.K=K):IxR X (rIxL K):=by
  rw [← hK]
  exact ix_list
theorem pg_tupK {X:Cx} {pos:Pos} {es:List Expr} {k:Nat} {t:TGs} {n:Nat} (K:PySem.W.Frag) (hK:X.K=K) (hc:X.calm=true) (h:PGs X es t)
    (hn:(assignEach es X.env).length=n:=by rfl) (hst:(assignEach es X.env).findIdx? (·.1)=none:=by rfl):PG X (.Tuple es k pos) (gTup K n t):=by
  rw [← hK]
  exact pg_tup hc h hn hst
theorem lt1':1≤sizeLine:=by decide
theorem ret_i {te:TE} {D:Ends} {σ:St} {H:Hp} (h:te σ H D.rt):tRet te D σ H:=h
def SgIn (H:Hp) (v:V) (e:Ev):Prop:=∃ t,v=.ref t∧H t=some (.tup [.int e.t,.int e.r,.int e.to,.str e.sg,.int e.a,.int e.b])
def atP (e:Ev) (i:Nat):Ev:={e with fr:=-1,c:=i}
section
variable {P:Program} {w:World} {K:PySem.W.Frag} {mg:Str→Option Value} {base:Heap} {f fP CB:Addr} {fd fdP:FuncData}
def spWord (wd:Str):Sp:=fun vs H Q _=>∃ a,vs=[a]∧Q (.str wd) H
end
end My
namespace My
open PySem L2
section
variable {X:Cx} {es:List Expr} {te:TE} {t:TA}
theorem star_tup {es':List Expr} {k:Nat} {p:Pos} {env:Env}:starEach (.Tuple es' k p :: es) env=(false,eval (.Tuple es' k p) env) :: starEach es env:=by rfl
theorem pa_tup {es':List Expr} {k:Nat} {p:Pos} (ha:PE X (.Tuple es' k p) te) (hr:PA X es t):PA X (.Tuple es' k p :: es) (tCons te t):=pa_cons ha hr (by rfl)
theorem pa_lst {es':List Expr} {p:Pos} (ha:PE X (.List es' p) te) (hr:PA X es t):PA X (.List es' p :: es) (tCons te t):=pa_cons ha hr (by rfl)
theorem pa_c {c:Const} {k:Nat} {p:Pos} (ha:PE X (.Constant c k p) te) (hr:PA X es t):PA X (.Constant c k p :: es) (tCons te t):=pa_cons ha hr (by rfl)
theorem pa_n {x:Str} {p:Pos} (ha:PE X (.Name x p) te) (hr:PA X es t):PA X (.Name x p :: es) (tCons te t):=pa_cons ha hr (by rfl)
theorem pa_f {g:Expr} {as:List Expr} {ks:List Keyword} {p:Pos} (ha:PE X (.Call g as ks p) te) (hr:PA X es t):PA X (.Call g as ks p :: es) (tCons te t):=pa_cons ha hr (by rfl)
theorem pa_s {a b:Expr} {p:Pos} (ha:PE X (.Subscript a b p) te) (hr:PA X es t):PA X (.Subscript a b p :: es) (tCons te t):=pa_cons ha hr (by rfl)
theorem pa_b {a b:Expr} {o:Operator} {p:Pos} (ha:PE X (.BinOp a o b p) te) (hr:PA X es t):PA X (.BinOp a o b p :: es) (tCons te t):=pa_cons ha hr (by rfl)
end
theorem next_i {D:Ends} {σ:St} {H:Hp} (h:D.nx σ H):tNext D σ H:=h
def Det (t:L2.TT) (σ:St) (H:Hp) (b:Bool):Prop:=∀ Q:Bool→Hp→Prop,Q b H→t σ H Q
theorem Det.and {tA tB:L2.TT} {σ:St} {H:Hp} {x y:Bool} (a:Det tA σ H x) (b:x=true→Det tB σ H y):Det (tAnd tA tB) σ H (x && y):=fun Q q=>a _ (by
  cases x with
  | true=>exact iteT (b rfl Q q)
  | false=>exact iteF q)
theorem det_if {t:L2.TT} {a b:TS} {D:Ends} {σ:St} {H:Hp} {c:Bool} (h:Det t σ H c) (k1:c=true→a D σ H) (k2:c=false→b D σ H):tIfS t a b D σ H:=h _ (by
  cases c with
  | true=>exact iteT (k1 rfl)
  | false=>exact iteF (k2 rfl))
theorem det_eq {i:Nat} {w k:Int} {σ:St} {H:Hp} (hv:σ[i]?=some (some (.int w))):Det (tTest (tOp rEq (tVar i) (tC (.int k)))) σ H (decide (w=k)):=fun Q q=>⟨_,hv,rfl,_,rfl,by
  rw [show decide (V.int w=V.int k)=decide (w=k) from by
    by_cases c:w=k
    · subst c
      rw [decide_eq_true rfl,decide_eq_true rfl]
    · rw [decide_eq_false c,decide_eq_false (fun z=>c (by cases z; rfl))]]
  exact q⟩
theorem det_lt {i:Nat} {w k:Int} {σ:St} {H:Hp} (hv:σ[i]?=some (some (.int w))):Det (tTest (tOp (rI0 fun i j=>.bl (decide (i < j))) (tVar i) (tC (.int k)))) σ H (decide (w < k)):=fun Q q=>⟨_,hv,_,_,rfl,rfl,_,rfl,q⟩
theorem det_gt {i:Nat} {w k:Int} {σ:St} {H:Hp} (hv:σ[i]?=some (some (.int w))):Det (tTest (tOp (rI0 fun i j=>.bl (decide (j < i))) (tVar i) (tC (.int k)))) σ H (decide (k < w)):=fun Q q=>⟨_,hv,_,_,rfl,rfl,_,rfl,q⟩
theorem det_len {K:PySem.W.Frag} {i:Nat} {a:Addr} {xs:List V} {k:Int} {σ:St} {H:Hp} (hv:σ[i]?=some (some (.ref a))) (hx:H a=some (.lst xs)):Det (tTest (tOp (rI0 fun i j=>.bl (decide (j < i))) (tCB (rLenK K) (tCons (tVar i) tNil)) (tC (.int k)))) σ H (decide (k < xs.length)):=fun Q q=>⟨_,hv,a,xs,rfl,.inl (SqL.of hx),_,_,rfl,rfl,_,rfl,q⟩
end My
namespace My
open PySem L2
section
variable {P:Program} {w:World} {K:PySem.W.Frag} {mg:Str→Option Value} {base:Heap} {f fA fW CN CG CS CM:Addr} {fd fdA fdW:FuncData}
def spLT:Sp:=fun vs H Q _=>∃ (k:Str) (a b:Int),vs=[.str k,.int a,.int b]∧k∈seven∧Wo a∧Wo b∧∀ H':Hp,Same H H'→Q (resV (twoOf k a b)) H'
theorem scLT:FnScope ["_law_word","_law_one","_law_other","_law_whole_here"] ["_law_word","_law_one","_law_other"] (defScope s_law_two):=⟨rfl,rfl,rfl,by decide +kernel,rfl,by decide +kernel,by decide +kernel⟩
theorem ok_LT (D:Df K mg "_law_two" s_law_two ["_law_word","_law_one","_law_other"] f fd) (B:Bl mg):FnOk P w K mg base CX0 1 f fd ["_law_word","_law_one","_law_other"] spLT:=by
  refine D.F.ok scLT (fun vs H Q E h=>?_) (fun cdv A outer s H vs Q E hr h=>?_)
  · obtain ⟨k,a,b,rfl,_⟩:=h
    rfl
  obtain ⟨k,a,b,rfl,hk,ha,hb,h⟩:=h
  refine ⟨_,pss_cons (ps_if (pt_cmpR op_eq (pv 0) pe_str (nomark _)) (pss_one (ps_ret (pe_op op_add (pv 1) (pv 2)))) pss_nil)
    (pss_cons (ps_if (pt_cmpR op_eq (pv 0) pe_str (nomark _)) (pss_one (ps_ret (pe_op op_sub (pv 1) (pv 2)))) pss_nil)
    (pss_cons (ps_if (pt_cmpR op_eq (pv 0) pe_str (nomark _)) (pss_one (ps_ret (pe_op op_mul (pv 1) (pv 2)))) pss_nil)
    (pss_cons (ps_if (pt_cmpR op_eq (pv 0) pe_str (nomark _)) (pss_one (ps_ret (pe_callTy call_int1 (by rfl) B.int boot_int (pa_cons (pe_cmpR op_lt (pv 1) (pv 2) (nomark _)) pa_nil)))) pss_nil)
    (pss_cons (ps_if (pt_cmpR op_eq (pv 0) pe_str (nomark _)) (pss_one (ps_ret (pe_callTy call_int1 (by rfl) B.int boot_int (pa_cons (pe_cmpR op_eq (pv 1) (pv 2) (nomark _)) pa_nil)))) pss_nil)
    (pss_cons (ps_if (pt_cmpR op_eq (pv 2) pe_int (nomark _)) (pss_one (ps_ret pe_str)) pss_nil)
    (pss_cons (ps_set (i:=3) scLT.nd rfl (Or.inl rfl) (pe_op op_fdivM (pv 1) (pv 2)))
    (pss_cons (ps_if (pt_cmpR op_eq (pv 0) pe_str (nomark _)) (pss_one (ps_ret (pv 3))) pss_nil)
    (pss_one (ps_ret (pe_op op_sub (pv 1) (pe_op op_mul (pv 3) (pv 2)))))))))))),?_⟩
  have two:=h H (Same.refl H)
  unfold twoOf at two h
  refine ⟨_,rfl,rfl,_,rfl,ite2 (fun c=>?_) (fun c=>?_)⟩
  · rw [if_pos (str_eq (dec_t c))] at two
    exact ⟨_,rfl,_,rfl,_,_,rfl,rfl,two⟩
  have n1:¬ k="plus":=fun z=>dec_f c (by rw [z])
  rw [if_neg n1] at two
  refine ⟨_,rfl,rfl,_,rfl,ite2 (fun c=>?_) (fun c=>?_)⟩
  · rw [if_pos (str_eq (dec_t c))] at two
    exact ⟨_,rfl,_,rfl,_,_,rfl,rfl,two⟩
  have n2:¬ k="less":=fun z=>dec_f c (by rw [z])
  rw [if_neg n2] at two
  refine ⟨_,rfl,rfl,_,rfl,ite2 (fun c=>?_) (fun c=>?_)⟩
  · rw [if_pos (str_eq (dec_t c))] at two
    refine ⟨_,rfl,_,rfl,_,_,rfl,rfl,.inl ⟨?_,?_⟩,two⟩
    · unfold Wo at ha; omega
    · unfold Wo at ha; omega
  have n3:¬ k="times":=fun z=>dec_f c (by rw [z])
  rw [if_neg n3] at two
  refine ⟨_,rfl,rfl,_,rfl,ite2 (fun c=>?_) (fun c=>?_)⟩
  · rw [if_pos (str_eq (dec_t c))] at two
    refine ⟨_,rfl,_,rfl,_,_,rfl,rfl,.inr ⟨_,rfl,?_⟩⟩
    by_cases z:a < b
    · rw [if_pos z] at two
      rw [decide_eq_true z]
      exact two
    · rw [if_neg z] at two
      rw [decide_eq_false z]
      exact two
  have n4:¬ k="below":=fun z=>dec_f c (by rw [z])
  rw [if_neg n4] at two
  refine ⟨_,rfl,rfl,_,rfl,ite2 (fun c=>?_) (fun c=>?_)⟩
  · rw [if_pos (str_eq (dec_t c))] at two
    refine ⟨_,rfl,_,rfl,rfl,.inr ⟨_,rfl,?_⟩⟩
    by_cases z:a=b
    · rw [if_pos z] at two
      rw [decide_eq_true (show V.int a=V.int b by rw [z])]
      exact two
    · rw [if_neg z] at two
      rw [decide_eq_false (show ¬ V.int a=V.int b from fun e=>z (int_eq e))]
      exact two
  have n5:¬ k="same":=fun z=>dec_f c (by rw [z])
  rw [if_neg n5] at two
  refine ⟨_,rfl,rfl,_,rfl,ite2 (fun c=>?_) (fun c=>?_)⟩
  · rw [if_pos (int_eq (dec_t c))] at two
    exact two
  have n6:¬ b=0:=fun z=>dec_f c (by rw [z])
  have bsmall:-(2 ^ 64) < b∧b < 2 ^ 64:=by
    unfold Wo at hb
    omega
  refine ⟨_,rfl,_,rfl,_,_,rfl,rfl,⟨n6,by omega⟩,?_⟩
  rw [if_neg n6] at two
  refine ⟨_,rfl,rfl,_,rfl,ite2 (fun c=>?_) (fun c=>?_)⟩
  · rw [if_pos (str_eq (dec_t c))] at two
    exact ⟨_,rfl,two⟩
  · have n7:¬ k="part":=fun z=>dec_f c (by rw [z])
    rw [if_neg n7] at two
    have e:a.fmod b=a - a.fdiv b * b:=by rw [Int.mul_comm]; exact Int.fmod_def a b
    rw [e] at two
    exact ⟨_,rfl,_,rfl,_,rfl,_,_,rfl,rfl,.inr bsmall,_,_,rfl,rfl,two⟩
abbrev pLR:List Str:=["_law_formula","_law_state","_law_now","_law_got"]
structure HoldsD (bs qs:List Str) (H:Hp) (wd rd gl:Addr) (e:Asks):Prop where
  hwd:∃ bk:List (Key×V),H wd=some (.dK bk)∧∀ x∈bs,valV bk (Sum.inr x)=some (.int (e.bx x))
  hrd:∃ qk:List (Key×V),H rd=some (.dK qk)∧∀ x∈qs,∃ l xs,valV qk (Sum.inr x)=some (.ref l)∧H l=some (.lst xs)∧xs.length=e.lg x
  hgl:H gl=some (.lst [.int e.g0,.int e.g1])
theorem HoldsD.same {bs qs:List Str} {H H':Hp} {wd rd gl:Addr} {e:Asks} (h:HoldsD bs qs H wd rd gl e) (s:Same H H'):HoldsD bs qs H' wd rd gl e:=by
  obtain ⟨⟨bk,h1,h2⟩,⟨qk,h3,h4⟩,h5⟩:=h
  refine ⟨⟨bk,s _ _ h1,h2⟩,⟨qk,s _ _ h3,fun x hx=>?_⟩,s _ _ h5⟩
  obtain ⟨l,xs,a,b,c⟩:=h4 x hx
  exact ⟨l,xs,a,s _ _ b,c⟩
def spLR (n:Nat):Sp:=fun vs H Q _=>∃ (v:V) (F:Fm) (bs qs:List Str) (sl wd rd gl:Addr) (x y:V) (e:Asks),vs=[v,.ref sl,.int e.nw,.ref gl]∧H sl=some (.lst [.ref wd,.ref rd,x,y])∧FmIn bs qs H v F∧F.depth≤n∧HoldsD bs qs H wd rd gl e∧e.Ok bs qs∧∀ H':Hp,Same H H'→Q (resV (ev e F)) H'
theorem scLR:FnScope (pLR++(["_law_one","_law_other","_law_found"]:List Str)) pLR (defScope s_law_comes_to):=⟨rfl,rfl,rfl,by decide +kernel,rfl,by decide +kernel,by decide +kernel⟩
theorem LR_step {n:Nat} (D:Df K mg "_law_comes_to" s_law_comes_to pLR f fd) (DT:Df K mg "_law_two" s_law_two ["_law_word","_law_one","_law_other"] fA fdA) (B:Bl mg)
    (G:FnOk P w K mg base CX0 (n + 1) f fd pLR (spLR n)):FnOk P w K mg base CX0 (n + 2) f fd pLR (spLR (n + 1)):=by
  have GT:FnOk P w K mg base CX0 1 fA fdA ["_law_word","_law_one","_law_other"] spLT:=ok_LT DT B
  refine D.F.ok scLR (fun vs H Q E h=>?_) (fun cdv A outer s H vs Q E hr h=>?_)
  · obtain ⟨v,F,bs,qs,sl,wd,rd,gl,x0,y0,e,rfl,_⟩:=h
    rfl
  obtain ⟨v,F,bs,qs,sl,wd,rd,gl,x0,y0,e,rfl,hsl,hF,hd,ho,eo,h⟩:=h
  have hu:=hu_of hr
  have r1:Room 1 _:=hr.mono (by omega)
  refine ⟨_,pss_cons (ps_if (pt_cmpR op_eq (pe_ix ix_tup (pv 0) pe_int (fun _ _=>rfl)) pe_str (nomark _)) (pss_one (ps_ret (pe_ix ix_tup (pv 0) pe_int (fun _ _=>rfl)))) pss_nil)
    (pss_cons (ps_if (pt_cmpR op_eq (pe_ix ix_tup (pv 0) pe_int (fun _ _=>rfl)) pe_str (nomark _)) (pss_one (ps_ret (pe_dget hu (pe_ix ix_list (pv 1) pe_int (fun _ _=>rfl)) (pe_ix ix_tup (pv 0) pe_int (fun _ _=>rfl)) (fun _ _=>rfl)))) pss_nil)
    (pss_cons (ps_if (pt_cmpR op_eq (pe_ix ix_tup (pv 0) pe_int (fun _ _=>rfl)) pe_str (nomark _)) (pss_one (ps_ret (pe_callB call_len_seq (by rfl) B.len PySem.boot_len (pa_cons (pe_dget hu (pe_ix ix_list (pv 1) pe_int (fun _ _=>rfl)) (pe_ix ix_tup (pv 0) pe_int (fun _ _=>rfl)) (fun _ _=>rfl)) pa_nil)))) pss_nil)
    (pss_cons (ps_if (pt_cmpR op_eq (pe_ix ix_tup (pv 0) pe_int (fun _ _=>rfl)) pe_str (nomark _)) (pss_one (ps_ret (pe_ix ix_list (pv 3) (pe_ix ix_tup (pv 0) pe_int (fun _ _=>rfl)) (fun _ _=>rfl)))) pss_nil)
    (pss_cons (ps_if (pt_cmpR op_eq (pe_ix ix_tup (pv 0) pe_int (fun _ _=>rfl)) pe_str (nomark _)) (pss_one (ps_ret (pv 2))) pss_nil)
    (pss_cons (ps_set (i:=4) scLR.nd rfl (Or.inl rfl) (pe_call G hr rfl D.m D.F.kp D.b .nil pass0 (pa_cons (pe_ix ix_tup (pv 0) pe_int (fun _ _=>rfl)) (pa_cons (pv 1) (pa_cons (pv 2) (pa_cons (pv 3) pa_nil))))))
    (pss_cons (ps_if (pt_val (pe_callB call_isinst (by rfl) B.isi boot_isi (pa_cons (pv 4) (pa_cons (pe_bltn (v:=.ty "str") (by rfl) B.str boot_str rfl) pa_nil)))) (pss_one (ps_ret (pv 4))) pss_nil)
    (pss_cons (ps_set (i:=5) scLR.nd rfl (Or.inl rfl) (pe_call G hr rfl D.m D.F.kp D.b .nil pass0 (pa_cons (pe_ix ix_tup (pv 0) pe_int (fun _ _=>rfl)) (pa_cons (pv 1) (pa_cons (pv 2) (pa_cons (pv 3) pa_nil))))))
    (pss_cons (ps_if (pt_val (pe_callB call_isinst (by rfl) B.isi boot_isi (pa_cons (pv 5) (pa_cons (pe_bltn (v:=.ty "str") (by rfl) B.str boot_str rfl) pa_nil)))) (pss_one (ps_ret (pv 5))) pss_nil)
    (pss_cons (ps_set (i:=6) scLR.nd rfl (Or.inl rfl) (pe_call GT r1 rfl DT.m DT.F.kp DT.b .nil pass0 (pa_cons (pe_ix ix_tup (pv 0) pe_int (fun _ _=>rfl)) (pa_cons (pv 4) (pa_cons (pv 5) pa_nil)))))
    (pss_cons (ps_if (pw_and (pt_not (pt_val (pe_callB call_isinst (by rfl) B.isi boot_isi (pa_cons (pv 6) (pa_cons (pe_bltn (v:=.ty "str") (by rfl) B.str boot_str rfl) pa_nil))))) (pw_and1 (pw_or (pt_cmpR op_lt (pv 6) (pe_un un_neg (pe_op op_pow pe_int pe_int)) (nomark _)) (pw_or1 (pt_cmpR op_gt (pv 6) (pe_op op_pow pe_int pe_int) (nomark _)))).pt)).pt (pss_one (ps_ret pe_str)) pss_nil)
    (pss_one (ps_ret (pv 6))))))))))))),?_⟩
  have c15:CPow 10 15:=⟨by decide,by decide,by decide⟩
  obtain ⟨k1,k2,k3,k4,k5,k6,k7,k8,k9,k10⟩:=kinds_ne
  have hH:=h H (Same.refl H)
  cases hF with
  | @num t n ht hn =>
    refine ⟨_,rfl,t,_,_,_,rfl,rfl,SqT.of ht,rfl,rfl,_,rfl,iteE (strT _) (iteT ?_)⟩
    exact ⟨_,rfl,t,_,_,_,rfl,rfl,SqT.of ht,rfl,hH⟩
  | @box t x ht hx =>
    obtain ⟨bk,g1,g2⟩:=ho.hwd
    refine ⟨_,rfl,t,_,_,_,rfl,rfl,SqT.of ht,rfl,rfl,_,rfl,iteE (strF k1) (iteF ?_)⟩
    refine ⟨_,rfl,t,_,_,_,rfl,rfl,SqT.of ht,rfl,rfl,_,rfl,iteE (strT _) (iteT ?_)⟩
    exact ⟨_,rfl,sl,_,_,_,rfl,rfl,SqL.of hsl,rfl,_,rfl,t,_,_,_,rfl,rfl,SqT.of ht,rfl,wd,_,rfl,(by have z:=DGet.k (k:=Sum.inr x) g1; rw [g2 x hx] at z; exact z),hH⟩
  | @long t x ht hx =>
    obtain ⟨qk,g1,g2⟩:=ho.hrd
    obtain ⟨l,xs,g3,g4,g5⟩:=g2 x hx
    refine ⟨_,rfl,t,_,_,_,rfl,rfl,SqT.of ht,rfl,rfl,_,rfl,iteE (strF k2) (iteF ?_)⟩
    refine ⟨_,rfl,t,_,_,_,rfl,rfl,SqT.of ht,rfl,rfl,_,rfl,iteE (strF k3) (iteF ?_)⟩
    refine ⟨_,rfl,t,_,_,_,rfl,rfl,SqT.of ht,rfl,rfl,_,rfl,iteE (strT _) (iteT ?_)⟩
    refine ⟨_,rfl,sl,_,_,_,rfl,rfl,SqL.of hsl,rfl,_,rfl,t,_,_,_,rfl,rfl,SqT.of ht,rfl,rd,_,rfl,(by have z:=DGet.k (k:=Sum.inr x) g1; rw [g3] at z; exact z),l,xs,rfl,.inl (SqL.of g4),?_⟩
    rw [g5]
    exact hH
  | @got t j ht =>
    refine ⟨_,rfl,t,_,_,_,rfl,rfl,SqT.of ht,rfl,rfl,_,rfl,iteE (strF k4) (iteF ?_)⟩
    refine ⟨_,rfl,t,_,_,_,rfl,rfl,SqT.of ht,rfl,rfl,_,rfl,iteE (strF k5) (iteF ?_)⟩
    refine ⟨_,rfl,t,_,_,_,rfl,rfl,SqT.of ht,rfl,rfl,_,rfl,iteE (strF k6) (iteF ?_)⟩
    refine ⟨_,rfl,t,_,_,_,rfl,rfl,SqT.of ht,rfl,rfl,_,rfl,iteE (strT _) (iteT ?_)⟩
    cases j
    · exact ⟨_,rfl,_,rfl,t,_,_,_,rfl,rfl,SqT.of ht,rfl,gl,_,_,_,rfl,rfl,SqL.of ho.hgl,rfl,hH⟩
    · exact ⟨_,rfl,_,rfl,t,_,_,_,rfl,rfl,SqT.of ht,rfl,gl,_,_,_,rfl,rfl,SqL.of ho.hgl,rfl,hH⟩
  | @now t ht =>
    refine ⟨_,rfl,t,_,_,_,rfl,rfl,SqT.of ht,rfl,rfl,_,rfl,iteE (strF k7) (iteF ?_)⟩
    refine ⟨_,rfl,t,_,_,_,rfl,rfl,SqT.of ht,rfl,rfl,_,rfl,iteE (strF k8) (iteF ?_)⟩
    refine ⟨_,rfl,t,_,_,_,rfl,rfl,SqT.of ht,rfl,rfl,_,rfl,iteE (strF k9) (iteF ?_)⟩
    refine ⟨_,rfl,t,_,_,_,rfl,rfl,SqT.of ht,rfl,rfl,_,rfl,iteE (strF k10) (iteF ?_)⟩
    refine ⟨_,rfl,t,_,_,_,rfl,rfl,SqT.of ht,rfl,rfl,_,rfl,iteE (strT _) (iteT ?_)⟩
    exact ⟨_,rfl,hH⟩
  | @two t k u v f1 f2 ht hk h1 h2 =>
    obtain ⟨k1,k2,k3,k4,k5⟩:=seven_no k hk
    clear hH
    have d1:f1.depth≤n:=by
      unfold Fm.depth at hd
      omega
    have d2:f2.depth≤n:=by
      unfold Fm.depth at hd
      omega
    refine ⟨_,rfl,t,_,_,_,rfl,rfl,SqT.of ht,rfl,rfl,_,rfl,ite2 (fun c=>absurd (str_eq (dec_t c)) k1) (fun _=>?_)⟩
    refine ⟨_,rfl,t,_,_,_,rfl,rfl,SqT.of ht,rfl,rfl,_,rfl,ite2 (fun c=>absurd (str_eq (dec_t c)) k2) (fun _=>?_)⟩
    refine ⟨_,rfl,t,_,_,_,rfl,rfl,SqT.of ht,rfl,rfl,_,rfl,ite2 (fun c=>absurd (str_eq (dec_t c)) k3) (fun _=>?_)⟩
    refine ⟨_,rfl,t,_,_,_,rfl,rfl,SqT.of ht,rfl,rfl,_,rfl,ite2 (fun c=>absurd (str_eq (dec_t c)) k4) (fun _=>?_)⟩
    refine ⟨_,rfl,t,_,_,_,rfl,rfl,SqT.of ht,rfl,rfl,_,rfl,ite2 (fun c=>absurd (str_eq (dec_t c)) k5) (fun _=>?_)⟩
    refine ⟨_,rfl,t,_,_,_,rfl,rfl,SqT.of ht,rfl,_,rfl,_,rfl,_,rfl,u,f1,bs,qs,sl,wd,rd,gl,x0,y0,e,rfl,hsl,h1,d1,ho,eo,fun H1 s1=>?_⟩
    unfold ev at h
    cases e1:ev e f1 with
    | nought =>
      rw [e1] at h
      exact ⟨_,rfl,_,"str",_,true,rfl,.str _,kit_ss,_,rfl,iteT ⟨_,rfl,h H1 s1⟩⟩
    | great =>
      rw [e1] at h
      exact ⟨_,rfl,_,"str",_,true,rfl,.str _,kit_ss,_,rfl,iteT ⟨_,rfl,h H1 s1⟩⟩
    | ok a =>
      rw [e1] at h
      refine ⟨_,rfl,_,"str",_,false,rfl,.int a,kit_is,_,rfl,iteF ?_⟩
      have ht1:=s1 _ _ ht
      refine ⟨_,rfl,t,_,_,_,rfl,rfl,SqT.of ht1,rfl,_,rfl,_,rfl,_,rfl,v,f2,bs,qs,sl,wd,rd,gl,x0,y0,e,rfl,s1 _ _ hsl,h2.same s1,d2,ho.same s1,eo,fun H2 s2=>?_⟩
      have s12:=s1.trans s2
      cases e2:ev e f2 with
      | nought =>
        rw [e2] at h
        exact ⟨_,rfl,_,"str",_,true,rfl,.str _,kit_ss,_,rfl,iteT ⟨_,rfl,h H2 s12⟩⟩
      | great =>
        rw [e2] at h
        exact ⟨_,rfl,_,"str",_,true,rfl,.str _,kit_ss,_,rfl,iteT ⟨_,rfl,h H2 s12⟩⟩
      | ok b =>
        rw [e2] at h
        refine ⟨_,rfl,_,"str",_,false,rfl,.int b,kit_is,_,rfl,iteF ?_⟩
        have ht2:=s12 _ _ ht
        refine ⟨_,rfl,t,_,_,_,rfl,rfl,SqT.of ht2,rfl,_,rfl,_,rfl,k,a,b,rfl,hk,ev_wo eo h1 e1,ev_wo eo h2 e2,fun H3 s3=>?_⟩
        have hq:Q (resV (cap (twoOf k a b))) H3:=h H3 (s12.trans s3)
        cases e3:twoOf k a b with
        | nought =>
          rw [e3] at hq
          refine ⟨_,rfl,_,"str",_,true,rfl,.str _,kit_ss,_,rfl,iteF (iteF ?_)⟩
          exact ⟨_,rfl,hq⟩
        | great =>
          rw [e3] at hq
          refine ⟨_,rfl,_,"str",_,true,rfl,.str _,kit_ss,_,rfl,iteF (iteF ?_)⟩
          exact ⟨_,rfl,hq⟩
        | ok r =>
          rw [e3] at hq
          have hq':Q (resV (if 10 ^ 15 < sizeI r then .great else .ok r)) H3:=hq
          refine ⟨_,rfl,_,"str",_,false,rfl,.int r,kit_is,_,rfl,iteT ?_⟩
          have e15:(10:Int) ^ 15=1000000000000000:=by decide
          have sz:(10 ^ 15 < sizeI r)↔(r < -(10 ^ 15)∨10 ^ 15 < r):=by
            unfold sizeI
            split <;> omega
          refine ⟨_,rfl,_,_,rfl,rfl,c15,_,rfl,_,_,rfl,rfl,_,rfl,ite2 (fun c=>?_) (fun c=>?_)⟩
          · rw [if_pos (sz.mpr (.inl (dec_t c)))] at hq'
            exact iteT hq'
          · refine ⟨_,rfl,_,_,rfl,rfl,c15,_,_,rfl,rfl,_,rfl,ite2 (fun c2=>?_) (fun c2=>?_)⟩
            · rw [if_pos (sz.mpr (.inr (dec_t c2)))] at hq'
              exact hq'
            · rw [if_neg (fun z=>(sz.mp z).elim (dec_f c) (dec_f c2))] at hq'
              exact ⟨_,rfl,hq'⟩
theorem ok_LR (D:Df K mg "_law_comes_to" s_law_comes_to pLR f fd) (DT:Df K mg "_law_two" s_law_two ["_law_word","_law_one","_law_other"] fA fdA) (B:Bl mg) :
    ∀ n:Nat,FnOk P w K mg base CX0 (n + 1) f fd pLR (spLR n)
  | 0=>by
    have no:∀ vs H Q E,¬ spLR 0 vs H Q E:=fun vs H Q E h=>by
      obtain ⟨v,F,_,_,_,_,_,_,_,_,_,_,_,_,hd,_⟩:=h
      have:=depth_pos F
      omega
    exact ⟨fun vs H Q E h=>absurd h (no vs H Q E),fun A outer s H args us vs Q E _ _ _ _ h=>absurd h (no vs H Q E)⟩
  | n + 1=>LR_step D DT B (ok_LR D DT B n)
end
end My
namespace My
open PySem L2
def shD (h:Ev) (ds:List Int):Dd→Wk→Except Flt (Wk×Ds)
  | .pull q x o,w=>match getQ w.qu q with
    | []=>.ok ({w with qn:=addS w.qn q},o)
    | n :: ns=>.ok ({w with qu:=setA w.qu q ns,bx:=setA w.bx x n,wr:=addS (addS w.wr x) q,qn:=addS w.qn q},.nil)
  | .ife f t e,w=>match ev (askW h w) f with
    | .ok n=>.ok ({w with rk:=w.rk++[f]},if n=0 then e else t)
    | .nought=>.error .nought
    | .great=>.error .great
  | d,w=>match doD h ds d w with
    | .ok w'=>.ok (w',.nil)
    | .error e=>.error e
def Ds.toL:Ds→List Dd
  | .nil=>[]
  | .cons d r=>d :: r.toL
def doL (h:Ev) (ds:List Int):List Dd→Wk→Except Flt Wk
  | [],w=>.ok w
  | d :: r,w=>match doD h ds d w with
    | .ok w'=>doL h ds r w'
    | .error e=>.error e
theorem doS_L {h:Ev} {ds:List Int}:∀ (D:Ds) (w:Wk),doS h ds D w=doL h ds D.toL w
  | .nil,w=>by simp only [doS,Ds.toL,doL]
  | .cons d r,w=>by
    simp only [doS,Ds.toL,doL]
    cases doD h ds d w with
    | ok w'=>exact doS_L r w'
    | error e=>rfl
theorem doL_app {h:Ev} {ds:List Int}:∀ (a b:List Dd) (w:Wk),doL h ds (a++b) w=match doL h ds a w with
    | .ok w'=>doL h ds b w'
    | .error e=>.error e
  | [],b,w=>rfl
  | d :: a,b,w=>by
    simp only [List.cons_append,doL]
    cases doD h ds d w with
    | ok w'=>exact doL_app a b w'
    | error e=>rfl
theorem sh_doD {h:Ev} {ds:List Int} (d:Dd) (w:Wk):doD h ds d w=match shD h ds d w with
    | .ok p=>doS h ds p.2 p.1
    | .error e=>.error e:=by
  have leaf:∀ r:Except Flt Wk,r=(match (match r with | .ok w'=>(.ok (w',.nil):Except Flt (Wk×Ds)) | .error e=>.error e) with | .ok p=>doS h ds p.2 p.1 | .error e=>.error e):=fun r=>by
    cases r with
    | ok w'=>simp only [doS]
    | error e=>rfl
  cases d with
  | pull q x o =>
    simp only [doD,shD]
    cases getQ w.qu q with
    | nil=>rfl
    | cons n ns=>simp only [doS]
  | ife f t e =>
    simp only [doD,shD,rck]
    cases ev (askW h w) f with
    | ok n =>
      show (if n=0 then _ else _)=doS h ds (if n=0 then e else t) _
      split <;> rfl
    | nought=>rfl
    | great=>rfl
  | put x f=>exact leaf _
  | push q f=>exact leaf _
  | draw x f=>exact leaf _
  | send to sg sp rk a b=>exact leaf _
  | fin=>exact leaf _
theorem doL_step {h:Ev} {ds:List Int} {d:Dd} {r:List Dd} {w:Wk}:doL h ds (d :: r) w=match shD h ds d w with
    | .ok p=>doL h ds (p.2.toL++r) p.1
    | .error e=>.error e:=by
  simp only [doL]
  rw [sh_doD]
  cases shD h ds d w with
  | ok p =>
    show (match doS h ds p.2 p.1 with | .ok w'=>doL h ds r w' | .error e=>.error e)=doL h ds (p.2.toL++r) p.1
    rw [doL_app,doS_L]
  | error e=>rfl
def szL (S:List Dd):Nat:=(S.map Dd.size).sum
theorem szL_toL:∀ D:Ds,szL D.toL=D.size
  | .nil=>rfl
  | .cons d r=>by
    show (d.size :: (r.toL.map Dd.size)).sum=d.size + r.size
    rw [List.sum_cons]
    rw [← szL_toL r]
    rfl
theorem szL_app (a b:List Dd):szL (a++b)=szL a + szL b:=by
  unfold szL
  rw [List.map_append,List.sum_append]
theorem sh_size {h:Ev} {ds:List Int} {d:Dd} {w:Wk} {p:Wk×Ds} (e:shD h ds d w=.ok p):p.2.size < d.size:=by
  cases d with
  | pull q x o =>
    simp only [shD] at e
    split at e
    · cases e
      simp only [Dd.size]
      omega
    · cases e
      simp only [Dd.size,Ds.size]
      omega
  | ife f t e' =>
    simp only [shD] at e
    split at e
    · cases e
      simp only [Dd.size]
      split <;> omega
    · cases e
    · cases e
  | put x f=>simp only [shD] at e; split at e <;> cases e; simp only [Dd.size,Ds.size]; omega
  | push q f=>simp only [shD] at e; split at e <;> cases e; simp only [Dd.size,Ds.size]; omega
  | draw x f=>simp only [shD] at e; split at e <;> cases e; simp only [Dd.size,Ds.size]; omega
  | send to sg sp rk a b=>simp only [shD] at e; split at e <;> cases e; simp only [Dd.size,Ds.size]; omega
  | fin=>simp only [shD] at e; split at e <;> cases e; simp only [Dd.size,Ds.size]; omega
structure RL where
  l:Addr
  bd:Addr
  qd:Addr
  tl:Addr
  nl:Addr
  wl:Addr
  qa:List (Str×Addr)
def RL.all (L:RL):List Addr:=L.l :: L.bd :: L.qd :: L.tl :: L.nl :: L.wl :: L.qa.map (·.2)
structure Rg (bs qs:List Str) (H0 G:Hp) (L:RL) (h:Ev) (w:Wk) (tc:List Str) (ws:List V):Prop where
  sm:Same H0 G
  hl:G L.l=some (.lst [.ref L.bd,.ref L.qd,.int w.dr,.int w.se])
  hb:G L.bd=some (.dK (boK w.bx))
  hq:G L.qd=some (.dK (quK L.qa))
  hqs:QuIn G L.qa w.qu
  ht:G L.tl=some (.lst (tc.map V.str))
  hn:∃ vs,G L.nl=some (.lst vs)∧Paired (EvIn G) vs w.out
  hw:G L.wl=some (.lst ws)
  nd:L.all.Nodup
  fr:∀ a∈L.all,H0 a=none
  ok:WkOk bs qs w
  wt:Wo h.t
  wa:Wo h.a
  wb:Wo h.b
  tw:∀ x∈bs++qs,(x∈tc↔x∈w.wr)
  te:(("the end":Str)∈tc↔w.en=true)
  ne:("the end":Str)∉bs++qs
structure RL.Ne (L:RL):Prop where
  lb:L.l≠L.bd
  lq:L.l≠L.qd
  lt:L.l≠L.tl
  ln:L.l≠L.nl
  lw:L.l≠L.wl
  lz:∀ a∈L.qa.map (·.2),L.l≠a
  bq:L.bd≠L.qd
  bt:L.bd≠L.tl
  bn:L.bd≠L.nl
  bw:L.bd≠L.wl
  bz:∀ a∈L.qa.map (·.2),L.bd≠a
  qt:L.qd≠L.tl
  qn:L.qd≠L.nl
  qw:L.qd≠L.wl
  qz:∀ a∈L.qa.map (·.2),L.qd≠a
  tn:L.tl≠L.nl
  tw:L.tl≠L.wl
  tz:∀ a∈L.qa.map (·.2),L.tl≠a
  nw:L.nl≠L.wl
  nz:∀ a∈L.qa.map (·.2),L.nl≠a
  wz:∀ a∈L.qa.map (·.2),L.wl≠a
  zz:(L.qa.map (·.2)).Nodup
section
variable {bs qs:List Str} {H0 G G':Hp} {L:RL} {h:Ev} {w:Wk} {tc:List Str} {ws:List V}
theorem RL.ne (nd:L.all.Nodup):L.Ne:=by
  unfold RL.all at nd
  have cut:∀ {a:Addr} {xs:List Addr},(a :: xs).Nodup→(∀ b∈xs,a≠b)∧xs.Nodup:=fun {a xs} z=>by
    obtain ⟨z1,z2⟩:=List.nodup_cons.mp z
    exact ⟨fun b hb e=>z1 (by rw [e]; exact hb),z2⟩
  obtain ⟨a1,nd⟩:=cut nd
  obtain ⟨a2,nd⟩:=cut nd
  obtain ⟨a3,nd⟩:=cut nd
  obtain ⟨a4,nd⟩:=cut nd
  obtain ⟨a5,nd⟩:=cut nd
  obtain ⟨a6,nd⟩:=cut nd
  have i1:∀ {b:Addr} {xs:List Addr},b∈b :: xs:=List.mem_cons_self
  have i2:∀ {a b:Addr} {xs:List Addr},b∈xs→b∈a :: xs:=fun z=>List.mem_cons_of_mem _ z
  exact ⟨a1 _ i1,a1 _ (i2 i1),a1 _ (i2 (i2 i1)),a1 _ (i2 (i2 (i2 i1))),a1 _ (i2 (i2 (i2 (i2 i1)))),fun a ha=>a1 _ (i2 (i2 (i2 (i2 (i2 ha))))),a2 _ i1,a2 _ (i2 i1),a2 _ (i2 (i2 i1)),a2 _ (i2 (i2 (i2 i1))),fun a ha=>a2 _ (i2 (i2 (i2 (i2 ha)))),a3 _ i1,a3 _ (i2 i1),a3 _ (i2 (i2 i1)),fun a ha=>a3 _ (i2 (i2 (i2 ha))),a4 _ i1,a4 _ (i2 i1),fun a ha=>a4 _ (i2 (i2 ha)),a5 _ i1,fun a ha=>a5 _ (i2 ha),fun a ha=>a6 _ ha,nd⟩
theorem Rg.sm_upd (g:Rg bs qs H0 G L h w tc ws) {a:Addr} (ha:a∈L.all) (o:HO):Same H0 (upd G a o):=fun b u e=>by
  rw [upd_ne (ne_of_none e (g.fr a ha))]
  exact g.sm _ _ e
theorem rin_l:L.l∈L.all:=List.mem_cons_self
theorem rin_b:L.bd∈L.all:=List.mem_cons_of_mem _ (List.mem_cons_self)
theorem rin_t:L.tl∈L.all:=List.mem_cons_of_mem _ (List.mem_cons_of_mem _ (List.mem_cons_of_mem _ (List.mem_cons_self)))
theorem rin_n:L.nl∈L.all:=List.mem_cons_of_mem _ (List.mem_cons_of_mem _ (List.mem_cons_of_mem _ (List.mem_cons_of_mem _ (List.mem_cons_self))))
theorem rin_w:L.wl∈L.all:=List.mem_cons_of_mem _ (List.mem_cons_of_mem _ (List.mem_cons_of_mem _ (List.mem_cons_of_mem _ (List.mem_cons_of_mem _ (List.mem_cons_self)))))
theorem rin_z {a:Addr} (h:a∈L.qa.map (·.2)):a∈L.all:=List.mem_cons_of_mem _ (List.mem_cons_of_mem _ (List.mem_cons_of_mem _ (List.mem_cons_of_mem _ (List.mem_cons_of_mem _ (List.mem_cons_of_mem _ (h))))))
theorem Rg.same (g:Rg bs qs H0 G L h w tc ws) (s:Same G G'):Rg bs qs H0 G' L h w tc ws:=by
  obtain ⟨vs,o1,o2⟩:=g.hn
  exact ⟨g.sm.trans s,s _ _ g.hl,s _ _ g.hb,s _ _ g.hq,g.hqs.same s,s _ _ g.ht,⟨vs,s _ _ o1,Paired.mono (fun _ _ z=>z.same s) o2⟩,s _ _ g.hw,g.nd,g.fr,g.ok,g.wt,g.wa,g.wb,g.tw,g.te,g.ne⟩
theorem Rg.box (g:Rg bs qs H0 G L h w tc ws) {x:Str} {n:Int} (wn:Wo n):Rg bs qs H0 (upd G L.bd (.dK (boK (setA w.bx x n)))) L h {w with bx:=setA w.bx x n} tc ws:=by
  have N:=RL.ne g.nd
  obtain ⟨vs,o1,o2⟩:=g.hn
  obtain ⟨kb,kq,nb,nq,wb,wq,nw,sw,nu,su,wo,fw⟩:=g.ok
  have wb2:∀ p∈setA w.bx x n,Wo p.2:=fun p hp=>by
    rcases mem_setA hp with z | z
    · exact wb p z
    · rw [z]
      exact wn
  exact ⟨g.sm_upd rin_b _,hv_ne g.hl N.lb,upd_same,hv_ne g.hq N.bq.symm,QuIn.keep (L:=⟨0,0,0,0,0,0,0,0,0,0,.non,.non,L.qa⟩) (fun a u e m=>hv_ne e (N.bz a m).symm) (fun _ hp=>hp) g.hqs,hv_ne g.ht N.bt.symm,⟨vs,hv_ne o1 N.bn.symm,ev_keep (not_tup g.hb (fun _ z=>by cases z)) o2⟩,hv_ne g.hw N.bw.symm,g.nd,g.fr,⟨(setA_keys _ _ _).trans kb,kq,nb,nq,wb2,wq,nw,sw,nu,su,wo,fw⟩,g.wt,g.wa,g.wb,g.tw,g.te,g.ne⟩
theorem Rg.counts (g:Rg bs qs H0 G L h w tc ws) (dr:Nat) (se:Int):Rg bs qs H0 (upd G L.l (.lst [.ref L.bd,.ref L.qd,.int dr,.int se])) L h {w with dr:=dr,se:=se} tc ws:=by
  have N:=RL.ne g.nd
  obtain ⟨vs,o1,o2⟩:=g.hn
  obtain ⟨kb,kq,nb,nq,wb,wq,nw,sw,nu,su,wo,fw⟩:=g.ok
  exact ⟨g.sm_upd rin_l _,upd_same,hv_ne g.hb N.lb.symm,hv_ne g.hq N.lq.symm,QuIn.keep (L:=⟨0,0,0,0,0,0,0,0,0,0,.non,.non,L.qa⟩) (fun a u e m=>hv_ne e (N.lz a m).symm) (fun _ hp=>hp) g.hqs,hv_ne g.ht N.lt.symm,⟨vs,hv_ne o1 N.ln.symm,ev_keep (not_tup g.hl (fun _ z=>by cases z)) o2⟩,hv_ne g.hw N.lw.symm,g.nd,g.fr,⟨kb,kq,nb,nq,wb,wq,nw,sw,nu,su,wo,fw⟩,g.wt,g.wa,g.wb,g.tw,g.te,g.ne⟩
theorem Rg.work (g:Rg bs qs H0 G L h w tc ws) (ws2:List V):Rg bs qs H0 (upd G L.wl (.lst ws2)) L h w tc ws2:=by
  have N:=RL.ne g.nd
  obtain ⟨vs,o1,o2⟩:=g.hn
  obtain ⟨kb,kq,nb,nq,wb,wq,nw,sw,nu,su,wo,fw⟩:=g.ok
  exact ⟨g.sm_upd rin_w _,hv_ne g.hl N.lw,hv_ne g.hb N.bw,hv_ne g.hq N.qw,QuIn.keep (L:=⟨0,0,0,0,0,0,0,0,0,0,.non,.non,L.qa⟩) (fun a u e m=>hv_ne e (N.wz a m).symm) (fun _ hp=>hp) g.hqs,hv_ne g.ht N.tw,⟨vs,hv_ne o1 N.nw,ev_keep (not_tup g.hw (fun _ z=>by cases z)) o2⟩,upd_same,g.nd,g.fr,⟨kb,kq,nb,nq,wb,wq,nw,sw,nu,su,wo,fw⟩,g.wt,g.wa,g.wb,g.tw,g.te,g.ne⟩
theorem Rg.sent (g:Rg bs qs H0 G L h w tc ws) {vs0:List V} {v:V} {e:Ev} (hv:G L.nl=some (.lst vs0)) (he:EvIn G v e) (we:Wo e.a∧Wo e.b):Rg bs qs H0 (upd G L.nl (.lst (vs0++[v]))) L h {w with out:=w.out++[e]} tc ws:=by
  have N:=RL.ne g.nd
  obtain ⟨vs,o1,o2⟩:=g.hn
  obtain ⟨kb,kq,nb,nq,wb,wq,nw,sw,nu,su,wo,fw⟩:=g.ok
  rw [hv] at o1
  cases o1
  have wo2:∀ x∈w.out++[e],Wo x.a∧Wo x.b:=fun x hx=>(List.mem_append.mp hx).elim (wo x) fun z=>by rw [List.mem_singleton.mp z]; exact we
  exact ⟨g.sm_upd rin_n _,hv_ne g.hl N.ln,hv_ne g.hb N.bn,hv_ne g.hq N.qn,QuIn.keep (L:=⟨0,0,0,0,0,0,0,0,0,0,.non,.non,L.qa⟩) (fun a u e m=>hv_ne e (N.nz a m).symm) (fun _ hp=>hp) g.hqs,hv_ne g.ht N.tn,⟨_,upd_same,ev_keep (not_tup hv (fun _ z=>by cases z)) (Paired.snoc o2 he)⟩,hv_ne g.hw N.nw.symm,g.nd,g.fr,⟨kb,kq,nb,nq,wb,wq,nw,sw,nu,su,wo2,fw⟩,g.wt,g.wa,g.wb,g.tw,g.te,g.ne⟩
theorem mem_addS {xs:List Str} {x y:Str}:y∈addS xs x↔(y∈xs∨y=x):=by
  unfold addS
  by_cases c:x∈xs
  · rw [if_pos c]
    exact ⟨.inl,fun z=>z.elim id fun e=>by rw [e]; exact c⟩
  · rw [if_neg c,List.mem_append,List.mem_singleton]
theorem Rg.touch (g:Rg bs qs H0 G L h w tc ws) {x:Str} (hx:x∈bs++qs):Rg bs qs H0 (upd G L.tl (.lst ((tc++[x]).map V.str))) L h {w with wr:=addS w.wr x} (tc++[x]) ws:=by
  have N:=RL.ne g.nd
  obtain ⟨vs,o1,o2⟩:=g.hn
  obtain ⟨kb,kq,nb,nq,wb,wq,nw,sw,nu,su,wo,fw⟩:=g.ok
  have sw2:∀ y∈addS w.wr x,y∈bs++qs:=fun y hy=>by
    rcases addS_mem hy with z | z
    · exact sw y z
    · rw [z]
      exact hx
  have tw2:∀ y∈bs++qs,(y∈tc++[x]↔y∈addS w.wr x):=fun y hy=>by
    rw [List.mem_append,List.mem_singleton,g.tw y hy,mem_addS]
  have te2:(("the end":Str)∈tc++[x]↔w.en=true):=by
    rw [List.mem_append,List.mem_singleton,g.te]
    exact ⟨fun z=>z.elim id fun y=>absurd (by rw [y]; exact hx) g.ne,.inl⟩
  exact ⟨g.sm_upd rin_t _,hv_ne g.hl N.lt,hv_ne g.hb N.bt,hv_ne g.hq N.qt,QuIn.keep (L:=⟨0,0,0,0,0,0,0,0,0,0,.non,.non,L.qa⟩) (fun a u e m=>hv_ne e (N.tz a m).symm) (fun _ hp=>hp) g.hqs,upd_same,⟨vs,hv_ne o1 N.tn.symm,ev_keep (not_tup g.ht (fun _ z=>by cases z)) o2⟩,hv_ne g.hw N.tw.symm,g.nd,g.fr,⟨kb,kq,nb,nq,wb,wq,addS_nd nw,sw2,nu,su,wo,fw⟩,g.wt,g.wa,g.wb,tw2,te2,g.ne⟩
theorem Rg.ended (g:Rg bs qs H0 G L h w tc ws) :Rg bs qs H0 (upd G L.tl (.lst ((tc++[("the end":Str)]).map V.str))) L h {w with en:=true} (tc++[("the end":Str)]) ws:=by
  have N:=RL.ne g.nd
  obtain ⟨vs,o1,o2⟩:=g.hn
  obtain ⟨kb,kq,nb,nq,wb,wq,nw,sw,nu,su,wo,fw⟩:=g.ok
  have tw2:∀ y∈bs++qs,(y∈tc++[("the end":Str)]↔y∈w.wr):=fun y hy=>by
    rw [List.mem_append,List.mem_singleton,← g.tw y hy]
    exact ⟨fun z=>z.elim id fun e=>absurd (by rw [← e]; exact hy) g.ne,.inl⟩
  have te2:(("the end":Str)∈tc++[("the end":Str)]↔true=true):=⟨fun _=>rfl,fun _=>List.mem_append_right _ (List.mem_singleton.mpr rfl)⟩
  exact ⟨g.sm_upd rin_t _,hv_ne g.hl N.lt,hv_ne g.hb N.bt,hv_ne g.hq N.qt,QuIn.keep (L:=⟨0,0,0,0,0,0,0,0,0,0,.non,.non,L.qa⟩) (fun a u e m=>hv_ne e (N.tz a m).symm) (fun _ hp=>hp) g.hqs,upd_same,⟨vs,hv_ne o1 N.tn.symm,ev_keep (not_tup g.ht (fun _ z=>by cases z)) o2⟩,hv_ne g.hw N.tw.symm,g.nd,g.fr,⟨kb,kq,nb,nq,wb,wq,nw,sw,nu,su,wo,fw⟩,g.wt,g.wa,g.wb,tw2,te2,g.ne⟩
theorem Rg.queue (g:Rg bs qs H0 G L h w tc ws) {x:Str} {l:Addr} {ns:List Int} (hl:L.qa.lookup x=some l) (len:ns.length≤30) (wn:∀ n∈ns,Wo n):Rg bs qs H0 (upd G l (.lst (ns.map V.int))) L h {w with qu:=setA w.qu x ns} tc ws:=by
  have N:=RL.ne g.nd
  have ml:l∈L.qa.map (·.2):=List.mem_map.mpr ⟨_,look_mem hl,rfl⟩
  obtain ⟨vs,o1,o2⟩:=g.hn
  obtain ⟨kb,kq,nb,nq,wb,wq,nw,sw,nu,su,wo,fw⟩:=g.ok
  obtain ⟨xs,gl⟩:=g.hqs.there ml
  have wq2:∀ p∈setA w.qu x ns,p.2.length≤30∧∀ n∈p.2,Wo n:=fun p hp=>by
    rcases mem_setA hp with z | z
    · exact wq p z
    · rw [z]
      exact ⟨len,wn⟩
  exact ⟨g.sm_upd (rin_z ml) _,hv_ne g.hl (N.lz l ml),hv_ne g.hb (N.bz l ml),hv_ne g.hq (N.qz l ml),g.hqs.set N.zz (by rw [kq]; exact nq) hl,hv_ne g.ht (N.tz l ml),⟨vs,hv_ne o1 (N.nz l ml),ev_keep (not_tup gl (fun _ z=>by cases z)) o2⟩,hv_ne g.hw (N.wz l ml),g.nd,g.fr,⟨kb,(setA_keys _ _ _).trans kq,nb,nq,wb,wq2,nw,sw,nu,su,wo,fw⟩,g.wt,g.wa,g.wb,g.tw,g.te,g.ne⟩
theorem Rg.pure (g:Rg bs qs H0 G L h w tc ws) (rk:List Fm) {qn:List Str} (nq:qn.Nodup) (sq:∀ x∈qn,x∈bs++qs):Rg bs qs H0 G L h {w with rk:=rk,qn:=qn} tc ws:=by
  obtain ⟨kb,kq,nb,nq',wb,wq,nw,sw,nu,su,wo,fw⟩:=g.ok
  exact ⟨g.sm,g.hl,g.hb,g.hq,g.hqs,g.ht,g.hn,g.hw,g.nd,g.fr,⟨kb,kq,nb,nq',wb,wq,nw,sw,nq,sq,wo,fw⟩,g.wt,g.wa,g.wb,g.tw,g.te,g.ne⟩
theorem Rg.asks (g:Rg bs qs H0 G L h w tc ws):(askW h w).Ok bs qs:=
  ⟨fun x m=>getB_wo g.ok m,fun x m=>by
    have:=(getQ_ok g.ok m).1
    show (getQ w.qu x).length≤1000
    omega,g.wa,g.wb,g.wt⟩
theorem Rg.holds (g:Rg bs qs H0 G L h w tc ws) {gl:Addr} (hg:G gl=some (.lst [.int h.a,.int h.b])):HoldsD bs qs G L.bd L.qd gl (askW h w):=
  ⟨⟨_,g.hb,fun x m=>box_at (by rw [g.ok.kb]; exact m)⟩,⟨_,g.hq,fun x m=>by
    obtain ⟨l,h1,h2,_⟩:=g.hqs.at_ (x:=x) (by rw [g.ok.kq]; exact m)
    exact ⟨l,_,quK_at h1,h2,List.length_map _⟩⟩,hg⟩
end
end My
namespace My
open PySem L2
def wordF:Flt→Str
  | .nought=>"nought"
  | .great=>"great"
  | .full=>"full"
  | .dry=>"dry"
  | .span=>"span"
  | .late=>"late"
def PostR (dg:Wk→Hp→Prop) (H0:Hp) (r:Except Flt Wk) (Q:VK):Prop:=match r with
  | .ok w'=>∀ G',dg w' G'→Q (.str "") G'
  | .error e=>∀ G',Same H0 G'→Q (.str (wordF e)) G'
section
variable {P:Program} {w:World} {K:PySem.W.Frag} {mg:Str→Option Value} {base:Heap} {f fC fT:Addr} {fd fdC fdT:FuncData} {bs qs:List Str}
seal L2.PS L2.PSs L2.PE L2.PA L2.PT L2.PW L2.PI L2.PG L2.PGs L2.PC
abbrev pSe2:List Str:=["_law_deed","_law_state","_law_key","_law_at","_law_got","_law_news"]
def spSe2 (bs qs:List Str):Sp:=fun vs H Q _=>∃ (H0:Hp) (L:RL) (h:Ev) (ds:List Int) (w:Wk) (tc:List Str) (ws:List V) (t kh gl:Addr) (u u1 u2:V) (to:Int) (sg:Str) (rk:Int) (F F1 F2:Fm),vs=[.ref t,.ref L.l,.ref kh,.int h.to,.ref gl,.ref L.nl]∧Rg bs qs H0 H L h w tc ws∧H0 t=some (.tup [.str "send",.int to,.str sg,u,.int rk,u1,u2]) ∧
  H0 kh=some (.tup [.int h.t,.int h.r,.int h.fr,.int h.c])∧H gl=some (.lst [.int h.a,.int h.b])∧FmI bs qs H0 u F∧FmI bs qs H0 u1 F1∧FmI bs qs H0 u2 F2∧w.out.length < 100000∧PostR (fun w' G'=>Rg bs qs H0 G' L h w' tc ws) H0 (doD h ds (.send to sg F rk F1 F2) w) Q
theorem scSe2:FnScope (pSe2++(["_law_numbers","_law_formula","_law_number"]:List Str)) pSe2 (defScope s_law_sent):=⟨rfl,rfl,rfl,by decide +kernel,rfl,by decide +kernel,by decide +kernel⟩
theorem ok_se2 (D:Df K mg "_law_sent" s_law_sent pSe2 f fd) (DC:Df K mg "_law_comes_to" s_law_comes_to pLR fC fdC) (DT:Df K mg "_law_two" s_law_two ["_law_word","_law_one","_law_other"] fT fdT) (B:Bl mg):FnOk P w K mg base CX0 17 f fd pSe2 (spSe2 bs qs):=by
  have GC:FnOk P w K mg base CX0 16 fC fdC pLR (spLR 15):=ok_LR DC DT B 15
  refine D.F.ok scSe2 (fun vs H Q E h=>?_) (fun cdv A outer s H vs Q E hr h=>?_)
  · obtain ⟨H0,L,h,ds,w,tc,ws,t,kh,gl,u,u1,u2,to,sg,rk,F,F1,F2,rfl,_⟩:=h
    rfl
  obtain ⟨H0,L,h,ds,w,tc,ws,t,kh,gl,u,u1,u2,to,sg,rk,F,F1,F2,rfl,g,ht,hk,hg,hF,hF1,hF2,lo,p⟩:=h
  refine ⟨_,pss_cons (ps_set (i:=6) scSe2.nd rfl (Or.inl rfl) (pe_lst pa_nil))
    (pss_cons (ps_for PassesOwn.never rfl (pi_list (pe_lst (pa_s (pe_ix ix_tup (pv 0) pe_int (fun _ _=>rfl)) (pa_s (pe_ix ix_tup (pv 0) pe_int (fun _ _=>rfl)) (pa_s (pe_ix ix_tup (pv 0) pe_int (fun _ _=>rfl)) pa_nil))))) (pg_name (i:=7) scSe2.nd rfl (Or.inl rfl)) (pss_cons (ps_set (i:=8) scSe2.nd rfl (Or.inl rfl) (pe_call GC hr (by rfl) DC.m DC.F.kp DC.b .nil pass0 (pa_n (pv 7) (pa_n (pv 1) (pa_s (pe_ix ix_tup (pv 2) pe_int (fun _ _=>rfl)) (pa_n (pv 4) pa_nil))))))
    (pss_cons (ps_if (pt_val (pe_callB call_isinst (by rfl) B.isi boot_isi (pa_cons (pv 8) (pa_cons (pe_bltn (v:=.ty "str") (by rfl) B.str boot_str rfl) pa_nil)))) (pss_one (ps_ret (pv 8))) pss_nil)
    (pss_cons (ps_if ((pw_and (pt_cmpR op_eq (pe_callB (call_lenK K (by rfl)) (by rfl) B.len PySem.boot_len (pa_n (pv 6) pa_nil)) pe_int (nomark _)) (pw_and1 (pw_or (pt_cmpR op_lt (pv 8) pe_int (nomark _)) (pw_or1 (pt_cmpR op_gt (pv 8) (pe_op op_pow pe_int pe_int) (nomark _)))).pt)).pt) (pss_one (ps_ret pe_str)) pss_nil)
    (pss_one (ps_expr (pe_bm PySem.F.plainAttrs_list PySem.F.slot_list_append PySem.F.type_list_append mt_append (pv 6) (pa_n (pv 8) pa_nil))))))))
    (pss_cons (ps_if (pt_cmpR op_gt (pe_op op_add (pe_ix ix_tup (pv 2) pe_int (fun _ _=>rfl)) (pe_ix ix_list (pv 6) pe_int (fun _ _=>rfl))) (pe_op op_pow pe_int pe_int) (nomark _)) (pss_one (ps_ret pe_str)) pss_nil)
    (pss_cons (ps_expr (pe_bm PySem.F.plainAttrs_list PySem.F.slot_list_append PySem.F.type_list_append mt_append (pv 5) (pa_tup (pe_tup (pa_tup (pe_tup (pa_b (pe_op op_add (pe_ix ix_tup (pv 2) pe_int (fun _ _=>rfl)) (pe_ix ix_list (pv 6) pe_int (fun _ _=>rfl))) (pa_s (pe_ix ix_tup (pv 0) pe_int (fun _ _=>rfl)) (pa_n (pv 3) (pa_s (pe_ix ix_list (pv 1) pe_int (fun _ _=>rfl)) pa_nil))))) (pa_s (pe_ix ix_tup (pv 0) pe_int (fun _ _=>rfl)) (pa_s (pe_ix ix_tup (pv 0) pe_int (fun _ _=>rfl)) (pa_s (pe_ix ix_list (pv 6) pe_int (fun _ _=>rfl)) (pa_s (pe_ix ix_list (pv 6) pe_int (fun _ _=>rfl)) pa_nil)))))) pa_nil) (hs:=star_tup)))
    (pss_cons (ps_asg (pe_op op_add (pe_ix ix_list (pv 1) pe_int (fun _ _=>rfl)) pe_int) (pg_sub (pv 1) pe_int set_list))
    (pss_one (ps_ret pe_str)))))),?_⟩
  have c6:CPow 10 6:=⟨by decide,by decide,by decide⟩
  have c12:CPow 10 12:=⟨by decide,by decide,by decide⟩
  have big:=line1000
  have tt:∀ {G:Hp},Same H0 G→SqT K G t [.str "send",.int to,.str sg,u,.int rk,u1,u2]:=fun {G} z=>SqT.of (z _ _ ht)
  simp only [doD] at p
  refine seq_i (asg_i ?_)
  refine ⟨Nat.zero_le _,fun nm hnm=>?_⟩
  refine gname_i ?_
  dsimp only
  have s1:=same_new hnm (.lst [])
  refine seq_i ?_
  refine ⟨_,rfl,t,_,_,_,rfl,rfl,tt (g.sm.trans s1),rfl,_,rfl,t,_,_,_,rfl,rfl,tt (g.sm.trans s1),rfl,_,rfl,t,_,_,_,rfl,rfl,tt (g.sm.trans s1),rfl,(by show 3≤sizeLine; decide),fun lf hlf=>?_⟩
  have s2:=same_new hlf (.lst [u,u1,u2])
  have nlf:nm≠lf:=ne_of_none (upd_same:upd H nm (.lst []) nm=_) hlf
  refine ⟨lf,rfl,⟨_,SqL.of upd_same⟩,for_list (K:=K) (a:=lf) (xs:=[u,u1,u2]) (fun i σ G=>∃ (nums:List Int) (u7 u8:Option V),σ=[some (.ref t),some (.ref L.l),some (.ref kh),some (.int h.to),some (.ref gl),some (.ref L.nl),some (.ref nm),u7,u8] ∧
      Same H G∧G lf=some (.lst [u,u1,u2])∧G nm=some (.lst (nums.map V.int))∧nums.length=i∧(∀ n,nums[0]?=some n→ev (askW h w) F=.ok n∧¬ (n < 1∨10 ^ 6 < n))∧(∀ n,nums[1]?=some n→ev (askW h w) F1=.ok n)∧(∀ n,nums[2]?=some n→ev (askW h w) F2=.ok n))
    ⟨[],_,_,rfl,s1.trans s2,upd_same,s2 _ _ upd_same,rfl,(fun n e=>by cases e),(fun n e=>by cases e),(fun n e=>by cases e)⟩ ?_ ?_ ?_⟩
  · rintro i σ G _ ⟨nums,u7,u8,rfl,sG,hlf',_⟩
    exact SqL.of hlf'
  · rintro i x σ G hi ⟨nums,u7,u8,rfl,sG,hlf',hnm',ln,q0,q1,q2⟩
    have g1:=g.same sG
    have kk1:=g1.sm _ _ hk
    obtain ⟨Fx,hFx,ef,eo⟩:∃ Fx,FmI bs qs H0 x Fx∧(∀ e,(ev (askW h w) Fx=.nought∧e=Flt.nought)∨(ev (askW h w) Fx=.great∧e=Flt.great)∨(i=0∧e=Flt.span∧∃ n,ev (askW h w) Fx=.ok n∧(n < 1∨10 ^ 6 < n))→∀ G',Same H0 G'→Q (.str (wordF e)) G') ∧
        (∀ n,ev (askW h w) Fx=.ok n→(i=0→¬ (n < 1∨10 ^ 6 < n))→(∀ m,(nums++[n])[0]?=some m→ev (askW h w) F=.ok m∧¬ (m < 1∨10 ^ 6 < m))∧(∀ m,(nums++[n])[1]?=some m→ev (askW h w) F1=.ok m)∧(∀ m,(nums++[n])[2]?=some m→ev (askW h w) F2=.ok m)):=by
      match i,nums,ln,hi with
      | 0,[],_,hi =>
        cases hi
        refine ⟨F,hF,fun e he=>?_,fun n en ns=>⟨(fun m e=>by cases e; exact ⟨en,ns rfl⟩),(fun m e=>by cases e),(fun m e=>by cases e)⟩⟩
        rcases he with ⟨y,rfl⟩ | ⟨y,rfl⟩ | ⟨_,rfl,n,y,z⟩
        · simp only [rck,y] at p
          exact p
        · simp only [rck,y] at p
          exact p
        · simp only [rck,y,if_pos z] at p
          exact p
      | 1,[n0],_,hi =>
        cases hi
        obtain ⟨e0,z0⟩:=q0 n0 rfl
        refine ⟨F1,hF1,fun e he=>?_,fun n en _=>⟨(fun m e=>by cases e; exact ⟨e0,z0⟩),(fun m e=>by cases e; exact en),(fun m e=>by cases e)⟩⟩
        simp only [rck,e0,if_neg z0] at p
        rcases he with ⟨y,rfl⟩ | ⟨y,rfl⟩ | ⟨z,_⟩
        · have y':ev (askW h {w with rk:=w.rk++[F]}) F1=.nought:=y
          simp only [y'] at p
          exact p
        · have y':ev (askW h {w with rk:=w.rk++[F]}) F1=.great:=y
          simp only [y'] at p
          exact p
        · cases z
      | 2,[n0,n1],_,hi =>
        cases hi
        obtain ⟨e0,z0⟩:=q0 n0 rfl
        have e1:=q1 n1 rfl
        have e1':ev (askW h {w with rk:=w.rk++[F]}) F1=.ok n1:=e1
        refine ⟨F2,hF2,fun e he=>?_,fun n en _=>⟨(fun m e=>by cases e; exact ⟨e0,z0⟩),(fun m e=>by cases e; exact e1),(fun m e=>by cases e; exact en)⟩⟩
        simp only [rck,e0,if_neg z0,e1'] at p
        rcases he with ⟨y,rfl⟩ | ⟨y,rfl⟩ | ⟨z,_⟩
        · have y':ev (askW h {w with rk:=w.rk++[F]++[F1]}) F2=.nought:=y
          simp only [y'] at p
          exact p
        · have y':ev (askW h {w with rk:=w.rk++[F]++[F1]}) F2=.great:=y
          simp only [y'] at p
          exact p
        · cases z
      | i + 3,_,_,hi=>simp at hi
    refine gname_i ?_
    dsimp only
    refine seq_i (asg_i ?_)
    refine ⟨_,rfl,_,rfl,_,rfl,kh,_,_,_,rfl,rfl,SqT.of kk1,rfl,_,rfl,x,Fx,bs,qs,L.l,L.bd,L.qd,gl,_,_,askW h w,rfl,g1.hl,hFx.1.same g1.sm,hFx.2,g1.holds (sG _ _ hg),g1.asks,fun G2 s2=>?_⟩
    refine gname_i ?_
    dsimp only
    have sH2:=sG.trans s2
    have g2:=g.same sH2
    cases ee:ev (askW h w) Fx with
    | nought=>exact seq_i ⟨_,rfl,_,"str",_,true,rfl,.str _,kit_ss,_,rfl,iteT ⟨_,rfl,ef _ (.inl ⟨ee,rfl⟩) _ g2.sm⟩⟩
    | great=>exact seq_i ⟨_,rfl,_,"str",_,true,rfl,.str _,kit_ss,_,rfl,iteT ⟨_,rfl,ef _ (.inr (.inl ⟨ee,rfl⟩)) _ g2.sm⟩⟩
    | ok n =>
      refine seq_i ⟨_,rfl,_,"str",_,false,rfl,.int n,kit_is,_,rfl,iteF ?_⟩
      refine next_i ?_
      dsimp only
      have hnm2:=s2 _ _ hnm'
      have l3:nums.length < sizeLine:=by
        have:=(List.getElem?_eq_some_iff.mp hi).1
        have:i < 3:=this
        omega
      have go:(i=0→¬ (n < 1∨10 ^ 6 < n))→_:=eo n ee
      refine seq_i ?_
      refine ⟨_,rfl,nm,_,rfl,.inl (SqL.of hnm2),rfl,_,rfl,?_⟩
      rw [List.length_map,ln]
      by_cases i0:i=0
      · subst i0
        refine iteE (b:=true) (decide_eq_true rfl) (iteT ?_)
        refine ⟨_,rfl,_,_,rfl,rfl,_,rfl,ite2 (fun c=>?_) (fun c=>?_)⟩
        · exact iteT (ef _ (.inr (.inr ⟨rfl,rfl,n,ee,.inl (dec_t c)⟩)) _ g2.sm)
        refine ⟨_,rfl,_,_,rfl,rfl,c6,_,_,rfl,rfl,_,rfl,ite2 (fun c2=>?_) (fun c2=>?_)⟩
        · exact ef _ (.inr (.inr ⟨rfl,rfl,n,ee,.inr (dec_t c2)⟩)) _ g2.sm
        have nn:¬ (n < 1∨10 ^ 6 < n):=fun z=>z.elim (dec_f c) (dec_f c2)
        obtain ⟨a0,a1,a2⟩:=go fun _=>nn
        refine ⟨_,rfl,.inl ⟨rfl,_,SqL.of hnm2⟩,_,rfl,nm,_,_,rfl,rfl,hnm2,by rw [List.length_map]; exact l3,?_⟩
        have eq:nums.map V.int++[V.int n]=(nums++[n]).map V.int:=by rw [List.map_append]; rfl
        exact ⟨nums++[n],_,_,rfl,same_but sH2 hnm _,hv_ne (s2 _ _ hlf') nlf.symm,(by rw [← eq]; exact upd_same),by rw [List.length_append,ln]; rfl,a0,a1,a2⟩
      · refine iteE (b:=false) (decide_eq_false (fun z=>i0 (by have:=int_eq z; omega))) (iteF (iteF ?_))
        obtain ⟨a0,a1,a2⟩:=go fun z=>absurd z i0
        refine ⟨_,rfl,.inl ⟨rfl,_,SqL.of hnm2⟩,_,rfl,nm,_,_,rfl,rfl,hnm2,by rw [List.length_map]; exact l3,?_⟩
        have eq:nums.map V.int++[V.int n]=(nums++[n]).map V.int:=by rw [List.map_append]; rfl
        exact ⟨nums++[n],_,_,rfl,same_but sH2 hnm _,hv_ne (s2 _ _ hlf') nlf.symm,(by rw [← eq]; exact upd_same),by rw [List.length_append,ln]; rfl,a0,a1,a2⟩
  rintro σ G ⟨nums,u7,u8,rfl,sG,hlf',hnm',ln,q0,q1,q2⟩
  obtain ⟨n,x,y,rfl⟩:∃ n x y,nums=[n,x,y]:=by
    match nums,ln with
    | [n,x,y],_=>exact ⟨n,x,y,rfl⟩
  obtain ⟨e0,z0⟩:=q0 n rfl
  have e1:=q1 x rfl
  have e2:=q2 y rfl
  have e1':ev (askW h {w with rk:=w.rk++[F]}) F1=.ok x:=e1
  have e2':ev (askW h {w with rk:=w.rk++[F]++[F1]}) F2=.ok y:=e2
  simp only [rck,e0,if_neg z0,e1',e2'] at p
  have g1:=g.same sG
  have kk1:=g1.sm _ _ hk
  refine seq_i ?_
  refine ⟨_,rfl,kh,_,_,_,rfl,rfl,SqT.of kk1,rfl,_,rfl,nm,_,_,_,rfl,rfl,SqL.of hnm',rfl,_,_,rfl,rfl,_,_,rfl,rfl,c12,_,_,rfl,rfl,_,rfl,ite2 (fun c=>?_) (fun c=>?_)⟩
  · rw [if_pos (show 10 ^ 12 < h.t + n from dec_t c)] at p
    exact p _ g1.sm
  rw [if_neg (show ¬ 10 ^ 12 < h.t + n from dec_f c)] at p
  refine next_i ?_
  dsimp only
  obtain ⟨vs,o1,o2⟩:=g1.hn
  have lv:vs.length < sizeLine:=by
    have z:vs.length=w.out.length:=Paired.length o2
    have:100000 < sizeLine:=by decide
    omega
  refine seq_i ?_
  refine ⟨_,rfl,.inl ⟨rfl,_,SqL.of o1⟩,?_⟩
  refine ⟨_,rfl,kh,_,_,_,rfl,rfl,SqT.of kk1,rfl,_,rfl,nm,_,_,_,rfl,rfl,SqL.of hnm',rfl,_,_,rfl,rfl,_,rfl,t,_,_,_,rfl,rfl,tt g1.sm,rfl,_,rfl,_,rfl,L.l,_,_,_,rfl,rfl,SqL.of g1.hl,rfl,(by show 4≤sizeLine; decide),fun kt hkt=>?_⟩
  have sk:=same_new hkt (.tup [.int (h.t + n),.int rk,.int h.to,.int w.se])
  have g2:=g1.same sk
  refine ⟨_,rfl,t,_,_,_,rfl,rfl,tt g2.sm,rfl,_,rfl,t,_,_,_,rfl,rfl,tt g2.sm,rfl,_,rfl,nm,_,_,_,rfl,rfl,SqL.of (sk _ _ hnm'),rfl,_,rfl,nm,_,_,_,rfl,rfl,SqL.of (sk _ _ hnm'),rfl,lt5,fun et het=>?_⟩
  have se:=same_new het (.tup [.ref kt,.int to,.str sg,.int x,.int y])
  have g3:=g2.same se
  refine ⟨L.nl,vs,_,rfl,rfl,se _ _ (sk _ _ o1),lv,?_⟩
  have g4:=g3.sent (v:=.ref et) (e:=⟨h.t + n,rk,h.to,w.se,to,sg,x,y⟩) (se _ _ (sk _ _ o1)) ⟨et,kt,rfl,upd_same,se _ _ upd_same⟩ ⟨ev_wo g.asks (hF1.1.same g.sm) e1,ev_wo g.asks (hF2.1.same g.sm) e2⟩
  dsimp only
  refine seq_i (asg_i ?_)
  refine ⟨_,rfl,L.l,_,_,_,rfl,rfl,SqL.of g4.hl,rfl,_,_,rfl,rfl,_,rfl,L.l,_,_,3,rfl,rfl,g4.hl,rfl,?_⟩
  have g5:=g4.counts w.dr (w.se + 1)
  exact p _ (g5.pure (w.rk++[F]++[F1]++[F2]) g.ok.nu g.ok.su)
end
end My
namespace My
open PySem L2
section
variable {P:Program} {w:World} {K:PySem.W.Frag} {mg:Str→Option Value} {base:Heap} {f fC fT fS fW:Addr} {fd fdC fdT fdS fdW:FuncData} {bs qs:List Str}
seal L2.PS L2.PSs L2.PE L2.PA L2.PT L2.PW L2.PI L2.PG L2.PGs L2.PC
theorem Rg.putB {H0 G:Hp} {L:RL} {h:Ev} {w:Wk} {tc:List Str} {ws:List V} (g:Rg bs qs H0 G L h w tc ws) {x:Str} {n:Int} (m:x∈bs):DPut G L.bd (.str x) (.int n) (upd G L.bd (.dK (boK (setA w.bx x n)))):=by
  have z:=DPut.k (k:=Sum.inr x) (v:=.int n) g.hb (by
    have:=g.ok.fw
    have:=line1000
    rw [boK_len]
    have e:=congrArg List.length g.ok.kb
    rw [List.length_map] at e
    rw [List.length_append] at *
    omega)
  rw [boK_put (by rw [g.ok.kb]; exact m)] at z
  exact z
theorem Rg.getL {H0 G:Hp} {L:RL} {h:Ev} {w:Wk} {tc:List Str} {ws:List V} (g:Rg bs qs H0 G L h w tc ws) {x:Str} (m:x∈qs):∃ l,L.qa.lookup x=some l∧G l=some (.lst ((getQ w.qu x).map V.int))∧DGet G L.qd (.str x) (some (.ref l)):=by
  obtain ⟨l,h1,h2,_⟩:=g.hqs.at_ (x:=x) (by rw [g.ok.kq]; exact m)
  refine ⟨l,h1,h2,?_⟩
  have z:=DGet.k (k:=Sum.inr x) g.hq
  rw [quK_at h1] at z
  exact z
theorem Rg.wrote {H0 G:Hp} {L:RL} {h:Ev} {w:Wk} {tc:List Str} {ws:List V} (g:Rg bs qs H0 G L h w tc ws) {wr:List Str} (nw:wr.Nodup) (sw:∀ y∈wr,y∈bs++qs) (e:∀ y,y∈wr↔y∈w.wr):Rg bs qs H0 G L h {w with wr:=wr} tc ws:=by
  obtain ⟨kb,kq,nb,nq',wb,wq,_,_,nu,su,wo,fw⟩:=g.ok
  exact ⟨g.sm,g.hl,g.hb,g.hq,g.hqs,g.ht,g.hn,g.hw,g.nd,g.fr,⟨kb,kq,nb,nq',wb,wq,nw,sw,nu,su,wo,fw⟩,g.wt,g.wa,g.wb,fun x hx=>(g.tw x hx).trans (e x).symm,g.te,g.ne⟩
abbrev pDw:List Str:=["_law_deed","_law_state","_law_number","_law_draws"]
def drawR (ds:List Int) (x:Str) (n:Int) (w:Wk):Except Flt Wk:=if n < 1 then .error .nought else if ds=[] then .error .dry else .ok {w with dr:=w.dr + 1,bx:=setA w.bx x (ds.getD (w.dr % ds.length) 0 % n)}
def spDw (bs qs:List Str):Sp:=fun vs H Q _=>∃ (H0:Hp) (L:RL) (h:Ev) (ds:List Int) (w:Wk) (tc:List Str) (ws:List V) (t dl:Addr) (u:V) (x:Str) (n:Int),vs=[.ref t,.ref L.l,.int n,.ref dl]∧Rg bs qs H0 H L h w tc ws∧H0 t=some (.tup [.str "draw",.str x,u])∧H0 dl=some (.lst (ds.map V.int))∧x∈bs∧Wo n∧ds.length≤1000∧PostR (fun w' G'=>Rg bs qs H0 G' L h w' tc ws) H0 (drawR ds x n w) Q
theorem scDw:FnScope pDw pDw (defScope s_law_drawn):=⟨rfl,rfl,rfl,by decide +kernel,rfl,by decide +kernel,by decide +kernel⟩
theorem ok_dw (D:Df K mg "_law_drawn" s_law_drawn pDw f fd) (B:Bl mg):FnOk P w K mg base CX0 1 f fd pDw (spDw bs qs):=by
  refine D.F.ok scDw (fun vs H Q E h=>?_) (fun cdv A outer s H vs Q E hr h=>?_)
  · obtain ⟨H0,L,h,ds,w,tc,ws,t,dl,u,x,n,rfl,_⟩:=h
    rfl
  obtain ⟨H0,L,h,ds,w,tc,ws,t,dl,u,x,n,rfl,g,ht,hd,hx,hn,ld,p⟩:=h
  have hu:=hu_of hr
  refine ⟨_,pss_cons (ps_if (pt_cmpR op_lt (pv 2) pe_int (nomark _)) (pss_one (ps_ret pe_str)) pss_nil)
    (pss_cons (ps_if (pt_cmpR op_eq (pe_callB (call_lenK K (by rfl)) (by rfl) B.len PySem.boot_len (pa_n (pv 3) pa_nil)) pe_int (nomark _)) (pss_one (ps_ret pe_str)) pss_nil)
    (pss_cons (ps_dput hu (pe_ix ix_list (pv 1) pe_int (fun _ _=>rfl)) (pe_ix ix_tup (pv 0) pe_int (fun _ _=>rfl)) (pe_op op_mod (pe_ix ix_list (pv 3) (pe_op op_mod (pe_ix ix_list (pv 1) pe_int (fun _ _=>rfl)) (pe_callB (call_lenK K (by rfl)) (by rfl) B.len PySem.boot_len (pa_n (pv 3) pa_nil))) (fun _ _=>rfl)) (pv 2)) rfl)
    (pss_cons (ps_asg (pe_op op_add (pe_ix ix_list (pv 1) pe_int (fun _ _=>rfl)) pe_int) (pg_sub (pv 1) pe_int set_list))
    (pss_one (ps_ret pe_str))))),?_⟩
  unfold drawR at p
  have tt:=SqT.of (K:=K) (g.sm _ _ ht)
  have hd1:=g.sm _ _ hd
  refine seq_i ?_
  refine ⟨_,rfl,_,_,rfl,rfl,_,rfl,ite2 (fun c=>?_) (fun c=>next_i ?_)⟩
  · rw [if_pos (dec_t c)] at p
    exact p _ g.sm
  have c:¬ n < 1:=dec_f c
  rw [if_neg c] at p
  dsimp only
  refine seq_i ?_
  refine ⟨_,rfl,dl,_,rfl,.inl (SqL.of hd1),rfl,_,rfl,?_⟩
  rw [List.length_map]
  cases hds:ds with
  | nil =>
    rw [hds] at p
    refine iteE (b:=true) (decide_eq_true rfl) (iteT ?_)
    exact p _ g.sm
  | cons d0 dr =>
    rw [← hds]
    have ne:¬ ds=[]:=by rw [hds]; intro z; cases z
    have pos:0 < ds.length:=by rw [hds]; exact Nat.succ_pos _
    rw [if_neg ne] at p
    refine iteE (b:=false) (decide_eq_false (fun z=>by have:=int_eq z; omega)) (iteF (next_i ?_))
    dsimp only
    have lt:w.dr % ds.length < ds.length:=Nat.mod_lt _ pos
    have ix:atI (ds.map V.int) ((w.dr:Int) % (((ds.map V.int).length:Nat):Int))=some (.int (ds.getD (w.dr % ds.length) 0)):=by
      rw [List.length_map,← Int.natCast_emod]
      exact atI_nat (getD_map ds _ lt)
    have wm:Wo (ds.getD (w.dr % ds.length) 0 % n):=by
      have a1:=Int.emod_nonneg (ds.getD (w.dr % ds.length) 0) (show n≠0 by omega)
      have a2:=Int.emod_lt_of_pos (ds.getD (w.dr % ds.length) 0) (show 0 < n by omega)
      unfold Wo at hn ⊢
      omega
    have g1:=g.box (x:=x) wm
    refine seq_i ?_
    refine ⟨_,rfl,_,rfl,L.l,_,_,_,rfl,rfl,SqL.of g.hl,rfl,_,rfl,dl,_,rfl,.inl (SqL.of hd1),_,_,rfl,rfl,(by rw [List.length_map]; omega),dl,_,_,_,rfl,rfl,SqL.of hd1,ix,_,rfl,_,_,rfl,rfl,(by omega),_,rfl,L.l,_,_,_,rfl,rfl,SqL.of g.hl,rfl,_,rfl,t,_,_,_,rfl,rfl,tt,rfl,L.bd,_,rfl,g.putB hx,?_⟩
    dsimp only
    refine seq_i (asg_i ?_)
    refine ⟨_,rfl,L.l,_,_,_,rfl,rfl,SqL.of g1.hl,rfl,_,_,rfl,rfl,_,rfl,L.l,_,_,2,rfl,rfl,g1.hl,rfl,?_⟩
    have g2:=g1.counts (w.dr + 1) w.se
    exact p _ g2
abbrev pOd:List Str:=["_law_deed","_law_state","_law_key","_law_at","_law_got","_law_draws","_law_touched","_law_news","_law_work"]
abbrev nOd:List Str:=pOd++(["_law_one","_law_formula","_law_number"]:List Str)
def PostS (dg:Wk→List V→Hp→Prop) (R:Ds→List V→Prop) (H0:Hp) (ws:List V) (r:Except Flt (Wk×Ds)) (Q:VK):Prop:=match r with
  | .ok p=>∀ G' vs,R p.2 vs→dg p.1 (ws++vs.reverse) G'→Q (.str "") G'
  | .error e=>∀ G',Same H0 G'→Q (.str (wordF e)) G'
def spOd (bs qs:List Str):Sp:=fun vs H Q _=>∃ (H0:Hp) (L:RL) (h:Ev) (ds:List Int) (w:Wk) (tc:List Str) (ws:List V) (v:V) (kh gl dl:Addr) (d:Dd),vs=[v,.ref L.l,.ref kh,.int h.to,.ref gl,.ref dl,.ref L.tl,.ref L.nl,.ref L.wl]∧Rg bs qs H0 H L h w tc ws∧DdIn bs qs H0 d v ∧
  H0 kh=some (.tup [.int h.t,.int h.r,.int h.fr,.int h.c])∧H gl=some (.lst [.int h.a,.int h.b])∧H0 dl=some (.lst (ds.map V.int))∧ds.length≤1000∧w.out.length < 100000∧tc.length < 100000∧ws.length < 100000∧PostS (fun w' ws' G'=>∃ tc':List Str,tc'.length≤tc.length + 2∧Rg bs qs H0 G' L h w' tc' ws') (DsIn bs qs H0) H0 ws (shD h ds d w) Q
theorem scOd:FnScope nOd pOd (defScope s_law_one_deed):=⟨rfl,rfl,rfl,by decide +kernel,rfl,by decide +kernel,by decide +kernel⟩
theorem ok_od (D:Df K mg "_law_one_deed" s_law_one_deed pOd f fd) (DS:Df K mg "_law_sent" s_law_sent pSe2 fS fdS) (DW:Df K mg "_law_drawn" s_law_drawn pDw fW fdW) (DC:Df K mg "_law_comes_to" s_law_comes_to pLR fC fdC) (DT:Df K mg "_law_two" s_law_two ["_law_word","_law_one","_law_other"] fT fdT) (B:Bl mg):FnOk P w K mg base CX0 18 f fd pOd (spOd bs qs):=by
  have GC:FnOk P w K mg base CX0 16 fC fdC pLR (spLR 15):=ok_LR DC DT B 15
  have GS:FnOk P w K mg base CX0 17 fS fdS pSe2 (spSe2 bs qs):=ok_se2 DS DC DT B
  have GW:FnOk P w K mg base CX0 1 fW fdW pDw (spDw bs qs):=ok_dw DW B
  refine D.F.ok scOd (fun vs H Q E h=>?_) (fun cdv A outer s H vs Q E hr h=>?_)
  · obtain ⟨H0,L,h,ds,w,tc,ws,v,kh,gl,dl,d,rfl,_⟩:=h
    rfl
  obtain ⟨H0,L,h,ds,w,tc,ws,v,kh,gl,dl,d,rfl,g,hd,hk,hg,hdl,ld,lo,lt,lw,p⟩:=h
  have hu:=hu_of hr
  have r1:Room 1 _:=hr.mono (by decide)
  have r16:Room 16 _:=hr.mono (by decide)
  have big:200000 < sizeLine:=by decide
  refine ⟨_,pss_cons (ps_if (pt_cmpR op_eq (pe_ix ix_tup (pv 0) pe_int (fun _ _=>rfl)) pe_str (nomark _)) (pss_cons (ps_expr (pe_bm PySem.F.plainAttrs_list PySem.F.slot_list_append PySem.F.type_list_append mt_append (pv 6) (pa_c pe_str pa_nil)))
    (pss_one (ps_ret pe_str))) pss_nil)
    (pss_cons (ps_if (pt_cmpR op_eq (pe_ix ix_tup (pv 0) pe_int (fun _ _=>rfl)) pe_str (nomark _)) (pss_one (ps_ret (pe_call GS hr (by rfl) DS.m DS.F.kp DS.b .nil pass0 (pa_n (pv 0) (pa_n (pv 1) (pa_n (pv 2) (pa_n (pv 3) (pa_n (pv 4) (pa_n (pv 7) pa_nil))))))))) pss_nil)
    (pss_cons (ps_if (pt_cmpR op_eq (pe_ix ix_tup (pv 0) pe_int (fun _ _=>rfl)) pe_str (nomark _)) (pss_cons (ps_if (pt_cmpR op_eq (pe_callB (call_lenK K (by rfl)) (by rfl) B.len PySem.boot_len (pa_cons (pe_dget hu (pe_ix ix_list (pv 1) pe_int (fun _ _=>rfl)) (pe_ix ix_tup (pv 0) pe_int (fun _ _=>rfl)) (fun _ _=>rfl)) pa_nil)) pe_int (nomark _)) (pss_one (ps_for PassesOwn.never rfl (pi_list (pe_rev (pe_ix ix_tup (pv 0) pe_int (fun _ _=>rfl)) (po_some (pe_un un_neg pe_int)))) (pg_name (i:=9) scOd.nd rfl (Or.inl rfl)) (pss_one (ps_expr (pe_bm PySem.F.plainAttrs_list PySem.F.slot_list_append PySem.F.type_list_append mt_append (pv 8) (pa_n (pv 9) pa_nil)))))) (pss_cons (ps_dput hu (pe_ix ix_list (pv 1) pe_int (fun _ _=>rfl)) (pe_ix ix_tup (pv 0) pe_int (fun _ _=>rfl)) (pe_bm PySem.F.plainAttrs_list PySem.F.slot_list_pop PySem.F.type_list_pop mt_popAt (pe_dget hu (pe_ix ix_list (pv 1) pe_int (fun _ _=>rfl)) (pe_ix ix_tup (pv 0) pe_int (fun _ _=>rfl)) (fun _ _=>rfl)) (pa_cons pe_int pa_nil)) rfl)
    (pss_cons (ps_expr (pe_bm PySem.F.plainAttrs_list PySem.F.slot_list_append PySem.F.type_list_append mt_append (pv 6) (pa_s (pe_ix ix_tup (pv 0) pe_int (fun _ _=>rfl)) pa_nil)))
    (pss_one (ps_expr (pe_bm PySem.F.plainAttrs_list PySem.F.slot_list_append PySem.F.type_list_append mt_append (pv 6) (pa_s (pe_ix ix_tup (pv 0) pe_int (fun _ _=>rfl)) pa_nil)))))))
    (pss_one (ps_ret pe_str))) pss_nil)
    (pss_cons (ps_set (i:=10) scOd.nd rfl (Or.inl rfl) (pe_ix ix_tup (pv 0) pe_int (fun _ _=>rfl)))
    (pss_cons (ps_if (pt_cmpR op_eq (pe_ix ix_tup (pv 0) pe_int (fun _ _=>rfl)) pe_str (nomark _)) (pss_one (ps_set (i:=10) scOd.nd rfl (Or.inl rfl) (pe_ix ix_tup (pv 0) pe_int (fun _ _=>rfl)))) pss_nil)
    (pss_cons (ps_set (i:=11) scOd.nd rfl (Or.inl rfl) (pe_call GC r16 (by rfl) DC.m DC.F.kp DC.b .nil pass0 (pa_n (pv 10) (pa_n (pv 1) (pa_s (pe_ix ix_tup (pv 2) pe_int (fun _ _=>rfl)) (pa_n (pv 4) pa_nil))))))
    (pss_cons (ps_if (pt_val (pe_callB call_isinst (by rfl) B.isi boot_isi (pa_cons (pv 11) (pa_cons (pe_bltn (v:=.ty "str") (by rfl) B.str boot_str rfl) pa_nil)))) (pss_one (ps_ret (pv 11))) pss_nil)
    (pss_cons (ps_if (pt_cmpR op_eq (pe_ix ix_tup (pv 0) pe_int (fun _ _=>rfl)) pe_str (nomark _)) (pss_cons (ps_for PassesOwn.never rfl (pi_list (pe_rev (pe_ix ix_tup (pv 0) (pe_op op_add pe_int (pe_callTy call_int1 (by rfl) B.int boot_int (pa_cons (pe_cmpR op_eq (pv 11) pe_int (nomark _)) pa_nil))) (fun _ _=>rfl)) (po_some (pe_un un_neg pe_int)))) (pg_name (i:=9) scOd.nd rfl (Or.inl rfl)) (pss_one (ps_expr (pe_bm PySem.F.plainAttrs_list PySem.F.slot_list_append PySem.F.type_list_append mt_append (pv 8) (pa_n (pv 9) pa_nil)))))
    (pss_one (ps_ret pe_str))) pss_nil)
    (pss_cons (ps_expr (pe_bm PySem.F.plainAttrs_list PySem.F.slot_list_append PySem.F.type_list_append mt_append (pv 6) (pa_s (pe_ix ix_tup (pv 0) pe_int (fun _ _=>rfl)) pa_nil)))
    (pss_cons (ps_if (pt_cmpR op_eq (pe_ix ix_tup (pv 0) pe_int (fun _ _=>rfl)) pe_str (nomark _)) (pss_one (ps_ret (pe_call GW r1 (by rfl) DW.m DW.F.kp DW.b .nil pass0 (pa_n (pv 0) (pa_n (pv 1) (pa_n (pv 11) (pa_n (pv 5) pa_nil))))))) pss_nil)
    (pss_cons (ps_if (pt_cmpR op_eq (pe_ix ix_tup (pv 0) pe_int (fun _ _=>rfl)) pe_str (nomark _)) (pss_cons (ps_dput hu (pe_ix ix_list (pv 1) pe_int (fun _ _=>rfl)) (pe_ix ix_tup (pv 0) pe_int (fun _ _=>rfl)) (pv 11) rfl)
    (pss_one (ps_ret pe_str))) pss_nil)
    (pss_cons (ps_if (pt_cmpR op_eq (pe_callB (call_lenK K (by rfl)) (by rfl) B.len PySem.boot_len (pa_cons (pe_dget hu (pe_ix ix_list (pv 1) pe_int (fun _ _=>rfl)) (pe_ix ix_tup (pv 0) pe_int (fun _ _=>rfl)) (fun _ _=>rfl)) pa_nil)) pe_int (nomark _)) (pss_one (ps_ret pe_str)) pss_nil)
    (pss_cons (ps_expr (pe_bm PySem.F.plainAttrs_list PySem.F.slot_list_append PySem.F.type_list_append mt_append (pe_dget hu (pe_ix ix_list (pv 1) pe_int (fun _ _=>rfl)) (pe_ix ix_tup (pv 0) pe_int (fun _ _=>rfl)) (fun _ _=>rfl)) (pa_n (pv 11) pa_nil)))
    (pss_one (ps_ret pe_str)))))))))))))),?_⟩
  have nx:∀ {a b:Str} {p1 p2:Prop},(a == b)=false→p2→(if decide (V.str a=V.str b)=true then p1 else p2):=fun z q=>iteE (strF (sne z)) (iteF q)
  have yx:∀ {a:Str} {p1 p2:Prop},p1→(if decide (V.str a=V.str a)=true then p1 else p2):=fun q=>iteE (strT _) (iteT q)
  have kk1:=g.sm _ _ hk
  have hdl1:=g.sm _ _ hdl
  have none:DsIn bs qs H0 .nil []:=by simp only [DsIn]
  cases d with
  | fin =>
    obtain ⟨t,rfl,ht⟩:=(by simpa only [DdIn] using hd)
    have tt:=SqT.of (K:=K) (g.sm _ _ ht)
    simp only [shD,doD] at p
    refine seq_i ⟨_,rfl,t,_,_,_,rfl,rfl,tt,rfl,rfl,_,rfl,yx ?_⟩
    refine seq_i ?_
    refine ⟨_,rfl,.inl ⟨rfl,_,SqL.of g.ht⟩,L.tl,_,_,rfl,rfl,g.ht,by rw [List.length_map]; omega,?_⟩
    have g1:=g.ended
    have eq:tc.map V.str++[V.str "the end"]=(tc++[("the end":Str)]).map V.str:=by rw [List.map_append]; rfl
    rw [← eq] at g1
    exact p _ [] none ⟨tc++[("the end":Str)],by rw [List.length_append]; exact Nat.add_le_add_left (show 1≤2 by decide) _,by rw [List.reverse_nil,List.append_nil]; exact g1⟩
  | send to sg F rk F1 F2 =>
    obtain ⟨t,u,u1,u2,rfl,ht,hF,hF1,hF2⟩:=(by simpa only [DdIn] using hd)
    have tt:=SqT.of (K:=K) (g.sm _ _ ht)
    simp only [shD] at p
    refine seq_i ⟨_,rfl,t,_,_,_,rfl,rfl,tt,rfl,rfl,_,rfl,nx (by decide +kernel) (next_i ?_)⟩
    dsimp only
    refine seq_i ⟨_,rfl,t,_,_,_,rfl,rfl,tt,rfl,rfl,_,rfl,yx ?_⟩
    refine ret_i ?_
    refine ⟨_,rfl,_,rfl,_,rfl,_,rfl,_,rfl,_,rfl,H0,L,h,ds,w,tc,ws,t,kh,gl,u,u1,u2,to,sg,rk,F,F1,F2,rfl,g,ht,hk,hg,hF,hF1,hF2,lo,?_⟩
    cases e:doD h ds (.send to sg F rk F1 F2) w with
    | ok w' =>
      rw [e] at p
      exact fun G' g'=>p G' [] none ⟨tc,by omega,by rw [List.reverse_nil,List.append_nil]; exact g'⟩
    | error er =>
      rw [e] at p
      exact p
  | pull q x o =>
    obtain ⟨t,u,rfl,ht,hq,hx,l,vs,rfl,hl,lv,hD⟩:=(by simpa only [DdIn] using hd)
    have tt:=SqT.of (K:=K) (g.sm _ _ ht)
    simp only [shD] at p
    refine seq_i ⟨_,rfl,t,_,_,_,rfl,rfl,tt,rfl,rfl,_,rfl,nx (by decide +kernel) (next_i ?_)⟩
    dsimp only
    refine seq_i ⟨_,rfl,t,_,_,_,rfl,rfl,tt,rfl,rfl,_,rfl,nx (by decide +kernel) (next_i ?_)⟩
    dsimp only
    refine seq_i ⟨_,rfl,t,_,_,_,rfl,rfl,tt,rfl,rfl,_,rfl,yx ?_⟩
    obtain ⟨lq,a1,a2,a3⟩:=g.getL hq
    have gq:=getQ_ok g.ok hq
    refine seq_i ?_
    refine ⟨_,rfl,L.l,_,_,_,rfl,rfl,SqL.of g.hl,rfl,_,rfl,t,_,_,_,rfl,rfl,tt,rfl,L.qd,_,rfl,a3,lq,_,rfl,.inl (SqL.of a2),rfl,_,rfl,?_⟩
    rw [List.length_map]
    cases e1:getQ w.qu q with
    | nil =>
      rw [e1] at p
      refine iteE (b:=true) (decide_eq_true rfl) (iteT ?_)
      refine ⟨_,rfl,t,_,_,_,rfl,rfl,tt,rfl,_,rfl,_,rfl,rfl,l,vs,rfl,SqL.of (g.sm _ _ hl),fun pr hpr=>?_⟩
      have sp:=same_new hpr (.lst vs.reverse)
      refine ⟨pr,rfl,⟨_,SqL.of upd_same⟩,for_list (K:=K) (a:=pr) (xs:=vs.reverse) (fun i σ G=>∃ u9 u10 u11:Option V,σ=[some (.ref t),some (.ref L.l),some (.ref kh),some (.int h.to),some (.ref gl),some (.ref dl),some (.ref L.tl),some (.ref L.nl),some (.ref L.wl),u9,u10,u11]∧Rg bs qs H0 G L h w tc (ws++vs.reverse.take i)∧G pr=some (.lst vs.reverse))
        ⟨_,_,_,rfl,by rw [List.take_zero,List.append_nil]; exact g.same sp,upd_same⟩ ?_ ?_ ?_⟩
      · rintro i σ G _ ⟨_,_,_,rfl,_,h2⟩
        exact SqL.of h2
      · rintro i x σ G hi ⟨u9,u10,u11,rfl,g1,h2⟩
        have li:=(List.getElem?_eq_some_iff.mp hi).1
        rw [List.length_reverse] at li
        have ll:(ws++vs.reverse.take i).length < sizeLine:=by
          rw [List.length_append,List.length_take]
          omega
        refine ⟨_,rfl,.inl ⟨rfl,_,SqL.of g1.hw⟩,_,rfl,L.wl,_,_,rfl,rfl,g1.hw,ll,?_⟩
        have npr:pr≠L.wl:=fun z=>by
          have y:=g.hw
          rw [← z,hpr] at y
          cases y
        refine ⟨_,_,_,rfl,?_,hv_ne h2 npr⟩
        rw [List.take_add_one,hi,← List.append_assoc]
        exact g1.work _
      · rintro σ G ⟨u9,u10,u11,rfl,g1,_⟩
        rw [List.take_length] at g1
        refine p G vs hD ⟨tc,by omega,?_⟩
        have z:=g1.pure w.rk (addS_nd (x:=q) g1.ok.nu) (fun y hy=>by
          rcases addS_mem hy with e | e
          · exact g1.ok.su y e
          · rw [e]
            exact List.mem_append_right _ hq)
        exact z
    | cons m ms =>
      rw [e1] at p a2 gq
      refine iteE (b:=false) (decide_eq_false (fun z=>by have:=int_eq z; rw [List.length_cons] at this; omega)) (iteF ?_)
      have g1:=g.queue (x:=q) (l:=lq) (ns:=ms) a1 (by have:=gq.1; rw [List.length_cons] at this; omega) (fun z hz=>gq.2 z (List.mem_cons_of_mem _ hz))
      have g2:=g1.box (x:=x) (gq.2 m List.mem_cons_self)
      refine seq_i ?_
      refine ⟨_,rfl,L.l,_,_,_,rfl,rfl,SqL.of g.hl,rfl,_,rfl,t,_,_,_,rfl,rfl,tt,rfl,L.qd,_,rfl,a3,.inl ⟨rfl,_,SqL.of a2⟩,lq,_,_,0,.int m,rfl,rfl,a2,(by decide),(by decide),(ixN_seq (n:=((m :: ms).map V.int).length) (i:=0) (j:=0) (by unfold ixN; rw [if_pos (by decide),if_pos (by rw [List.length_map,List.length_cons]; omega)]; rfl)).1,rfl,?_⟩
      refine ⟨_,rfl,L.l,_,_,_,rfl,rfl,SqL.of g1.hl,rfl,_,rfl,t,_,_,_,rfl,rfl,SqT.of (g1.sm _ _ ht),rfl,L.bd,_,rfl,g1.putB hx,?_⟩
      dsimp only
      refine seq_i ?_
      refine ⟨_,rfl,.inl ⟨rfl,_,SqL.of g2.ht⟩,_,rfl,t,_,_,_,rfl,rfl,SqT.of (g2.sm _ _ ht),rfl,L.tl,_,_,rfl,rfl,g2.ht,by rw [List.length_map]; omega,?_⟩
      have g3:=g2.touch (x:=q) (List.mem_append_right _ hq)
      have eq:tc.map V.str++[V.str q]=(tc++[q]).map V.str:=by rw [List.map_append]; rfl
      rw [← eq] at g3
      have ht3:upd (upd (upd H lq (.lst (ms.map V.int))) L.bd (.dK (boK (setA w.bx x m)))) L.tl (.lst (tc.map V.str++[V.str q])) L.tl=some (.lst ((tc++[q]).map V.str)):=by rw [← eq]; exact upd_same
      dsimp only
      refine ⟨_,rfl,.inl ⟨rfl,_,SqL.of ht3⟩,_,rfl,t,_,_,_,rfl,rfl,SqT.of (g3.sm _ _ ht),rfl,L.tl,_,_,rfl,rfl,ht3,by rw [List.length_map,List.length_append]; exact Nat.lt_of_le_of_lt (Nat.add_le_add_right (Nat.le_of_lt lt) _) (by show 100000 + 1 < sizeLine; decide),?_⟩
      have g4:=g3.touch (x:=x) (List.mem_append_left _ hx)
      have eq2:(tc++[q]).map V.str++[V.str x]=(tc++[q]++[x]).map V.str:=by rw [List.map_append (l₁:=tc++[q])]; rfl
      rw [← eq2] at g4
      have sw:∀ y∈addS (addS w.wr x) q,y∈bs++qs:=fun y hy=>by
        rcases addS_mem hy with e | e
        · rcases addS_mem e with e | e
          · exact g.ok.sw y e
          · rw [e]
            exact List.mem_append_left _ hx
        · rw [e]
          exact List.mem_append_right _ hq
      have nq:(addS w.qn q).Nodup:=addS_nd g.ok.nu
      have sq:∀ y∈addS w.qn q,y∈bs++qs:=fun y hy=>by
        rcases addS_mem hy with e | e
        · exact g.ok.su y e
        · rw [e]
          exact List.mem_append_right _ hq
      have g5:=(g4.pure w.rk nq sq).wrote (wr:=addS (addS w.wr x) q) (addS_nd (addS_nd g.ok.nw)) sw (fun y=>by
        show y∈addS (addS w.wr x) q↔y∈addS (addS w.wr q) x
        rw [mem_addS,mem_addS,mem_addS,mem_addS]
        exact ⟨fun z=>z.elim (fun z=>z.elim (fun z=>.inl (.inl z)) .inr) (fun z=>.inl (.inr z)),fun z=>z.elim (fun z=>z.elim (fun z=>.inl (.inl z)) .inr) (fun z=>.inl (.inr z))⟩)
      exact p _ [] none ⟨tc++[q]++[x],by rw [List.length_append,List.length_append]; exact Nat.le_refl _,by rw [List.reverse_nil,List.append_nil]; exact g5⟩
  | put x F =>
    obtain ⟨t,u,rfl,ht,hx,hF⟩:=(by simpa only [DdIn] using hd)
    have tt:=SqT.of (K:=K) (g.sm _ _ ht)
    have hxx:x∈bs++qs:=List.mem_append_left _ hx
    simp only [shD,doD,rck] at p
    refine seq_i ⟨_,rfl,t,_,_,_,rfl,rfl,tt,rfl,rfl,_,rfl,nx (by decide +kernel) (next_i ?_)⟩
    dsimp only
    refine seq_i ⟨_,rfl,t,_,_,_,rfl,rfl,tt,rfl,rfl,_,rfl,nx (by decide +kernel) (next_i ?_)⟩
    dsimp only
    refine seq_i ⟨_,rfl,t,_,_,_,rfl,rfl,tt,rfl,rfl,_,rfl,nx (by decide +kernel) (next_i ?_)⟩
    dsimp only
    refine seq_i (asg_i ?_)
    refine ⟨_,rfl,t,_,_,_,rfl,rfl,tt,rfl,?_⟩
    refine gname_i ?_
    dsimp only
    refine seq_i ⟨_,rfl,t,_,_,_,rfl,rfl,tt,rfl,rfl,_,rfl,nx (by decide +kernel) (next_i ?_)⟩
    dsimp only
    refine seq_i (asg_i ?_)
    refine ⟨_,rfl,_,rfl,_,rfl,kh,_,_,_,rfl,rfl,SqT.of kk1,rfl,_,rfl,u,F,bs,qs,L.l,L.bd,L.qd,gl,_,_,askW h w,rfl,g.hl,hF.1.same g.sm,hF.2,g.holds hg,g.asks,fun G1 s1=>?_⟩
    refine gname_i ?_
    dsimp only
    have g0:=g.same s1
    have tt:=SqT.of (K:=K) (g0.sm _ _ ht)
    have hdl1:=g0.sm _ _ hdl
    cases ee:ev (askW h w) F with
    | nought =>
      rw [ee] at p
      exact seq_i ⟨_,rfl,_,"str",_,true,rfl,.str _,kit_ss,_,rfl,iteT ⟨_,rfl,p _ g0.sm⟩⟩
    | great =>
      rw [ee] at p
      exact seq_i ⟨_,rfl,_,"str",_,true,rfl,.str _,kit_ss,_,rfl,iteT ⟨_,rfl,p _ g0.sm⟩⟩
    | ok n =>
    rw [ee] at p
    dsimp only at p
    have wn:Wo n:=ev_wo g.asks (hF.1.same g.sm) ee
    refine seq_i ⟨_,rfl,_,"str",_,false,rfl,.int n,kit_is,_,rfl,iteF (next_i ?_)⟩
    dsimp only
    refine seq_i ⟨_,rfl,t,_,_,_,rfl,rfl,tt,rfl,rfl,_,rfl,nx (by decide +kernel) (next_i ?_)⟩
    dsimp only
    refine seq_i ?_
    refine ⟨_,rfl,.inl ⟨rfl,_,SqL.of g0.ht⟩,_,rfl,t,_,_,_,rfl,rfl,tt,rfl,L.tl,_,_,rfl,rfl,g0.ht,by rw [List.length_map]; omega,?_⟩
    have g1:=g0.touch (x:=x) hxx
    have eq:tc.map V.str++[V.str x]=(tc++[x]).map V.str:=by rw [List.map_append]; rfl
    rw [← eq] at g1
    have tt:=SqT.of (K:=K) (g1.sm _ _ ht)
    have hdl1:=g1.sm _ _ hdl
    dsimp only
    have l2:(tc++[x]).length≤tc.length + 2:=by rw [List.length_append]; exact Nat.add_le_add_left (show 1≤2 by decide) _
    refine seq_i ⟨_,rfl,t,_,_,_,rfl,rfl,tt,rfl,rfl,_,rfl,nx (by decide +kernel) (next_i ?_)⟩
    dsimp only
    refine seq_i ⟨_,rfl,t,_,_,_,rfl,rfl,tt,rfl,rfl,_,rfl,yx ?_⟩
    refine seq_i ?_
    refine ⟨_,rfl,_,rfl,L.l,_,_,_,rfl,rfl,SqL.of g1.hl,rfl,_,rfl,t,_,_,_,rfl,rfl,tt,rfl,L.bd,_,rfl,g1.putB hx,?_⟩
    have g2:=g1.box (x:=x) wn
    exact p _ [] none ⟨_,l2,by rw [List.reverse_nil,List.append_nil]; exact g2.pure (w.rk++[F]) g.ok.nu g.ok.su⟩
  | push x F =>
    obtain ⟨t,u,rfl,ht,hx,hF⟩:=(by simpa only [DdIn] using hd)
    have tt:=SqT.of (K:=K) (g.sm _ _ ht)
    have hxx:x∈bs++qs:=List.mem_append_right _ hx
    simp only [shD,doD,rck] at p
    refine seq_i ⟨_,rfl,t,_,_,_,rfl,rfl,tt,rfl,rfl,_,rfl,nx (by decide +kernel) (next_i ?_)⟩
    dsimp only
    refine seq_i ⟨_,rfl,t,_,_,_,rfl,rfl,tt,rfl,rfl,_,rfl,nx (by decide +kernel) (next_i ?_)⟩
    dsimp only
    refine seq_i ⟨_,rfl,t,_,_,_,rfl,rfl,tt,rfl,rfl,_,rfl,nx (by decide +kernel) (next_i ?_)⟩
    dsimp only
    refine seq_i (asg_i ?_)
    refine ⟨_,rfl,t,_,_,_,rfl,rfl,tt,rfl,?_⟩
    refine gname_i ?_
    dsimp only
    refine seq_i ⟨_,rfl,t,_,_,_,rfl,rfl,tt,rfl,rfl,_,rfl,nx (by decide +kernel) (next_i ?_)⟩
    dsimp only
    refine seq_i (asg_i ?_)
    refine ⟨_,rfl,_,rfl,_,rfl,kh,_,_,_,rfl,rfl,SqT.of kk1,rfl,_,rfl,u,F,bs,qs,L.l,L.bd,L.qd,gl,_,_,askW h w,rfl,g.hl,hF.1.same g.sm,hF.2,g.holds hg,g.asks,fun G1 s1=>?_⟩
    refine gname_i ?_
    dsimp only
    have g0:=g.same s1
    have tt:=SqT.of (K:=K) (g0.sm _ _ ht)
    have hdl1:=g0.sm _ _ hdl
    cases ee:ev (askW h w) F with
    | nought =>
      rw [ee] at p
      exact seq_i ⟨_,rfl,_,"str",_,true,rfl,.str _,kit_ss,_,rfl,iteT ⟨_,rfl,p _ g0.sm⟩⟩
    | great =>
      rw [ee] at p
      exact seq_i ⟨_,rfl,_,"str",_,true,rfl,.str _,kit_ss,_,rfl,iteT ⟨_,rfl,p _ g0.sm⟩⟩
    | ok n =>
    rw [ee] at p
    dsimp only at p
    have wn:Wo n:=ev_wo g.asks (hF.1.same g.sm) ee
    refine seq_i ⟨_,rfl,_,"str",_,false,rfl,.int n,kit_is,_,rfl,iteF (next_i ?_)⟩
    dsimp only
    refine seq_i ⟨_,rfl,t,_,_,_,rfl,rfl,tt,rfl,rfl,_,rfl,nx (by decide +kernel) (next_i ?_)⟩
    dsimp only
    refine seq_i ?_
    refine ⟨_,rfl,.inl ⟨rfl,_,SqL.of g0.ht⟩,_,rfl,t,_,_,_,rfl,rfl,tt,rfl,L.tl,_,_,rfl,rfl,g0.ht,by rw [List.length_map]; omega,?_⟩
    have g1:=g0.touch (x:=x) hxx
    have eq:tc.map V.str++[V.str x]=(tc++[x]).map V.str:=by rw [List.map_append]; rfl
    rw [← eq] at g1
    have tt:=SqT.of (K:=K) (g1.sm _ _ ht)
    have hdl1:=g1.sm _ _ hdl
    dsimp only
    have l2:(tc++[x]).length≤tc.length + 2:=by rw [List.length_append]; exact Nat.add_le_add_left (show 1≤2 by decide) _
    refine seq_i ⟨_,rfl,t,_,_,_,rfl,rfl,tt,rfl,rfl,_,rfl,nx (by decide +kernel) (next_i ?_)⟩
    dsimp only
    refine seq_i ⟨_,rfl,t,_,_,_,rfl,rfl,tt,rfl,rfl,_,rfl,nx (by decide +kernel) (next_i ?_)⟩
    dsimp only
    obtain ⟨lq,a1,a2,a3⟩:=g1.getL hx
    have gq:=getQ_ok g.ok hx
    refine seq_i ?_
    refine ⟨_,rfl,L.l,_,_,_,rfl,rfl,SqL.of g1.hl,rfl,_,rfl,t,_,_,_,rfl,rfl,tt,rfl,L.qd,_,rfl,a3,lq,_,rfl,.inl (SqL.of a2),rfl,_,rfl,?_⟩
    rw [List.length_map]
    by_cases c:(getQ w.qu x).length=30
    · rw [if_pos (by omega)] at p
      refine iteE (b:=true) (decide_eq_true (by show V.int (((getQ w.qu x).length:Nat):Int)=V.int 30; rw [c]; rfl)) (iteT ?_)
      exact p _ g1.sm
    · have cc:¬ 30≤(getQ w.qu x).length:=by
        have:=gq.1
        omega
      rw [if_neg cc] at p
      refine iteE (b:=false) (decide_eq_false (fun z=>c (by have z2:=int_eq z; have z3:(((getQ w.qu x).length:Nat):Int)=30:=z2; omega))) (iteF (next_i ?_))
      dsimp only
      refine seq_i ?_
      refine ⟨_,rfl,L.l,_,_,_,rfl,rfl,SqL.of g1.hl,rfl,_,rfl,t,_,_,_,rfl,rfl,tt,rfl,L.qd,_,rfl,a3,.inl ⟨rfl,_,SqL.of a2⟩,_,rfl,lq,_,_,rfl,rfl,a2,by rw [List.length_map]; exact Nat.lt_of_le_of_lt gq.1 (by decide),?_⟩
      have g2:=g1.queue (x:=x) (l:=lq) (ns:=getQ w.qu x++[n]) a1 (by rw [List.length_append]; simp only [List.length_cons,List.length_nil]; omega) (fun m hm=>by
        rcases List.mem_append.mp hm with z | z
        · exact gq.2 m z
        · rw [List.mem_singleton.mp z]
          exact wn)
      have eq3:(getQ w.qu x).map V.int++[V.int n]=(getQ w.qu x++[n]).map V.int:=by rw [List.map_append]; rfl
      rw [← eq3] at g2
      exact p _ [] none ⟨_,l2,by rw [List.reverse_nil,List.append_nil]; exact g2.pure (w.rk++[F]) (qn:=addS w.qn x) (addS_nd g.ok.nu) (fun y hy=>by
        rcases addS_mem hy with e | e
        · exact g.ok.su y e
        · rw [e]
          exact hxx)⟩
  | draw x F =>
    obtain ⟨t,u,rfl,ht,hx,hF⟩:=(by simpa only [DdIn] using hd)
    have tt:=SqT.of (K:=K) (g.sm _ _ ht)
    have hxx:x∈bs++qs:=List.mem_append_left _ hx
    simp only [shD,doD,rck] at p
    refine seq_i ⟨_,rfl,t,_,_,_,rfl,rfl,tt,rfl,rfl,_,rfl,nx (by decide +kernel) (next_i ?_)⟩
    dsimp only
    refine seq_i ⟨_,rfl,t,_,_,_,rfl,rfl,tt,rfl,rfl,_,rfl,nx (by decide +kernel) (next_i ?_)⟩
    dsimp only
    refine seq_i ⟨_,rfl,t,_,_,_,rfl,rfl,tt,rfl,rfl,_,rfl,nx (by decide +kernel) (next_i ?_)⟩
    dsimp only
    refine seq_i (asg_i ?_)
    refine ⟨_,rfl,t,_,_,_,rfl,rfl,tt,rfl,?_⟩
    refine gname_i ?_
    dsimp only
    refine seq_i ⟨_,rfl,t,_,_,_,rfl,rfl,tt,rfl,rfl,_,rfl,nx (by decide +kernel) (next_i ?_)⟩
    dsimp only
    refine seq_i (asg_i ?_)
    refine ⟨_,rfl,_,rfl,_,rfl,kh,_,_,_,rfl,rfl,SqT.of kk1,rfl,_,rfl,u,F,bs,qs,L.l,L.bd,L.qd,gl,_,_,askW h w,rfl,g.hl,hF.1.same g.sm,hF.2,g.holds hg,g.asks,fun G1 s1=>?_⟩
    refine gname_i ?_
    dsimp only
    have g0:=g.same s1
    have tt:=SqT.of (K:=K) (g0.sm _ _ ht)
    have hdl1:=g0.sm _ _ hdl
    cases ee:ev (askW h w) F with
    | nought =>
      rw [ee] at p
      exact seq_i ⟨_,rfl,_,"str",_,true,rfl,.str _,kit_ss,_,rfl,iteT ⟨_,rfl,p _ g0.sm⟩⟩
    | great =>
      rw [ee] at p
      exact seq_i ⟨_,rfl,_,"str",_,true,rfl,.str _,kit_ss,_,rfl,iteT ⟨_,rfl,p _ g0.sm⟩⟩
    | ok n =>
    rw [ee] at p
    dsimp only at p
    have wn:Wo n:=ev_wo g.asks (hF.1.same g.sm) ee
    refine seq_i ⟨_,rfl,_,"str",_,false,rfl,.int n,kit_is,_,rfl,iteF (next_i ?_)⟩
    dsimp only
    refine seq_i ⟨_,rfl,t,_,_,_,rfl,rfl,tt,rfl,rfl,_,rfl,nx (by decide +kernel) (next_i ?_)⟩
    dsimp only
    refine seq_i ?_
    refine ⟨_,rfl,.inl ⟨rfl,_,SqL.of g0.ht⟩,_,rfl,t,_,_,_,rfl,rfl,tt,rfl,L.tl,_,_,rfl,rfl,g0.ht,by rw [List.length_map]; omega,?_⟩
    have g1:=g0.touch (x:=x) hxx
    have eq:tc.map V.str++[V.str x]=(tc++[x]).map V.str:=by rw [List.map_append]; rfl
    rw [← eq] at g1
    have tt:=SqT.of (K:=K) (g1.sm _ _ ht)
    have hdl1:=g1.sm _ _ hdl
    dsimp only
    have l2:(tc++[x]).length≤tc.length + 2:=by rw [List.length_append]; exact Nat.add_le_add_left (show 1≤2 by decide) _
    refine seq_i ⟨_,rfl,t,_,_,_,rfl,rfl,tt,rfl,rfl,_,rfl,yx ?_⟩
    refine ret_i ?_
    refine ⟨_,rfl,_,rfl,_,rfl,_,rfl,H0,L,h,ds,_,_,_,t,dl,u,x,n,rfl,g1,ht,hdl,hx,wn,ld,?_⟩
    unfold drawR
    by_cases c1:n < 1
    · rw [if_pos c1] at p ⊢
      exact p
    · rw [if_neg c1] at p ⊢
      by_cases c2:ds=[]
      · rw [if_pos c2] at p ⊢
        exact p
      · rw [if_neg c2] at p ⊢
        exact fun G' g'=>p G' [] none ⟨_,l2,by rw [List.reverse_nil,List.append_nil]; exact g'.pure (w.rk++[F]) g.ok.nu g.ok.su⟩
  | ife F a b =>
    obtain ⟨t,u,u1,u2,rfl,ht,hF,hX,hY⟩:=(by simpa only [DdIn] using hd)
    have tt:=SqT.of (K:=K) (g.sm _ _ ht)
    simp only [shD] at p
    refine seq_i ⟨_,rfl,t,_,_,_,rfl,rfl,tt,rfl,rfl,_,rfl,nx (by decide +kernel) (next_i ?_)⟩
    dsimp only
    refine seq_i ⟨_,rfl,t,_,_,_,rfl,rfl,tt,rfl,rfl,_,rfl,nx (by decide +kernel) (next_i ?_)⟩
    dsimp only
    refine seq_i ⟨_,rfl,t,_,_,_,rfl,rfl,tt,rfl,rfl,_,rfl,nx (by decide +kernel) (next_i ?_)⟩
    dsimp only
    refine seq_i (asg_i ?_)
    refine ⟨_,rfl,t,_,_,_,rfl,rfl,tt,rfl,?_⟩
    refine gname_i ?_
    dsimp only
    refine seq_i ⟨_,rfl,t,_,_,_,rfl,rfl,tt,rfl,rfl,_,rfl,yx ?_⟩
    refine asg_i ?_
    refine ⟨_,rfl,t,_,_,_,rfl,rfl,tt,rfl,?_⟩
    refine gname_i ?_
    dsimp only
    refine seq_i (asg_i ?_)
    refine ⟨_,rfl,_,rfl,_,rfl,kh,_,_,_,rfl,rfl,SqT.of kk1,rfl,_,rfl,u,F,bs,qs,L.l,L.bd,L.qd,gl,_,_,askW h w,rfl,g.hl,hF.1.same g.sm,hF.2,g.holds hg,g.asks,fun G1 s1=>?_⟩
    refine gname_i ?_
    dsimp only
    have g0:=g.same s1
    have tt:=SqT.of (K:=K) (g0.sm _ _ ht)
    have hdl1:=g0.sm _ _ hdl
    cases ee:ev (askW h w) F with
    | nought =>
      rw [ee] at p
      exact seq_i ⟨_,rfl,_,"str",_,true,rfl,.str _,kit_ss,_,rfl,iteT ⟨_,rfl,p _ g0.sm⟩⟩
    | great =>
      rw [ee] at p
      exact seq_i ⟨_,rfl,_,"str",_,true,rfl,.str _,kit_ss,_,rfl,iteT ⟨_,rfl,p _ g0.sm⟩⟩
    | ok n =>
    rw [ee] at p
    dsimp only at p
    have wn:Wo n:=ev_wo g.asks (hF.1.same g.sm) ee
    refine seq_i ⟨_,rfl,_,"str",_,false,rfl,.int n,kit_is,_,rfl,iteF (next_i ?_)⟩
    dsimp only
    refine seq_i ⟨_,rfl,t,_,_,_,rfl,rfl,tt,rfl,rfl,_,rfl,yx ?_⟩
    obtain ⟨lb,vb,hlb,lvb,hDb,hat⟩:∃ (lb:Addr) (vb:List V),H0 lb=some (.lst vb)∧vb.length < 1000∧DsIn bs qs H0 (if n=0 then b else a) vb∧atI [V.str "if",u,u1,u2] (2 + (if decide (V.int n=V.int 0)=true then 1 else 0))=some (.ref lb):=by
      by_cases c:n=0
      · obtain ⟨l,vs,e,h1,h2,h3⟩:=hY
        rw [if_pos c,decide_eq_true (by rw [c]),if_pos rfl]
        exact ⟨l,vs,h1,h2,h3,by rw [← e]; rfl⟩
      · obtain ⟨l,vs,e,h1,h2,h3⟩:=hX
        rw [if_neg c,decide_eq_false (fun z=>c (int_eq z)),if_neg (by decide)]
        exact ⟨l,vs,h1,h2,h3,by rw [← e]; rfl⟩
    refine seq_i ?_
    refine ⟨_,rfl,_,rfl,rfl,.inr ⟨_,rfl,_,_,rfl,rfl,t,_,_,_,rfl,rfl,tt,hat,_,rfl,_,rfl,rfl,lb,vb,rfl,SqL.of (g0.sm _ _ hlb),fun pr hpr=>?_⟩⟩
    have sp:=same_new hpr (.lst vb.reverse)
    refine ⟨pr,rfl,⟨_,SqL.of upd_same⟩,for_list (K:=K) (a:=pr) (xs:=vb.reverse) (fun i σ G=>∃ u9 u10 u11:Option V,σ=[some (.ref t),some (.ref L.l),some (.ref kh),some (.int h.to),some (.ref gl),some (.ref dl),some (.ref L.tl),some (.ref L.nl),some (.ref L.wl),u9,u10,u11]∧Rg bs qs H0 G L h w tc (ws++vb.reverse.take i)∧G pr=some (.lst vb.reverse))
      ⟨_,_,_,rfl,by rw [List.take_zero,List.append_nil]; exact g0.same sp,upd_same⟩ ?_ ?_ ?_⟩
    · rintro i σ G _ ⟨_,_,_,rfl,_,h2⟩
      exact SqL.of h2
    · rintro i x σ G hi ⟨u9,u10,u11,rfl,g1,h2⟩
      have li:=(List.getElem?_eq_some_iff.mp hi).1
      rw [List.length_reverse] at li
      have ll:(ws++vb.reverse.take i).length < sizeLine:=by
        rw [List.length_append,List.length_take]
        omega
      refine ⟨_,rfl,.inl ⟨rfl,_,SqL.of g1.hw⟩,_,rfl,L.wl,_,_,rfl,rfl,g1.hw,ll,?_⟩
      have npr:pr≠L.wl:=fun z=>by
        have y:=g0.hw
        rw [← z,hpr] at y
        cases y
      refine ⟨_,_,_,rfl,?_,hv_ne h2 npr⟩
      rw [List.take_add_one,hi,← List.append_assoc]
      exact g1.work _
    · rintro σ G ⟨u9,u10,u11,rfl,g1,_⟩
      rw [List.take_length] at g1
      exact p G vb hDb ⟨tc,by omega,g1.pure (w.rk++[F]) g.ok.nu g.ok.su⟩
end
end My
namespace My
open PySem L2
def NoPair (o:HO):Prop:=(∃ xs,o=.tup xs)∨∃ xs,o=.lst xs∧∀ x y:Int,xs≠[.int x,.int y]
def KeepN (H H':Hp):Prop:=∀ a o,H a=some o→NoPair o→H' a=some o
theorem np_tup (xs:List V):NoPair (.tup xs):=.inl ⟨xs,rfl⟩
theorem FmI.keepN {bs qs:List Str} {H H':Hp} (k:KeepN H H') {v:V} {f:Fm} (h:FmI bs qs H v f):FmI bs qs H' v f:=⟨h.1.mono fun t xs e=>k _ _ e (np_tup xs),h.2⟩
theorem DdIn.ref {bs qs:List Str} {H:Hp} {d:Dd} {v:V} (h:DdIn bs qs H d v):∃ t,v=.ref t:=by
  cases d <;> simp only [DdIn] at h
  · obtain ⟨t,_,e,_⟩:=h
    exact ⟨t,e⟩
  · obtain ⟨t,_,e,_⟩:=h
    exact ⟨t,e⟩
  · obtain ⟨t,_,e,_⟩:=h
    exact ⟨t,e⟩
  · obtain ⟨t,_,e,_⟩:=h
    exact ⟨t,e⟩
  · obtain ⟨t,_,_,_,e,_⟩:=h
    exact ⟨t,e⟩
  · obtain ⟨t,_,_,_,e,_⟩:=h
    exact ⟨t,e⟩
  · obtain ⟨t,e,_⟩:=h
    exact ⟨t,e⟩
theorem DsIn.np {bs qs:List Str} {H:Hp} {d:Ds} {vs:List V} (h:DsIn bs qs H d vs):NoPair (.lst vs):=.inr ⟨vs,rfl,fun x y z=>by
  subst z
  cases d with
  | nil =>
    simp only [DsIn] at h
    cases h
  | cons d r =>
    obtain ⟨v,vr,e,h1,_⟩:=(by simpa only [DsIn] using h)
    cases e
    obtain ⟨t,e⟩:=h1.ref
    cases e⟩
mutual
theorem DdIn.keepN {bs qs:List Str} {H H':Hp} (s:KeepN H H'):∀ (d:Dd) (v:V),DdIn bs qs H d v→DdIn bs qs H' d v
  | .put x f,v,h=>by
    obtain ⟨t,u,e,h1,h2,h3⟩:=(by simpa only [DdIn] using h)
    simp only [DdIn]
    exact ⟨t,u,e,s _ _ h1 (np_tup _),h2,h3.keepN s⟩
  | .push q f,v,h=>by
    obtain ⟨t,u,e,h1,h2,h3⟩:=(by simpa only [DdIn] using h)
    simp only [DdIn]
    exact ⟨t,u,e,s _ _ h1 (np_tup _),h2,h3.keepN s⟩
  | .pull q x o,v,h=>by
    obtain ⟨t,u,e,h1,h2,h3,l,vs,e4,h4,h5,h6⟩:=(by simpa only [DdIn] using h)
    simp only [DdIn]
    exact ⟨t,u,e,s _ _ h1 (np_tup _),h2,h3,l,vs,e4,s _ _ h4 h6.np,h5,DsIn.keepN s o vs h6⟩
  | .draw x f,v,h=>by
    obtain ⟨t,u,e,h1,h2,h3⟩:=(by simpa only [DdIn] using h)
    simp only [DdIn]
    exact ⟨t,u,e,s _ _ h1 (np_tup _),h2,h3.keepN s⟩
  | .send to sg sp rk a b,v,h=>by
    obtain ⟨t,u,u1,u2,e,h1,h2,h3,h4⟩:=(by simpa only [DdIn] using h)
    simp only [DdIn]
    exact ⟨t,u,u1,u2,e,s _ _ h1 (np_tup _),h2.keepN s,h3.keepN s,h4.keepN s⟩
  | .ife f x y,v,h=>by
    obtain ⟨t,u,u1,u2,e,h1,h2,⟨l,vs,e3,g1,g2,g3⟩,l',vs',e4,k1,k2,k3⟩:=(by simpa only [DdIn] using h)
    simp only [DdIn]
    exact ⟨t,u,u1,u2,e,s _ _ h1 (np_tup _),h2.keepN s,⟨l,vs,e3,s _ _ g1 g3.np,g2,DsIn.keepN s x vs g3⟩,l',vs',e4,s _ _ k1 k3.np,k2,DsIn.keepN s y vs' k3⟩
  | .fin,v,h=>by
    obtain ⟨t,e,h1⟩:=(by simpa only [DdIn] using h)
    simp only [DdIn]
    exact ⟨t,e,s _ _ h1 (np_tup _)⟩
theorem DsIn.keepN {bs qs:List Str} {H H':Hp} (s:KeepN H H'):∀ (d:Ds) (vs:List V),DsIn bs qs H d vs→DsIn bs qs H' d vs
  | .nil,vs,h=>by
    simpa only [DsIn] using h
  | .cons d r,vs,h=>by
    obtain ⟨v,vr,e,h1,h2⟩:=(by simpa only [DsIn] using h)
    simp only [DsIn]
    exact ⟨v,vr,e,DdIn.keepN s d v h1,DsIn.keepN s r vr h2⟩
end
end My
namespace My
open PySem L2
theorem Tree.scal {H:Hp} {v:V} (h:isSc v):∀ n,Tree H n v
  | 0=>h
  | _ + 1=>.inl h
theorem Tree.atup {H:Hp} {a:Addr} {xs:List V} {n:Nat} (h:H a=some (.tup xs)) (l:xs.length < 1000) (k:∀ x∈xs,Tree H n x):Tree H (n + 1) (.ref a):=.inr ⟨a,xs,rfl,.inr h,l,k⟩
theorem Tree.alst {H:Hp} {a:Addr} {xs:List V} {n:Nat} (h:H a=some (.lst xs)) (l:xs.length < 1000) (k:∀ x∈xs,Tree H n x):Tree H (n + 1) (.ref a):=.inr ⟨a,xs,rfl,.inl h,l,k⟩
theorem FmIn.tree {bs qs:List Str} {H:Hp} {v:V} {f:Fm} (h:FmIn bs qs H v f):∀ n,f.depth≤n→Tree H n v:=by
  induction h with
  | num h1 _=>exact fun n hn=>match n,hn with
    | n + 1,_=>Tree.atup h1 (by show 2 < 1000; decide) fun x hx=>by
      simp only [List.mem_cons,List.not_mem_nil,or_false] at hx
      rcases hx with rfl | rfl <;> exact Tree.scal (by exact trivial) _
    | 0,hn=>absurd hn (by unfold Fm.depth; decide)
  | box h1 _=>exact fun n hn=>match n,hn with
    | n + 1,_=>Tree.atup h1 (by show 2 < 1000; decide) fun x hx=>by
      simp only [List.mem_cons,List.not_mem_nil,or_false] at hx
      rcases hx with rfl | rfl <;> exact Tree.scal (by exact trivial) _
    | 0,hn=>absurd hn (by unfold Fm.depth; decide)
  | long h1 _=>exact fun n hn=>match n,hn with
    | n + 1,_=>Tree.atup h1 (by show 2 < 1000; decide) fun x hx=>by
      simp only [List.mem_cons,List.not_mem_nil,or_false] at hx
      rcases hx with rfl | rfl <;> exact Tree.scal (by exact trivial) _
    | 0,hn=>absurd hn (by unfold Fm.depth; decide)
  | got h1=>exact fun n hn=>match n,hn with
    | n + 1,_=>Tree.atup h1 (by show 2 < 1000; decide) fun x hx=>by
      simp only [List.mem_cons,List.not_mem_nil,or_false] at hx
      rcases hx with rfl | rfl <;> exact Tree.scal (by exact trivial) _
    | 0,hn=>absurd hn (by unfold Fm.depth; decide)
  | now h1=>exact fun n hn=>match n,hn with
    | n + 1,_=>Tree.atup h1 (by show 1 < 1000; decide) fun x hx=>by
      simp only [List.mem_cons,List.not_mem_nil,or_false] at hx
      rcases hx with rfl
      exact Tree.scal (by exact trivial) _
    | 0,hn=>absurd hn (by unfold Fm.depth; decide)
  | two h1 _ _ _ ih1 ih2=>exact fun n hn=>match n,hn with
    | n + 1,hn=>Tree.atup h1 (by show 3 < 1000; decide) fun x hx=>by
      unfold Fm.depth at hn
      simp only [List.mem_cons,List.not_mem_nil,or_false] at hx
      rcases hx with rfl | rfl | rfl
      · exact Tree.scal (by exact trivial) _
      · exact ih1 n (by omega)
      · exact ih2 n (by omega)
    | 0,hn=>absurd hn (by unfold Fm.depth; omega)
mutual
theorem DdIn.tree {bs qs:List Str} {H:Hp}:∀ (d:Dd) (v:V) (n:Nat),DdIn bs qs H d v→2 * d.deep + 16≤n→Tree H n v
  | _,_,0,_,hn=>absurd hn (by omega)
  | .put x f,v,n + 1,h,hn=>by
    obtain ⟨t,u,rfl,h1,h2,h3⟩:=(by simpa only [DdIn] using h)
    refine Tree.atup h1 (by show 3 < 1000; decide) fun y hy=>?_
    simp only [List.mem_cons,List.not_mem_nil,or_false] at hy
    rcases hy with rfl | rfl | rfl
    · exact Tree.scal (by exact trivial) _
    · exact Tree.scal (by exact trivial) _
    · exact h3.1.tree n (by have:=h3.2; omega)
  | .push q f,v,n + 1,h,hn=>by
    obtain ⟨t,u,rfl,h1,h2,h3⟩:=(by simpa only [DdIn] using h)
    refine Tree.atup h1 (by show 3 < 1000; decide) fun y hy=>?_
    simp only [List.mem_cons,List.not_mem_nil,or_false] at hy
    rcases hy with rfl | rfl | rfl
    · exact Tree.scal (by exact trivial) _
    · exact Tree.scal (by exact trivial) _
    · exact h3.1.tree n (by have:=h3.2; omega)
  | .pull q x o,v,n + 1,h,hn=>by
    obtain ⟨t,u,rfl,h1,h2,h3,l,vs,rfl,h4,h5,h6⟩:=(by simpa only [DdIn] using h)
    unfold Dd.deep at hn
    refine Tree.atup h1 (by show 4 < 1000; decide) fun y hy=>?_
    simp only [List.mem_cons,List.not_mem_nil,or_false] at hy
    rcases hy with rfl | rfl | rfl | rfl
    · exact Tree.scal (by exact trivial) _
    · exact Tree.scal (by exact trivial) _
    · exact Tree.scal (by exact trivial) _
    · obtain ⟨m,rfl⟩:∃ m,n=m + 1:=⟨n - 1,by omega⟩
      exact Tree.alst h4 h5 (DsIn.tree o vs m h6 (by omega))
  | .draw x f,v,n + 1,h,hn=>by
    obtain ⟨t,u,rfl,h1,h2,h3⟩:=(by simpa only [DdIn] using h)
    refine Tree.atup h1 (by show 3 < 1000; decide) fun y hy=>?_
    simp only [List.mem_cons,List.not_mem_nil,or_false] at hy
    rcases hy with rfl | rfl | rfl
    · exact Tree.scal (by exact trivial) _
    · exact Tree.scal (by exact trivial) _
    · exact h3.1.tree n (by have:=h3.2; omega)
  | .send to sg sp rk a b,v,n + 1,h,hn=>by
    obtain ⟨t,u,u1,u2,rfl,h1,h2,h3,h4⟩:=(by simpa only [DdIn] using h)
    refine Tree.atup h1 (by show 7 < 1000; decide) fun y hy=>?_
    simp only [List.mem_cons,List.not_mem_nil,or_false] at hy
    rcases hy with rfl | rfl | rfl | rfl | rfl | rfl | rfl
    · exact Tree.scal (by exact trivial) _
    · exact Tree.scal (by exact trivial) _
    · exact Tree.scal (by exact trivial) _
    · exact h2.1.tree n (by have:=h2.2; omega)
    · exact Tree.scal (by exact trivial) _
    · exact h3.1.tree n (by have:=h3.2; omega)
    · exact h4.1.tree n (by have:=h4.2; omega)
  | .ife f x y,v,n + 1,h,hn=>by
    obtain ⟨t,u,u1,u2,rfl,h1,h2,⟨l,vs,rfl,g1,g2,g3⟩,l',vs',rfl,k1,k2,k3⟩:=(by simpa only [DdIn] using h)
    unfold Dd.deep at hn
    refine Tree.atup h1 (by show 4 < 1000; decide) fun z hz=>?_
    simp only [List.mem_cons,List.not_mem_nil,or_false] at hz
    obtain ⟨m,rfl⟩:∃ m,n=m + 1:=⟨n - 1,by omega⟩
    rcases hz with rfl | rfl | rfl | rfl
    · exact Tree.scal (by exact trivial) _
    · exact h2.1.tree _ (by have:=h2.2; omega)
    · exact Tree.alst g1 g2 (DsIn.tree x vs m g3 (by omega))
    · exact Tree.alst k1 k2 (DsIn.tree y vs' m k3 (by omega))
  | .fin,v,n + 1,h,hn=>by
    obtain ⟨t,rfl,h1⟩:=(by simpa only [DdIn] using h)
    refine Tree.atup h1 (by show 1 < 1000; decide) fun y hy=>?_
    simp only [List.mem_cons,List.not_mem_nil,or_false] at hy
    rw [hy]
    exact Tree.scal (by exact trivial) _
theorem DsIn.tree {bs qs:List Str} {H:Hp}:∀ (d:Ds) (vs:List V) (n:Nat),DsIn bs qs H d vs→2 * d.deep + 16≤n→∀ x∈vs,Tree H n x
  | .nil,vs,n,h,hn=>by
    have e:vs=[]:=by simpa only [DsIn] using h
    subst e
    intro x hx
    cases hx
  | .cons d r,vs,n,h,hn=>by
    obtain ⟨v,vr,rfl,h1,h2⟩:=(by simpa only [DsIn] using h)
    unfold Ds.deep at hn
    intro x hx
    rcases List.mem_cons.mp hx with rfl | hx
    · exact DdIn.tree d _ n h1 (by omega)
    · exact DsIn.tree r vr n h2 (by omega) x hx
end
end My
namespace My
open PySem L2
def NoInt (o:HO):Prop:=(∃ xs,o=.tup xs)∨∃ xs,o=.lst xs∧∀ (i:Int) (r:List V),xs≠.int i :: r
def KeepI (H H':Hp):Prop:=∀ a o,H a=some o→NoInt o→H' a=some o
theorem KeepI.same {H H':Hp} (s:Same H H'):KeepI H H':=fun a o e _=>s _ _ e
theorem KeepI.trans {H H1 H2:Hp} (a:KeepI H H1) (b:KeepI H1 H2):KeepI H H2:=fun c o e n=>b _ _ (a _ _ e n) n
def Kp (own:List Addr) (H G:Hp):Prop:=∀ b o,H b=some o→b∉own→G b=some o
theorem Kp.but {own:List Addr} {H G:Hp} {p:Addr} (s:But p H G) (m:p∈own):Kp own H G:=fun c o e n=>s _ _ e fun z=>n (by rw [z]; exact m)
theorem Kp.keepI {own:List Addr} {H G:Hp} (k:Kp own H G) (h:∀ a∈own,∃ (i:Int) (r:List V),H a=some (.lst (.int i :: r))):KeepI H G:=fun a o e n=>k a o e fun m=>by
  obtain ⟨i,r,q⟩:=h a m
  rw [q] at e
  cases e
  rcases n with ⟨xs,n⟩ | ⟨xs,n,y⟩
  · cases n
  · cases n
    exact y i r rfl
theorem KeepI.but {H H':Hp} {p:Addr} (pu:Purse H p) (b:But p H H'):KeepI H H':=Kp.keepI (own:=[p]) (Kp.but b List.mem_cons_self) fun a m=>by
  obtain ⟨x,y,h⟩:=pu
  rw [List.mem_singleton.mp m]
  exact ⟨x,_,h⟩
theorem ni_tup (xs:List V):NoInt (.tup xs):=.inl ⟨xs,rfl⟩
theorem FmI.keepI {bs qs:List Str} {H H':Hp} (k:KeepI H H') {v:V} {f:Fm} (h:FmI bs qs H v f):FmI bs qs H' v f:=⟨h.1.mono fun t xs e=>k _ _ e (ni_tup xs),h.2⟩
theorem DsIn.ni {bs qs:List Str} {H:Hp} {d:Ds} {vs:List V} (h:DsIn bs qs H d vs):NoInt (.lst vs):=.inr ⟨vs,rfl,fun i r z=>by
  subst z
  cases d with
  | nil =>
    simp only [DsIn] at h
    cases h
  | cons d r =>
    obtain ⟨v,vr,e,h1,_⟩:=(by simpa only [DsIn] using h)
    cases e
    obtain ⟨t,e⟩:=h1.ref
    cases e⟩
mutual
theorem DdIn.keepI {bs qs:List Str} {H H':Hp} (s:KeepI H H'):∀ (d:Dd) (v:V),DdIn bs qs H d v→DdIn bs qs H' d v
  | .put x f,v,h=>by
    obtain ⟨t,u,e,h1,h2,h3⟩:=(by simpa only [DdIn] using h)
    simp only [DdIn]
    exact ⟨t,u,e,s _ _ h1 (ni_tup _),h2,h3.keepI s⟩
  | .push q f,v,h=>by
    obtain ⟨t,u,e,h1,h2,h3⟩:=(by simpa only [DdIn] using h)
    simp only [DdIn]
    exact ⟨t,u,e,s _ _ h1 (ni_tup _),h2,h3.keepI s⟩
  | .pull q x o,v,h=>by
    obtain ⟨t,u,e,h1,h2,h3,l,vs,e4,h4,h5,h6⟩:=(by simpa only [DdIn] using h)
    simp only [DdIn]
    exact ⟨t,u,e,s _ _ h1 (ni_tup _),h2,h3,l,vs,e4,s _ _ h4 h6.ni,h5,DsIn.keepI s o vs h6⟩
  | .draw x f,v,h=>by
    obtain ⟨t,u,e,h1,h2,h3⟩:=(by simpa only [DdIn] using h)
    simp only [DdIn]
    exact ⟨t,u,e,s _ _ h1 (ni_tup _),h2,h3.keepI s⟩
  | .send to sg sp rk a b,v,h=>by
    obtain ⟨t,u,u1,u2,e,h1,h2,h3,h4⟩:=(by simpa only [DdIn] using h)
    simp only [DdIn]
    exact ⟨t,u,u1,u2,e,s _ _ h1 (ni_tup _),h2.keepI s,h3.keepI s,h4.keepI s⟩
  | .ife f x y,v,h=>by
    obtain ⟨t,u,u1,u2,e,h1,h2,⟨l,vs,e3,g1,g2,g3⟩,l',vs',e4,k1,k2,k3⟩:=(by simpa only [DdIn] using h)
    simp only [DdIn]
    exact ⟨t,u,u1,u2,e,s _ _ h1 (ni_tup _),h2.keepI s,⟨l,vs,e3,s _ _ g1 g3.ni,g2,DsIn.keepI s x vs g3⟩,l',vs',e4,s _ _ k1 k3.ni,k2,DsIn.keepI s y vs' k3⟩
  | .fin,v,h=>by
    obtain ⟨t,e,h1⟩:=(by simpa only [DdIn] using h)
    simp only [DdIn]
    exact ⟨t,e,s _ _ h1 (ni_tup _)⟩
theorem DsIn.keepI {bs qs:List Str} {H H':Hp} (s:KeepI H H'):∀ (d:Ds) (vs:List V),DsIn bs qs H d vs→DsIn bs qs H' d vs
  | .nil,vs,h=>by
    simpa only [DsIn] using h
  | .cons d r,vs,h=>by
    obtain ⟨v,vr,e,h1,h2⟩:=(by simpa only [DsIn] using h)
    simp only [DsIn]
    exact ⟨v,vr,e,DdIn.keepI s d v h1,DsIn.keepI s r vr h2⟩
end
mutual
def Dd.toOk (m:Int):Dd→Prop
  | .send to _ _ _ _ _=>0≤to∧to < m
  | .pull _ _ o=>o.toOk m
  | .ife _ t e=>t.toOk m∧e.toOk m
  | _=>True
def Ds.toOk (m:Int):Ds→Prop
  | .nil=>True
  | .cons d r=>d.toOk m∧r.toOk m
end
def szOf:Nat→Nat
  | 0=>3
  | n + 1=>3 * (1 + 2 * szOf n)
end My
namespace My
open PySem L2
theorem comp_ixT {K:PySem.W.Frag} {a t:Addr} {xs ts:List V} {c:Int} {n i:Nat} {g:TG} {tc:L2.TT} {te:TE} {σ:St} {H:Hp} {Q:VK} (hv:σ[i]?=some (some (.ref t))) (ht:SqT K H t ts) (hat:atI ts c=some (.ref a)) (hx:SqL K H a xs) (Pv:Nat→List V→Hp→Prop) (h0:Pv 0 [] H) (hl:∀ i ys H,i≤xs.length→Pv i ys H→SqL K H a xs∧ys.length < sizeLine)
    (hs:∀ i x ys H,xs[i]?=some x→Pv i ys H→g x (List.replicate n none++σ) H fun σ2 H2=>σ2.drop n=σ∧tc σ2 H2 fun b H3=>if b=true then te σ2 H3 fun y H4=>Pv (i + 1) (ys++[y]) H4 else Pv (i + 1) ys H3)
    (hd:∀ ys H,Pv xs.length ys H→∀ p,H p=none→Q (.ref p) (upd H p (.lst ys))):tComp n (iList K (tOp (rIxT K) (tVar i) (tC (.int c)))) g tc te σ H Q:=
  ⟨.ref t,hv,t,ts,c,_,rfl,rfl,ht,hat,a,rfl,⟨xs,hx⟩,comp_list Pv h0 hl hs hd⟩
end My
namespace My
open PySem L2
structure Rec where
  h:Ev
  wb:List (Str×Int)
  wq:List (Str×List Int)
  out:List Ev
abbrev keyT (h:Ev):HO:=.tup [.int h.t,.int h.r,.int h.fr,.int h.c]
def RcIn (F:Hp) (v:V) (q:Rec):Prop:=∃ (rc k wl od:Addr) (ws1 ws2 vs:List V) (qa:List (Str×Addr)),v=.ref rc∧F rc=some (.tup [.ref k,.int q.h.to,.str q.h.sg,.int q.h.a,.int q.h.b,.ref wl,.ref od])∧F k=some (keyT q.h) ∧
  F wl=some (.lst (ws1++ws2))∧Paired (WbIn F) ws1 q.wb∧Paired (WqIn F) ws2 qa∧QuIn F qa q.wq∧F od=some (.lst vs)∧Paired (EvIn F) vs q.out
theorem RcIn.same {F F':Hp} (s:Same F F') {v:V} {q:Rec} (h:RcIn F v q):RcIn F' v q:=by
  obtain ⟨rc,k,wl,od,ws1,ws2,vs,qa,e,h1,h2,h3,h4,h5,h6,h7,h8⟩:=h
  exact ⟨rc,k,wl,od,ws1,ws2,vs,qa,e,s _ _ h1,s _ _ h2,s _ _ h3,Paired.mono (fun _ _ z=>z.keep fun a xs e=>s _ _ e) h4,Paired.mono (fun _ _ z=>z.keep fun a xs e=>s _ _ e) h5,h6.same s,s _ _ h7,Paired.mono (fun _ _ z=>z.same s) h8⟩
theorem teq_tup {H:Hp} {n:Nat} {p q:Addr} {xs:List V} (hp:H p=some (.tup xs)) (hq:H q=some (.tup xs)) (sc:∀ x∈xs,sc0 x):TEq H (n + 1) (.ref p) (.ref q):=
  .inr (.inr ⟨p,q,xs,xs,rfl,rfl,hp,hq,by
    clear hp hq
    induction xs with
    | nil=>exact .nil
    | cons x xs ih =>
      refine .cons ?_ (ih fun y hy=>sc y (List.mem_cons_of_mem _ hy))
      cases n with
      | zero=>exact ⟨sc x List.mem_cons_self,rfl⟩
      | succ n=>exact .inl ⟨sc x List.mem_cons_self,rfl⟩⟩)
theorem teq_pair {H:Hp} {n:Nat} {α:Type} {R S:V→α→Prop} (f:∀ x y a,R x a→S y a→TEq H n x y):∀ {xs ys:List V} {as:List α},Paired R xs as→Paired S ys as→Paired (TEq H n) xs ys
  | _,_,_,.nil,.nil=>.nil
  | _,_,_,.cons a b,.cons c d=>.cons (f _ _ _ a c) (teq_pair f b d)
theorem teq_app {H:Hp} {n:Nat} {xs ys xs' ys':List V} (a:Paired (TEq H n) xs ys) (b:Paired (TEq H n) xs' ys'):Paired (TEq H n) (xs++xs') (ys++ys'):=by
  induction a with
  | nil=>exact b
  | cons h _ ih=>exact .cons h ih
theorem teq_sc {H:Hp} {n:Nat} {x:V} (h:sc0 x):TEq H n x x:=by
  cases n with
  | zero=>exact ⟨h,rfl⟩
  | succ n=>exact .inl ⟨h,rfl⟩
theorem teq_key {H:Hp} {n:Nat} {a b:Addr} {h:Ev} (ha:H a=some (keyT h)) (hb:H b=some (keyT h)):TEq H (n + 1) (.ref a) (.ref b):=
  teq_tup ha hb fun x hx=>by
    simp only [List.mem_cons,List.not_mem_nil,or_false] at hx
    rcases hx with rfl | rfl | rfl | rfl <;> trivial
theorem teq_ev {H:Hp} {n:Nat} {v v':V} {e:Ev} (h:EvIn H v e) (h':EvIn H v' e):TEq H (n + 2) v v':=by
  obtain ⟨t,k,rfl,h1,h2⟩:=h
  obtain ⟨t',k',rfl,h1',h2'⟩:=h'
  exact .inr (.inr ⟨t,t',_,_,rfl,rfl,h1,h1',.cons (teq_key h2 h2') (.cons (teq_sc trivial) (.cons (teq_sc trivial) (.cons (teq_sc trivial) (.cons (teq_sc trivial) .nil))))⟩)
theorem teq_ints {H:Hp} {n:Nat} {a b:Addr} {ns:List Int} (ha:H a=some (.lst (ns.map V.int))) (hb:H b=some (.lst (ns.map V.int))):TEq H (n + 1) (.ref a) (.ref b):=
  .inr (.inl ⟨a,b,_,_,rfl,rfl,ha,hb,by
    clear ha hb
    induction ns with
    | nil=>exact .nil
    | cons x xs ih=>exact .cons (teq_sc trivial) ih⟩)
theorem teq_wq {H:Hp} {n:Nat}:∀ {qs:List (Str×List Int)} {qa qa':List (Str×Addr)} {ws ws':List V},QuIn H qa qs→QuIn H qa' qs→Paired (WqIn H) ws qa→Paired (WqIn H) ws' qa'→Paired (TEq H (n + 2)) ws ws'
  | [],qa,qa',ws,ws',e,g,a,c=>by
    cases e
    cases g
    cases a
    cases c
    exact .nil
  | q :: qs,qa,qa',ws,ws',e,g,a,c=>by
    cases e with
    | cons e f =>
    cases g with
    | cons g h =>
    cases a with
    | cons a b =>
    cases c with
    | cons c d =>
    obtain ⟨t,rfl,h1⟩:=a
    obtain ⟨t',rfl,h1'⟩:=c
    obtain ⟨e1,e2⟩:=e
    obtain ⟨g1,g2⟩:=g
    rw [e1] at h1
    rw [g1] at h1'
    exact .cons (.inr (.inr ⟨t,t',_,_,rfl,rfl,h1,h1',.cons (teq_sc trivial) (.cons (teq_ints e2 g2) .nil)⟩)) (teq_wq f h b d)
theorem teq_rec {H:Hp} {n:Nat} {v v':V} {q:Rec} (h:RcIn H v q) (h':RcIn H v' q):TEq H (n + 4) v v':=by
  obtain ⟨rc,k,wl,od,ws1,ws2,vs,qa,rfl,h1,h2,h3,h4,h5,h6,h7,h8⟩:=h
  obtain ⟨rc',k',wl',od',ws1',ws2',vs',qa',rfl,h1',h2',h3',h4',h5',h6',h7',h8'⟩:=h'
  have w1:Paired (TEq H (n + 2)) ws1 ws1':=teq_pair (R:=WbIn H) (S:=WbIn H) (fun x y a hx hy=>by
    obtain ⟨t,rfl,z⟩:=hx
    obtain ⟨t',rfl,z'⟩:=hy
    exact teq_tup z z' fun x hx=>by
      simp only [List.mem_cons,List.not_mem_nil,or_false] at hx
      rcases hx with rfl | rfl <;> trivial) h4 h4'
  have w2:Paired (TEq H (n + 2)) ws2 ws2':=teq_wq h6 h6' h5 h5'
  refine .inr (.inr ⟨rc,rc',_,_,rfl,rfl,h1,h1',.cons (teq_key h2 h2') (.cons (teq_sc trivial) (.cons (teq_sc trivial) (.cons (teq_sc trivial) (.cons (teq_sc trivial) (.cons ?_ (.cons ?_ .nil))))))⟩)
  · exact .inr (.inl ⟨wl,wl',_,_,rfl,rfl,h3,h3',teq_app w1 w2⟩)
  · exact .inr (.inl ⟨od,od',_,_,rfl,rfl,h7,h7',teq_pair (R:=EvIn H) (S:=EvIn H) (fun x y a hx hy=>teq_ev hx hy) h8 h8'⟩)
end My
namespace My
open PySem L2
theorem look_nd {α:Type}:∀ {ps:List (Str×α)} {i:Nat} {p:Str×α},(ps.map (·.1)).Nodup→ps[i]?=some p→ps.lookup p.1=some p.2
  | [],i,p,_,h=>by simp at h
  | (a,b) :: ps,0,p,_,h=>by
    simp at h
    subst h
    exact List.lookup_cons_self
  | (a,b) :: ps,i + 1,p,nd,h=>by
    have h:ps[i]?=some p:=by simpa using h
    obtain ⟨n1,n2⟩:=List.nodup_cons.mp nd
    have ne:(p.1 == a)=false:=beq_eq_false_iff_ne.mpr fun e=>n1 (by rw [← e]; exact List.mem_map.mpr ⟨p,List.mem_of_getElem? h,rfl⟩)
    rw [List.lookup_cons,ne]
    exact look_nd n2 h
structure CpNew (H G:Hp) (l:Addr) (bx:List (Str×Int)) (qu:List (Str×List Int)) (dr:Nat) (se:Int) (bd qd:Addr) (qa:List (Str×Addr)):Prop where
  sm:Same H G
  hl:G l=some (.lst [.ref bd,.ref qd,.int dr,.int se])
  hb:G bd=some (.dK (boK bx))
  hq:G qd=some (.dK (quK qa))
  hqs:QuIn G qa qu
  nd:(l :: bd :: qd :: qa.map (·.2)).Nodup
  fr:∀ a∈l :: bd :: qd :: qa.map (·.2),H a=none
def SlIn (H:Hp) (sl:Addr) (bx:List (Str×Int)) (qu:List (Str×List Int)) (dr:Nat) (se:Int):Prop:=
  ∃ bd qd qa,H sl=some (.lst [.ref bd,.ref qd,.int dr,.int se])∧H bd=some (.dK (boK bx))∧H qd=some (.dK (quK qa))∧QuIn H qa qu
def spCp:Sp:=fun vs H Q _=>∃ (sl:Addr) (bx:List (Str×Int)) (qu:List (Str×List Int)) (dr:Nat) (se:Int),vs=[.ref sl]∧SlIn H sl bx qu dr se∧(qu.map (·.1)).Nodup∧qu.length < 100 ∧
  ∀ (G:Hp) (l bd qd:Addr) (qa:List (Str×Addr)),CpNew H G l bx qu dr se bd qd qa→Q (.ref l) G
section
variable {P:Program} {w:World} {K:PySem.W.Frag} {mg:Str→Option Value} {base:Heap} {f:Addr} {fd:FuncData}
seal L2.PS L2.PSs L2.PE L2.PA L2.PT L2.PW L2.PI L2.PG L2.PGs L2.PC
theorem scCp:FnScope ["_law_state","_law_queues","_law_name"] ["_law_state"] (defScope s_law_copy):=⟨rfl,rfl,rfl,by decide +kernel,rfl,by decide +kernel,by decide +kernel⟩
theorem ok_cp (D:Df K mg "_law_copy" s_law_copy ["_law_state"] f fd) (B:Bl mg):FnOk P w K mg base CX0 1 f fd ["_law_state"] spCp:=by
  refine D.F.ok scCp (fun vs H Q E h=>?_) (fun cdv A outer s H vs Q E hr h=>?_)
  · obtain ⟨sl,bx,qu,dr,se,rfl,_⟩:=h
    rfl
  obtain ⟨sl,bx,qu,dr,se,rfl,⟨bd,qd,qa,hsl,hb,hq,hl⟩,ndq,lq,k⟩:=h
  have hu:=hu_of hr
  refine ⟨_,pss_cons (ps_set (i:=1) scCp.nd rfl (Or.inl rfl) pe_dnewK)
    (pss_cons (ps_thaw (ps_for PassesOwn.never rfl (pi_keys (pe_ix ix_list (pv 0) pe_int (fun _ _=>rfl))) (pg_name (i:=2) scCp.nd rfl (Or.inl rfl)) (pss_one (ps_dput hu (pv 1) (pv 2) (pe_callTy call_list_of (by rfl) B.list boot_list (pa_s (pe_dget hu (pe_ix ix_list (pv 0) pe_int (fun _ _=>rfl)) (pv 2) (fun _ _=>rfl)) pa_nil)) rfl))))
    (pss_one (ps_ret (pe_lst (pa_f (pe_bm0 PySem.F.plainAttrs_dict PySem.F.slot_dict_copy PySem.F.type_dict_copy mt_dcopy (pe_ix ix_list (pv 0) pe_int (fun _ _=>rfl))) (pa_n (pv 1) (pa_s (pe_ix ix_list (pv 0) pe_int (fun _ _=>rfl)) (pa_s (pe_ix ix_list (pv 0) pe_int (fun _ _=>rfl)) pa_nil)))))))),?_⟩
  refine seq_i (asg_i ?_)
  intro d hd
  refine gname_i ?_
  dsimp only
  have s1:Same H (upd H d (.dK [])):=same_new hd _
  have nf:∀ (ob:Obj) (u:HO),H qd≠some (.frz ob u):=fun ob u z=>by
    rw [hq] at z
    cases z
  have ndd:d≠qd:=(ne_of_none hq hd).symm
  have nsq:sl≠qd:=ne_of hsl hq (by intro z; cases z)
  have nlq:(qa.map (·.1)).Nodup:=by
    rw [hl.nm]
    exact ndq
  refine seq_i ?_
  refine ⟨_,rfl,sl,_,_,_,rfl,rfl,SqL.of (s1 _ _ hsl),rfl,qd,_,rfl,s1 _ _ hq,nf,fun od=>?_⟩
  refine for_keys (d:=qd) (od:=od) (kvs:=quK qa) (fun i σ G=>∃ (v2:Option V) (qa':List (Str×Addr)),σ=[some (.ref sl),some (.ref d),v2]∧G qd=some (.frz od (.dK (quK qa)))∧(∀ b o,H b=some o→b≠qd→G b=some o)∧G d=some (.dK (quK qa')) ∧
    QuIn G qa' (qu.take i)∧(qa'.map (·.2)).Nodup∧∀ a∈qa'.map (·.2),H a=none∧a≠d) ⟨none,[],rfl,upd_same,fun b o e n=>?_,?_,?_,List.nodup_nil,fun a h=>by cases h⟩ ?_ ?_ ?_
  · rw [upd_ne n]
    exact s1 _ _ e
  · rw [upd_ne ndd]
    exact upd_same
  · rw [List.take_zero]
    exact .nil
  · rintro i σ G _ ⟨_,_,_,h1,_⟩
    exact h1
  · rintro i kv σ G hi ⟨v2,qa',rfl,g1,g2,g3,g4,g5,g6⟩
    obtain ⟨p,hp,rfl⟩:∃ p,qa[i]?=some p∧kv=((Sum.inr p.1:Key),V.ref p.2):=by
      unfold quK at hi
      rw [List.getElem?_map] at hi
      cases z:qa[i]? with
      | none =>
        rw [z] at hi
        cases hi
      | some p =>
        rw [z] at hi
        cases hi
        exact ⟨p,rfl,rfl⟩
    obtain ⟨q,hq1,hq2,hq3⟩:=hl.nth hp
    have npq:p.2≠qd:=ne_of hq3 hq (by intro z; cases z)
    have lkp:qa.lookup p.1=some p.2:=look_nd nlq hp
    have dg:DGet G qd (.str p.1) (some (.ref p.2)):=.inl ⟨quK qa,Sum.inr p.1,.inr ⟨od,g1⟩,rfl,(quK_at lkp).symm⟩
    refine gname_i ?_
    dsimp only
    refine ⟨_,rfl,sl,_,_,_,rfl,rfl,SqL.of (g2 _ _ hsl nsq),rfl,_,rfl,qd,_,rfl,dg,p.2,_,rfl,.inl (SqL.of (g2 _ _ hq3 npq)),fun l hl'=>?_⟩
    have sl_:=same_new hl' (.lst (q.2.map V.int))
    have gd2:=sl_ _ _ g3
    have lti:i < qu.length:=(List.getElem?_eq_some_iff.mp hq1).1
    have tk:(qu.take (i + 1))=qu.take i++[q]:=by
      rw [List.take_add_one,hq1]
      rfl
    have nin:p.1∉qa'.map (·.1):=by
      rw [g4.nm,hq2]
      intro z
      have nd2:((qu.take (i + 1)).map (·.1)).Nodup:=by
        rw [List.map_take]
        exact ndq.sublist (List.take_sublist _ _)
      rw [tk,List.map_append] at nd2
      exact (List.nodup_append.mp nd2).2.2 _ z q.1 (by simp) rfl
    have len':(quK qa').length < sizeLine:=by
      have z:=g4.len
      rw [List.length_take] at z
      rw [quK_len]
      have:=line1000
      omega
    have dp:=DPut.k (k:=Sum.inr p.1) (v:=.ref l) gd2 len'
    rw [quK_app nin] at dp
    refine ⟨_,rfl,_,rfl,d,_,rfl,dp,?_⟩
    have nlG:G l=none:=hl'
    have nl0:H l=none:=by
      cases z:H l with
      | none=>rfl
      | some o =>
        by_cases c:l=qd
        · rw [c,g1] at nlG
          cases nlG
        · rw [g2 _ _ z c] at nlG
          cases nlG
    have nld:l≠d:=fun z=>by rw [z,g3] at nlG; cases nlG
    refine ⟨_,qa'++[(p.1,l)],rfl,?_,fun b o e n=>?_,upd_same,?_,?_,fun a ha=>?_⟩
    · rw [upd_ne ndd.symm]
      exact sl_ _ _ g1
    · rw [upd_ne (ne_of_none e hd)]
      exact sl_ _ _ (g2 _ _ e n)
    · rw [tk]
      have old:QuIn (upd (upd G l (.lst (q.2.map V.int))) d (.dK (quK (qa'++[(p.1,l)])))) qa' (qu.take i):=
        QuIn.keep (L:=⟨0,0,0,0,0,0,0,0,0,0,.non,.non,qa'⟩) (fun a u e m=>hv_ne (sl_ _ _ e) (g6 a m).2) (fun _ h=>h) g4
      exact Paired.snoc old ⟨hq2,hv_ne upd_same nld⟩
    · rw [List.map_append]
      refine List.nodup_append.mpr ⟨g5,by simp,fun a ha b hb=>?_⟩
      rw [List.mem_singleton.mp hb]
      intro z
      obtain ⟨pp,hpp,e⟩:=List.mem_map.mp ha
      obtain ⟨j,hj⟩:=List.getElem?_of_mem hpp
      obtain ⟨_,_,_,y⟩:=g4.nth hj
      rw [e,z,nlG] at y
      cases y
    · rw [List.map_append] at ha
      rcases List.mem_append.mp ha with z | z
      · exact g6 a z
      · rw [List.mem_singleton.mp z]
        exact ⟨nl0,nld⟩
  · rintro σ G ⟨v2,qa',rfl,g1,g2,g3,g4,g5,g6⟩
    rw [quK_len,hl.len,List.take_length] at g4
    refine ⟨qd,od,_,g1,nf,?_⟩
    have sH:Same H (upd G qd (.dK (quK qa))):=fun b o e=>by
      by_cases c:b=qd
      · rw [c,upd_same]
        rw [c,hq] at e
        exact e
      · rw [upd_ne c]
        exact g2 _ _ e c
    have g3':upd G qd (.dK (quK qa)) d=some (.dK (quK qa')):=hv_ne g3 ndd
    have g4':QuIn (upd G qd (.dK (quK qa))) qa' qu:=
      QuIn.keep (L:=⟨0,0,0,0,0,0,0,0,0,0,.non,.non,qa'⟩) (fun a u e m=>hv_ne e (ne_of_none hq (g6 a m).1).symm) (fun _ h=>h) g4
    generalize upd G qd (.dK (quK qa))=G2 at sH g3' g4'
    refine ⟨_,rfl,sl,_,_,_,rfl,rfl,SqL.of (sH _ _ hsl),rfl,.inr (.inr (.inl ⟨rfl,.inl ⟨_,sH _ _ hb⟩⟩)),bd,_,rfl,rfl,sH _ _ hb,fun e he=>?_⟩
    have s3:=same_new he (.dK (boK bx))
    refine ⟨_,rfl,_,rfl,sl,_,_,_,rfl,rfl,SqL.of (s3 _ _ (sH _ _ hsl)),rfl,_,rfl,sl,_,_,_,rfl,rfl,SqL.of (s3 _ _ (sH _ _ hsl)),rfl,(by show 4≤sizeLine; decide),fun l hl'=>?_⟩
    have s4:=same_new hl' (.lst [.ref e,.ref d,.int dr,.int se])
    have he0:=none_of sH he
    have nl0:=none_of (sH.trans s3) hl'
    have hd3:=s3 _ _ g3'
    have he3:upd G2 e (.dK (boK bx)) e=_:=upd_same
    refine k _ l e d qa' ⟨(sH.trans s3).trans s4,upd_same,s4 _ _ he3,s4 _ _ hd3,(g4'.same s3).same s4,?_,?_⟩
    · have nl_e:l≠e:=(ne_of_none he3 hl').symm
      have nl_d:l≠d:=(ne_of_none hd3 hl').symm
      have ne_d:e≠d:=(ne_of_none g3' he).symm
      have ql:∀ a∈qa'.map (·.2),∃ o,G2 a=some o:=fun a ha=>by
        obtain ⟨pp,hpp,e⟩:=List.mem_map.mp ha
        obtain ⟨j,hj⟩:=List.getElem?_of_mem hpp
        obtain ⟨_,_,_,y⟩:=g4'.nth hj
        rw [← e]
        exact ⟨_,y⟩
      refine List.nodup_cons.mpr ⟨fun z=>?_,List.nodup_cons.mpr ⟨fun z=>?_,List.nodup_cons.mpr ⟨fun z=>(g6 d z).2 rfl,g5⟩⟩⟩
      · rcases List.mem_cons.mp z with z | z
        · exact nl_e z
        · rcases List.mem_cons.mp z with z | z
          · exact nl_d z
          · obtain ⟨o,y⟩:=ql l z
            exact (ne_of_none (s3 _ _ y) hl') rfl
      · rcases List.mem_cons.mp z with z | z
        · exact ne_d z
        · obtain ⟨o,y⟩:=ql e z
          exact (ne_of_none y he) rfl
    · intro a ha
      rcases List.mem_cons.mp ha with z | z
      · rw [z]
        exact nl0
      · rcases List.mem_cons.mp z with z | z
        · rw [z]
          exact he0
        · rcases List.mem_cons.mp z with z | z
          · rw [z]
            exact hd
          · exact (g6 a z).1
end
end My
namespace My
open PySem L2
theorem op_inK {X:Cx} (K:PySem.W.Frag) (hK:X.K=K):OpR X (compareOp .In) (rIn K false):=by
  rw [← hK]
  exact op_in_seq
theorem flat_strs (xs:List Str):(xs.map V.str).all flatV=true:=by
  induction xs with
  | nil=>rfl
  | cons x xs ih =>
    rw [List.map_cons,List.all_cons,ih]
    rfl
theorem in_strs (x:Str) (xs:List Str):inV (.str x) (xs.map V.str)=decide (x∈xs):=by
  unfold inV
  induction xs with
  | nil=>rfl
  | cons y xs ih =>
    rw [List.map_cons,List.any_cons,ih]
    have e:eqV (.str y) (.str x)=decide (x=y):=by
      by_cases c:x=y
      · subst c
        rw [decide_eq_true rfl]
        simp [eqV]
      · rw [decide_eq_false c]
        simp [eqV]
        exact fun z=>c z.symm
    rw [e]
    by_cases c:x=y
    · subst c
      simp
    · simp [c]
theorem paired_snoc {α β:Type} {R:α→β→Prop}:∀ {xs:List α} {ys:List β} {y:β},Paired R xs (ys++[y])→∃ xs0 x,xs=xs0++[x]∧Paired R xs0 ys∧R x y
  | _,[],_,.cons a b=>by
    cases b
    exact ⟨[],_,rfl,.nil,a⟩
  | _,_ :: ys,_,.cons a b=>by
    obtain ⟨xs0,x,e,h1,h2⟩:=paired_snoc (ys:=ys) b
    exact ⟨_ :: xs0,x,by rw [e]; rfl,.cons a h1,h2⟩
theorem paired_app {α β:Type} {R:α→β→Prop} {xs xs':List α} {ys ys':List β} (a:Paired R xs ys) (b:Paired R xs' ys'):Paired R (xs++xs') (ys++ys'):=by
  induction a with
  | nil=>exact b
  | cons h _ ih=>exact .cons h ih
theorem paired_rev {α β:Type} {R:α→β→Prop} {xs:List α} {ys:List β} (a:Paired R xs ys):Paired R xs.reverse ys.reverse:=by
  induction a with
  | nil=>exact .nil
  | cons h _ ih =>
    rw [List.reverse_cons,List.reverse_cons]
    exact paired_app ih (.cons h .nil)
theorem DsIn.pair {bs qs:List Str} {H:Hp}:∀ (D:Ds) (vs:List V),DsIn bs qs H D vs→Paired (fun v d=>DdIn bs qs H d v) vs D.toL
  | .nil,vs,h=>by
    simp only [DsIn] at h
    subst h
    exact .nil
  | .cons d r,vs,h=>by
    simp only [DsIn] at h
    obtain ⟨v,vr,rfl,h1,h2⟩:=h
    exact .cons h1 (DsIn.pair r vr h2)
theorem Dd.size_pos (d:Dd):1≤d.size:=by
  cases d <;> simp only [Dd.size] <;> omega
theorem szL_len:∀ S:List Dd,S.length≤szL S
  | []=>Nat.le_refl _
  | d :: S=>by
    have a:=szL_len S
    have b:=d.size_pos
    show S.length + 1≤(d.size :: (S.map Dd.size)).sum
    rw [List.sum_cons]
    show S.length + 1≤d.size + szL S
    omega
theorem szL_cons (d:Dd) (S:List Dd):szL (d :: S)=d.size + szL S:=by
  show (d.size :: (S.map Dd.size)).sum=_
  rw [List.sum_cons]
  rfl
theorem sh_out {h:Ev} {ds:List Int} {d:Dd} {w:Wk} {p:Wk×Ds} (e:shD h ds d w=.ok p):p.1.out.length≤w.out.length + 1:=by
  cases d with
  | pull q x o =>
    simp only [shD] at e
    split at e <;> cases e <;> exact Nat.le_succ _
  | ife f t e' =>
    simp only [shD] at e
    split at e <;> cases e
    exact Nat.le_succ _
  | put x f=>simp only [shD,doD,rck,fillW] at e; (repeat' split at e) <;> cases e <;> simp_all <;> (repeat' split at *) <;> simp_all <;> subst_vars <;> simp
  | push q f=>simp only [shD,doD,rck] at e; (repeat' split at e) <;> cases e <;> simp_all <;> (repeat' split at *) <;> simp_all <;> subst_vars <;> simp
  | draw x f=>simp only [shD,doD,rck,fillW] at e; (repeat' split at e) <;> cases e <;> simp_all <;> (repeat' split at *) <;> simp_all <;> subst_vars <;> simp
  | send to sg sp rk a b=>simp only [shD,doD,rck,sendW] at e; (repeat' split at e) <;> cases e <;> simp_all <;> (repeat' split at *) <;> simp_all <;> subst_vars <;> simp
  | fin=>simp only [shD,doD] at e; (repeat' split at e) <;> cases e <;> simp_all <;> subst_vars <;> simp
section
variable {P:Program} {w:World} {K:PySem.W.Frag} {mg:Str→Option Value} {base:Heap} {f fO fC:Addr} {fd fdO fdC:FuncData} {bs qs:List Str}
seal L2.PS L2.PSs L2.PE L2.PA L2.PT L2.PW L2.PI L2.PG L2.PGs L2.PC
abbrev pLd:List Str:=["_law_machines","_law_state","_law_happening"]
abbrev nLd:List Str:=pLd++(["_law_key","_law_at","_law_sign","_law_one","_law_other","_law_machine","_law_work","_law_heard","_law_deeds","_law_touched","_law_news","_law_deed","_law_fault","_law_writes"]:List Str)
theorem scLd:FnScope nLd pLd (defScope s_law_done):=⟨rfl,rfl,rfl,by decide +kernel,rfl,by decide +kernel,by decide +kernel⟩
theorem ndLd:((["_law_name","_law_worth"]:List Str)++nLd).Nodup:=by decide +kernel
theorem ndLe:((["_law_name"]:List Str)++nLd).Nodup:=by decide +kernel
structure LdOk (bs qs:List Str) (H G:Hp) (h:Ev) (w:Wk) (t l rc:Addr):Prop where
  sm:Same H G
  ht:G t=some (.tup [.ref l,.ref rc,.bl w.en])
  hl:SlIn G l w.bx w.qu w.dr w.se
  hrc:RcIn G (.ref rc) ⟨h,wrB bs w,wrQ qs w,w.out⟩
def spLd (bs qs:List Str):Sp:=fun vs H Q _=>∃ (ml sl:Addr) (ms:List V) (hv mv:V) (h:Ev) (ds:List Int) (hs:List (Str×Ds)) (bx:List (Str×Int)) (qu:List (Str×List Int)) (dr:Nat) (se:Int),vs=[.ref ml,.ref sl,hv]∧H ml=some (.lst ms) ∧
  EvIn H hv h∧atI ms h.to=some mv∧MaIn bs qs ds hs H mv∧SlIn H sl bx qu dr se∧WkOk bs qs (w0 bx qu dr se)∧Wo h.t∧Wo h.a∧Wo h.b∧ds.length≤1000∧(hs.map (·.1)).Nodup∧(dsOf hs h.sg).size < 10000∧("the end":Str)∉bs++qs ∧
  match doS h ds (dsOf hs h.sg) (w0 bx qu dr se) with
  | .ok w'=>∀ (G:Hp) (t l rc:Addr),LdOk bs qs H G h w' t l rc→Q (.ref t) G
  | .error e=>∀ G,Same H G→Q (.str (wordF e)) G
theorem ok_ld (D:Df K mg "_law_done" s_law_done pLd f fd) (DO:Df K mg "_law_one_deed" s_law_one_deed pOd fO fdO) (GO:FnOk P w K mg base CX0 18 fO fdO pOd (spOd bs qs)) (DC:Df K mg "_law_copy" s_law_copy ["_law_state"] fC fdC) (B:Bl mg):FnOk P w K mg base CX0 19 f fd pLd (spLd bs qs):=by
  have GC:FnOk P w K mg base CX0 1 fC fdC ["_law_state"] spCp:=ok_cp DC B
  refine D.F.ok scLd (fun vs H Q E h=>?_) (fun cdv A outer s H vs Q E hr h=>?_)
  · obtain ⟨ml,sl,ms,hv,mv,h,ds,hs,bx,qu,dr,se,rfl,_⟩:=h
    rfl
  obtain ⟨ml,sl,ms,hv,mv,h,ds,hs,bx,qu,dr,se,rfl,hml,hE,hmv,hM,hS,ok,wt,wa,wb,ld,ndh,szd,nte,p⟩:=h
  have hu:=hu_of hr
  have r1:Room 1 _:=hr.mono (by omega)
  refine ⟨_,pss_cons (ps_asg (pv 2) (pg_tup rfl (pgs_cons (pg_name (i:=3) scLd.nd rfl (Or.inl rfl)) (pgs_cons (pg_name (i:=4) scLd.nd rfl (Or.inl rfl)) (pgs_cons (pg_name (i:=5) scLd.nd rfl (Or.inl rfl)) (pgs_cons (pg_name (i:=6) scLd.nd rfl (Or.inl rfl)) (pgs_cons (pg_name (i:=7) scLd.nd rfl (Or.inl rfl)) pgs_nil)))))))
    (pss_cons (ps_set (i:=8) scLd.nd rfl (Or.inl rfl) (pe_ix ix_list (pv 0) (pv 4) (fun _ _=>rfl)))
    (pss_cons (ps_set (i:=1) scLd.nd rfl (by first | exact Or.inl rfl | exact Or.inr rfl) (pe_call GC r1 (by rfl) DC.m DC.F.kp DC.b .nil pass0 (pa_n (pv 1) pa_nil)))
    (pss_cons (ps_set (i:=9) scLd.nd rfl (Or.inl rfl) (pe_lst pa_nil))
    (pss_cons (ps_for PassesOwn.never rfl (pi_list (pe_ix ix_tup (pv 8) pe_int (fun _ _=>rfl))) (pg_tup rfl (pgs_cons (pg_name (i:=10) scLd.nd rfl (Or.inl rfl)) (pgs_cons (pg_name (i:=11) scLd.nd rfl (Or.inl rfl)) pgs_nil))) (pss_one (ps_if (pt_cmpR op_eq (pv 10) (pv 5) (nomark _)) (pss_one (ps_set (i:=9) scLd.nd rfl (Or.inl rfl) (pe_rev (pv 11) (po_some (pe_un un_neg pe_int))))) pss_nil)))
    (pss_cons (ps_set (i:=12) scLd.nd rfl (by first | exact Or.inl rfl | exact Or.inr rfl) (pe_lst pa_nil))
    (pss_cons (ps_set (i:=13) scLd.nd rfl (by first | exact Or.inl rfl | exact Or.inr rfl) (pe_lst pa_nil))
    (pss_cons (ps_while PassesOwn.never (pt_cmpR op_gt (pe_callB (call_lenK K (by rfl)) (by rfl) B.len PySem.boot_len (pa_n (pv 9) pa_nil)) pe_int (nomark _)) (pss_cons (ps_set (i:=14) scLd.nd rfl (Or.inl rfl) (pe_bm0 PySem.F.plainAttrs_list PySem.F.slot_list_pop PySem.F.type_list_pop mt_pop (pv 9)))
    (pss_cons (ps_set (i:=15) scLd.nd rfl (Or.inl rfl) (pe_call GO hr (by rfl) DO.m DO.F.kp DO.b .nil pass0 (pa_n (pv 14) (pa_n (pv 1) (pa_n (pv 3) (pa_n (pv 4) (pa_lst (pe_lst (pa_n (pv 6) (pa_n (pv 7) pa_nil))) (pa_s (pe_ix ix_tup (pv 8) pe_int (fun _ _=>rfl)) (pa_n (pv 12) (pa_n (pv 13) (pa_n (pv 9) pa_nil)))))))))))
    (pss_one (ps_if (pt_cmpR op_ne (pv 15) pe_str (nomark _)) (pss_one (ps_ret (pv 15))) pss_nil)))))
    (pss_cons (ps_comp (i:=16) ["_law_name","_law_worth"] (CompOk.open (NN:=nLd) (N:=nLd) (sc:=defScope s_law_done) rfl rfl (by decide +kernel) rfl (by decide +kernel) (by decide +kernel) rfl (by decide +kernel)) rfl scLd.nd rfl (Or.inl rfl) (pi_list (pe_ix ix_tup (pv 8) pe_int (fun _ _=>rfl))) (fun _ _ _ _=>pg_tupK (n:=2) K (by rfl) rfl (pgs_cons (pg_name (i:=0) ndLd rfl (Or.inl rfl)) (pgs_cons (pg_name (i:=1) ndLd rfl (Or.inl rfl)) pgs_nil))) (fun _ _ _ _=>pts_one (pt_cmpR (op_inK K (by rfl)) (pv 0) (pv 14) (by rfl))) (fun _ _ _ _=>pe_tup (pa_n (pv 0) (pa_s (pe_dget (by exact hu) (pe_ix (ix_listK K (by rfl)) (pv 3) pe_int (by intro _ _; rfl)) (pv 0) (by intro _ _; rfl)) pa_nil))))
    (pss_cons (ps_set (i:=16) scLd.nd rfl (by first | exact Or.inl rfl | exact Or.inr rfl) (pe_op op_cat (pv 16) (pe_comp ["_law_name"] (CompOk.open (NN:=nLd) (N:=nLd) (sc:=defScope s_law_done) rfl rfl (by decide +kernel) rfl (by decide +kernel) (by decide +kernel) rfl (by decide +kernel)) rfl (pi_list (pe_ix ix_tup (pv 8) pe_int (fun _ _=>rfl))) (fun _ _ _ _=>pg_name (i:=0) ndLe rfl (Or.inl rfl)) (fun _ _ _ _=>pts_one (pt_cmpR (op_inK K (by rfl)) (pv 0) (pv 13) (by rfl))) (fun _ _ _ _=>pe_tup (pa_n (pv 0) (pa_f (pe_callTy (list_ofK K (by rfl)) (by rfl) B.list boot_list (pa_s (pe_dget (by exact hu) (pe_ix (ix_listK K (by rfl)) (pv 2) pe_int (by intro _ _; rfl)) (pv 0) (by intro _ _; rfl)) pa_nil)) pa_nil))))))
    (pss_one (ps_ret (pe_tup (pa_n (pv 1) (pa_tup (pe_tup (pa_n (pv 3) (pa_n (pv 4) (pa_n (pv 5) (pa_n (pv 6) (pa_n (pv 7) (pa_n (pv 16) (pa_n (pv 13) pa_nil)))))))) (pa_cons (pe_cmpR op_in_seq pe_str (pv 12) (by rfl)) pa_nil))))))))))))))),?_⟩
  have big:=line1000
  obtain ⟨th,kh,rfl,hth,hkh⟩:=id hE
  obtain ⟨tm,bl,ql,dl,hl,nm,vb,hvs,rfl,htm,hbl,pb,hql,hdl,hhl,ph⟩:=hM.ex
  -- key, at, sign, one, other = happening
  refine seq_i (asg_i ?_)
  refine ⟨_,rfl,th,_,rfl,SqT.of hth,rfl,_,_,rfl,_,_,rfl,_,_,rfl,_,_,rfl,_,_,rfl,rfl,?_⟩
  dsimp only
  refine seq_i (asg_i ?_)
  refine ⟨_,rfl,_,rfl,ml,_,_,_,rfl,rfl,SqL.of hml,hmv,?_⟩
  refine gname_i ?_
  dsimp only
  refine seq_i (asg_i ?_)
  refine ⟨_,rfl,sl,bx,qu,dr,se,rfl,hS,(by have z:=ok.nq; rw [← ok.kq] at z; exact z),(by have z:=ok.fw; have e:=congrArg List.length ok.kq; rw [List.length_map] at e; rw [List.length_append] at z; have e2:qu.length=qs.length:=e; omega),fun Gc l bd qd qa C=>?_⟩
  refine gname_i ?_
  dsimp only
  refine seq_i (asg_i ?_)
  refine ⟨Nat.zero_le _,fun w1 hw1=>?_⟩
  refine gname_i ?_
  dsimp only
  have s1:=same_new hw1 (.lst [])
  refine seq_i ?_
  refine ⟨_,rfl,tm,_,_,_,rfl,rfl,SqT.of (s1 _ _ (C.sm _ _ htm)),rfl,hl,rfl,⟨_,SqL.of (s1 _ _ (C.sm _ _ hhl))⟩,?_⟩
  refine for_list (K:=K) (a:=hl) (xs:=hvs) (fun i σ G=>∃ (u10 u11:Option V) (wl:Addr) (vs:List V) (DD:Ds),σ=[some (.ref ml),some (.ref l),some (.ref th),some (.ref kh),some (.int h.to),some (.str h.sg),some (.int h.a),some (.int h.b),some (.ref tm),some (.ref wl),u10,u11,none,none,none,none,none] ∧
      Same Gc G∧Gc wl=none∧G wl=some (.lst vs.reverse)∧vs.length < 1000∧DsIn bs qs H DD vs∧((DD=.nil∧∀ j q,j < i→hs[j]?=some q→q.1≠h.sg)∨∃ j q,j < i∧hs[j]?=some q∧q.1=h.sg∧DD=q.2))
    ⟨_,_,w1,[],.nil,rfl,s1,hw1,upd_same,(by show 0 < 1000; decide),(by simp only [DsIn]),.inl ⟨rfl,fun j q hj=>absurd hj (Nat.not_lt_zero _)⟩⟩ ?_ ?_ ?_
  · rintro i σ G _ ⟨_,_,wl,vs,DD,rfl,sG,_⟩
    exact SqL.of (sG _ _ (C.sm _ _ hhl))
  · rintro i x σ G hi ⟨u10,u11,wl,vs,DD,rfl,sG,nwl,hwl,lvs,hDD,inv⟩
    obtain ⟨q,hq,tq,uq,rfl,htq,lq,vq,rfl,hlq,lvq,hDq⟩:=pair_drop ph hi
    have sHG:=C.sm.trans sG
    refine ⟨tq,_,rfl,SqT.of (sHG _ _ htq),rfl,_,_,rfl,_,_,rfl,rfl,?_⟩
    dsimp only
    refine ⟨_,rfl,_,rfl,rfl,_,rfl,ite2 (fun c=>?_) (fun c=>next_i ?_)⟩
    · have c:q.1=h.sg:=str_eq (dec_t c)
      refine asg_i ?_
      refine ⟨_,rfl,_,rfl,_,rfl,rfl,lq,vq,rfl,SqL.of (sHG _ _ hlq),fun pr hpr=>?_⟩
      refine gname_i ?_
      exact ⟨_,_,pr,vq,q.2,rfl,sG.trans (same_new hpr _),none_of sG hpr,upd_same,lvq,hDq,.inr ⟨i,q,Nat.lt_succ_self _,hq,c,rfl⟩⟩
    · have c:q.1≠h.sg:=fun z=>dec_f c (by rw [z])
      refine ⟨_,_,wl,vs,DD,rfl,sG,nwl,hwl,lvs,hDD,inv.elim (fun z=>.inl ⟨z.1,fun j q' hj hq'=>?_⟩) fun ⟨j,q',z1,z2,z3,z4⟩=>.inr ⟨j,q',Nat.lt_succ_of_lt z1,z2,z3,z4⟩⟩
      rcases Nat.lt_or_eq_of_le (Nat.le_of_lt_succ hj) with y | y
      · exact z.2 j q' y hq'
      · subst y
        rw [hq] at hq'
        cases hq'
        exact c
  rintro σ G1 ⟨u10,u11,wl,vs,DD,rfl,sG,nwl,hwl,lvs,hDD,inv⟩
  dsimp only
  have eD:dsOf hs h.sg=DD:=by
    unfold dsOf
    rcases inv with ⟨z1,z2⟩ | ⟨j,q,_,z2,z3,z4⟩
    · cases y:hs.lookup h.sg with
      | none=>rw [z1]; rfl
      | some a =>
        obtain ⟨j,hj⟩:=List.getElem?_of_mem (look_mem y)
        have lj:=(List.getElem?_eq_some_iff.mp hj).1
        exact absurd rfl (z2 j _ (by rw [Paired.length ph]; exact lj) hj)
    · rw [← z3,look_nd ndh z2,z4]
      rfl
  rw [eD] at p szd
  refine seq_i (asg_i ?_)
  refine ⟨Nat.zero_le _,fun tl htl=>?_⟩
  refine gname_i ?_
  dsimp only
  have s2:=same_new htl (.lst [])
  refine seq_i (asg_i ?_)
  refine ⟨Nat.zero_le _,fun nl hnl=>?_⟩
  refine gname_i ?_
  dsimp only
  have s3:=same_new hnl (.lst [])
  have sGG:=sG.trans (s2.trans s3)
  have g0:Rg bs qs H (upd (upd G1 tl (.lst [])) nl (.lst [])) ⟨l,bd,qd,tl,nl,wl,qa⟩ h (w0 bx qu dr se) [] vs.reverse:=by
    have ntl:=none_of sG htl
    have nnl:=none_of (sG.trans s2) hnl
    have tlnl:tl≠nl:=ne_of_none (upd_same:upd G1 tl (.lst []) tl=_) hnl
    have tlwl:tl≠wl:=(ne_of_none hwl htl).symm
    have nlwl:nl≠wl:=(ne_of_none (s2 _ _ hwl) hnl).symm
    have thr:∀ a∈l :: bd :: qd :: qa.map (·.2),∃ o,Gc a=some o:=fun a ha=>by
      rcases List.mem_cons.mp ha with z | ha
      · rw [z]; exact ⟨_,C.hl⟩
      rcases List.mem_cons.mp ha with z | ha
      · rw [z]; exact ⟨_,C.hb⟩
      rcases List.mem_cons.mp ha with z | ha
      · rw [z]; exact ⟨_,C.hq⟩
      obtain ⟨pp,hpp,e⟩:=List.mem_map.mp ha
      obtain ⟨j,hj⟩:=List.getElem?_of_mem hpp
      obtain ⟨_,_,_,y⟩:=C.hqs.nth hj
      rw [← e]
      exact ⟨_,y⟩
    have out:∀ {b:Addr},Gc b=none→b∉l :: bd :: qd :: qa.map (·.2):=fun {b} n m=>by
      obtain ⟨o,z⟩:=thr b m
      rw [n] at z
      cases z
    have o1:=out ntl
    have o2:=out nnl
    have o3:=out nwl
    refine ⟨C.sm.trans sGG,sGG _ _ C.hl,sGG _ _ C.hb,sGG _ _ C.hq,C.hqs.same sGG,s3 _ _ upd_same,⟨[],upd_same,.nil⟩,s3 _ _ (s2 _ _ hwl),?_,?_,ok,wt,wa,wb,fun x _=>Iff.rfl,⟨fun z=>(by cases z),fun z=>(by cases z)⟩,nte⟩
    · have nd:=C.nd
      show (l :: bd :: qd :: tl :: nl :: wl :: qa.map (·.2)).Nodup
      simp only [List.nodup_cons,List.mem_cons,not_or] at nd o1 o2 o3 ⊢
      obtain ⟨⟨d1,d2,d3⟩,⟨d4,d5⟩,d6,d7⟩:=nd
      obtain ⟨a1,a2,a3,a4⟩:=o1
      obtain ⟨b1,b2,b3,b4⟩:=o2
      obtain ⟨c1,c2,c3,c4⟩:=o3
      exact ⟨⟨d1,d2,Ne.symm a1,Ne.symm b1,Ne.symm c1,d3⟩,⟨d4,Ne.symm a2,Ne.symm b2,Ne.symm c2,d5⟩,⟨Ne.symm a3,Ne.symm b3,Ne.symm c3,d6⟩,⟨tlnl,tlwl,a4⟩,⟨nlwl,b4⟩,c4,d7⟩
    · intro a ha
      change a∈l :: bd :: qd :: tl :: nl :: wl :: qa.map (·.2) at ha
      simp only [List.mem_cons] at ha
      have fr:=C.fr
      rcases ha with z | z | z | z | z | z | z
      · exact fr a (by rw [z]; exact List.mem_cons_self)
      · exact fr a (by rw [z]; exact List.mem_cons_of_mem _ List.mem_cons_self)
      · exact fr a (by rw [z]; exact List.mem_cons_of_mem _ (List.mem_cons_of_mem _ List.mem_cons_self))
      · rw [z]; exact none_of C.sm ntl
      · rw [z]; exact none_of C.sm nnl
      · rw [z]; exact none_of C.sm nwl
      · exact fr a (List.mem_cons_of_mem _ (List.mem_cons_of_mem _ (List.mem_cons_of_mem _ z)))
  generalize upd (upd G1 tl (.lst [])) nl (.lst [])=G2 at g0
  generalize hL:(⟨l,bd,qd,tl,nl,wl,qa⟩:RL)=L at g0
  have e1:l=L.l:=by rw [← hL]
  have e2:wl=L.wl:=by rw [← hL]
  have e3:tl=L.tl:=by rw [← hL]
  have e4:nl=L.nl:=by rw [← hL]
  rw [e1,e2,e3,e4]
  clear e1 e2 e3 e4 hL
  have pS:=paired_rev (DsIn.pair DD vs hDD)
  rw [doS_L] at p
  have szS:szL DD.toL < 10000:=by rw [szL_toL]; exact szd
  generalize DD.toL=S0 at p szS pS
  generalize vs.reverse=wv at g0 pS
  clear inv eD hDD hwl nwl sG sGG s1 s2 s3 htl hnl hw1 lvs
  refine seq_i ?_
  refine ⟨fun m σ G=>∃ (S:List Dd) (wk:Wk) (tc:List Str) (ws:List V) (u14 u15:Option V),σ=[some (.ref ml),some (.ref L.l),some (.ref th),some (.ref kh),some (.int h.to),some (.str h.sg),some (.int h.a),some (.int h.b),some (.ref tm),some (.ref L.wl),u10,u11,some (.ref L.tl),some (.ref L.nl),u14,u15,none] ∧
      Rg bs qs H G L h wk tc ws∧Paired (fun v d=>DdIn bs qs H d v) ws S.reverse∧doL h ds S wk=doL h ds S0 (w0 bx qu dr se)∧m=szL S∧szL S < 10000∧wk.out.length + szL S < 20000∧tc.length + 2 * szL S < 40000,⟨_,S0,w0 bx qu dr se,[],wv,_,_,rfl,g0,pS,rfl,rfl,szS,(by show 0 + _ < _; omega),(by show 0 + _ < _; omega)⟩,?_⟩
  rintro m σ G ⟨S,wk,tc,ws,u14,u15,rfl,g,pw,eL,rfl,bS,bo,bt⟩
  refine det_len (K:=K) rfl g.hw _ ?_
  have lw:ws.length=S.length:=by
    have z:=Paired.length pw
    rw [List.length_reverse] at z
    exact z
  cases S with
  | cons d r =>
    rw [decide_eq_true (show (0:Int) < ws.length by rw [lw]; show (0:Int) < ((r.length + 1:Nat):Int); omega)]
    refine iteT ?_
    refine ⟨fun σ' G'=>∃ m',m' < szL (d :: r)∧∃ (S:List Dd) (wk:Wk) (tc:List Str) (ws:List V) (u14 u15:Option V),σ'=[some (.ref ml),some (.ref L.l),some (.ref th),some (.ref kh),some (.int h.to),some (.str h.sg),some (.int h.a),some (.int h.b),some (.ref tm),some (.ref L.wl),u10,u11,some (.ref L.tl),some (.ref L.nl),u14,u15,none] ∧
      Rg bs qs H G' L h wk tc ws∧Paired (fun v d=>DdIn bs qs H d v) ws S.reverse∧doL h ds S wk=doL h ds S0 (w0 bx qu dr se)∧m'=szL S∧szL S < 10000∧wk.out.length + szL S < 20000∧tc.length + 2 * szL S < 40000,fun _ _ z=>z,?_⟩
    rw [List.reverse_cons] at pw
    obtain ⟨ws0,v,rfl,pw0,hd⟩:=paired_snoc pw
    have lst:(ws0++[v])[(ws0++[v]).length - 1]?=some v:=by
      rw [List.length_append]
      show (ws0++[v])[ws0.length + 1 - 1]?=_
      rw [Nat.add_sub_cancel,List.getElem?_append_right (Nat.le_refl _),Nat.sub_self]
      rfl
    refine seq_i (asg_i ?_)
    refine ⟨_,rfl,.inl ⟨rfl,_,SqL.of g.hw⟩,L.wl,_,v,rfl,rfl,g.hw,lst,?_⟩
    rw [List.dropLast_concat]
    have g1:=g.work ws0
    generalize upd G L.wl (.lst ws0)=Ga at g1
    refine gname_i ?_
    dsimp only
    refine seq_i (asg_i ?_)
    refine ⟨_,rfl,_,rfl,_,rfl,_,rfl,_,rfl,_,rfl,lt2,fun gl hgl=>?_⟩
    have s4:=same_new hgl (.lst [.int h.a,.int h.b])
    have g2:=g1.same s4
    have hgl2:upd Ga gl (.lst [.int h.a,.int h.b]) gl=some (.lst [.int h.a,.int h.b]):=upd_same
    generalize upd Ga gl (.lst [.int h.a,.int h.b])=Gb at g2 hgl2
    have szd:=szL_cons d r
    have dpos:=d.size_pos
    have lr:=szL_len r
    have lw0:ws0.length=r.length:=by
      have z:=Paired.length pw0
      rw [List.length_reverse] at z
      exact z
    refine ⟨_,rfl,tm,_,_,_,rfl,rfl,SqT.of (g2.sm _ _ htm),rfl,_,rfl,_,rfl,_,rfl,H,L,h,ds,wk,tc,ws0,v,kh,gl,dl,d,rfl,g2,hd,hkh,hgl2,hdl,ld,(by omega),(by omega),(by omega),?_⟩
    rw [doL_step] at eL
    cases es:shD h ds d wk with
    | error e =>
      rw [es] at eL
      change Except.error e=_ at eL
      rw [← eL] at p
      intro G' sm'
      refine gname_i ?_
      dsimp only
      refine ⟨_,rfl,rfl,_,rfl,?_⟩
      refine iteE (b:=true) (by cases e <;> rfl) (iteT ?_)
      exact ⟨_,rfl,p G' sm'⟩
    | ok q =>
      rw [es] at eL
      change doL h ds (q.2.toL++r) q.1=_ at eL
      rintro G' vs' hvs' ⟨tc',ltc',g3⟩
      have zs:=sh_size es
      have zo:=sh_out es
      have zz:szL (q.2.toL++r)=q.2.size + szL r:=by rw [szL_app,szL_toL]
      refine gname_i ?_
      dsimp only
      refine ⟨_,rfl,rfl,_,rfl,?_⟩
      refine iteE (b:=false) rfl (iteF (next_i ?_))
      refine ⟨_,(by rw [zz]; omega),q.2.toL++r,q.1,tc',ws0++vs'.reverse,_,_,rfl,g3,?_,eL,rfl,(by omega),(by omega),(by omega)⟩
      rw [List.reverse_append]
      exact paired_app pw0 (paired_rev (DsIn.pair _ _ hvs'))
  | nil =>
    have e:ws=[]:=List.eq_nil_of_length_eq_zero lw
    subst e
    refine iteF ?_
    change Except.ok wk=_ at eL
    rw [← eL] at p
    dsimp only at p ⊢
    clear eL pw bS bo bt lw g0 pS szS szd
    have fw:=g.ok.fw
    rw [List.length_append] at fw
    have htm':=g.sm _ _ htm
    have inT:∀ x:Str,inV (.str x) (tc.map V.str)=decide (x∈tc):=fun x=>in_strs x tc
    have ftc:∀ x∈bs++qs,decide (x∈tc)=decide (x∈wk.wr):=fun x hx=>by
      by_cases c:x∈tc
      · rw [decide_eq_true c,decide_eq_true ((g.tw x hx).mp c)]
      · rw [decide_eq_false c,decide_eq_false (fun z=>c ((g.tw x hx).mpr z))]
    refine seq_i (asg_i ?_)
    refine comp_ixT (K:=K) (a:=bl) (xs:=vb) rfl (SqT.of htm') rfl (SqL.of (g.sm _ _ hbl)) (fun i ys G'=>Same G G'∧Paired (WbIn G') ys (((bs.take i).filter fun x=>decide (x∈wk.wr)).map fun x=>(x,getB wk.bx x))) ⟨Same.refl _,by rw [List.take_zero]; exact .nil⟩ ?_ ?_ ?_
    · rintro i ys G' hi ⟨sm',pw'⟩
      have lf:(((bs.take i).filter fun x=>decide (x∈wk.wr)).map fun x=>(x,getB wk.bx x)).length≤bs.length:=by
        rw [List.length_map]
        refine Nat.le_trans (List.length_filter_le _ _) ?_
        rw [List.length_take]
        omega
      have lw:=Paired.length pw'
      exact ⟨SqL.of (sm' _ _ (g.sm _ _ hbl)),by omega⟩
    · rintro i x ys G' hi ⟨sm',pw'⟩
      have g1:=g.same sm'
      obtain ⟨y,hy,a,n,rfl,ha⟩:=pair_drop pb hi
      have ha:=g1.sm _ _ ha
      have my:y∈bs:=List.mem_of_getElem? hy
      have ft:=filter_take (p:=fun x=>decide (x∈wk.wr)) hy
      refine ⟨a,_,rfl,SqT.of ha,rfl,_,_,rfl,_,_,rfl,rfl,rfl,?_⟩
      refine ⟨_,rfl,_,rfl,L.tl,_,rfl,.inl (SqL.of g1.ht),rfl,flat_strs tc,_,rfl,?_⟩
      show (if (if false=true then !inV (.str y) (tc.map V.str) else inV (.str y) (tc.map V.str))=true then _ else _)
      rw [if_neg (by decide:¬ (false=true)),inT,ftc y (List.mem_append_left _ my)]
      by_cases c:y∈wk.wr
      · rw [if_pos (decide_eq_true c)] at ft
        rw [decide_eq_true c]
        refine iteT ?_
        refine ⟨_,rfl,_,rfl,L.l,_,_,_,rfl,rfl,SqL.of g1.hl,rfl,_,rfl,L.bd,_,rfl,(by have z:=DGet.k (k:=Sum.inr y) g1.hb; rw [box_at (by rw [g1.ok.kb]; exact my)] at z; exact z),lt2,fun tt htt=>?_⟩
        have st_:=same_new htt (.tup [.str y,.int (getB wk.bx y)])
        refine ⟨sm'.trans st_,?_⟩
        rw [ft,List.map_append]
        exact Paired.snoc (Paired.mono (fun _ _ z=>z.keep fun b xs e=>st_ _ _ e) pw') ⟨tt,rfl,upd_same⟩
      · rw [if_neg (by rw [decide_eq_false c]; decide),List.append_nil] at ft
        rw [decide_eq_false c]
        refine iteF ⟨sm',?_⟩
        rw [ft]
        exact pw'
    rintro ws1 G3 ⟨sm3,pw1⟩ wl1 hwl1
    have ev1:vb.length=bs.length:=Paired.length pb
    rw [ev1,List.take_length] at pw1
    have s5:=same_new hwl1 (.lst ws1)
    have hw1':upd G3 wl1 (.lst ws1) wl1=some (.lst ws1):=upd_same
    have pw1':=Paired.mono (S:=WbIn (upd G3 wl1 (.lst ws1))) (fun _ _ z=>z.keep fun b xs e=>s5 _ _ e) pw1
    have sm4:=sm3.trans s5
    generalize upd G3 wl1 (.lst ws1)=G4 at hw1' pw1' sm4
    clear pw1 s5 hwl1 sm3
    have g4:=g.same sm4
    refine gname_i ?_
    dsimp only
    refine seq_i (asg_i ?_)
    refine ⟨_,rfl,?_⟩
    refine comp_ixT (K:=K) (a:=ql) (xs:=qs.map V.str) rfl (SqT.of (g4.sm _ _ htm)) rfl (SqL.of (g4.sm _ _ hql)) (fun i ys G'=>∃ qa:List (Str×Addr),Same G4 G'∧Paired (WqIn G') ys qa∧QuIn G' qa (((qs.take i).filter fun x=>decide (x∈wk.wr)).map fun x=>(x,getQ wk.qu x))) ⟨[],Same.refl _,.nil,by rw [List.take_zero]; exact .nil⟩ ?_ ?_ ?_
    · rintro i ys G' hi ⟨qa',sm',pw',pl'⟩
      have lf:(((qs.take i).filter fun x=>decide (x∈wk.wr)).map fun x=>(x,getQ wk.qu x)).length≤qs.length:=by
        rw [List.length_map]
        refine Nat.le_trans (List.length_filter_le _ _) ?_
        rw [List.length_take]
        omega
      have lw:=Paired.length pw'
      have lw2:=Paired.length pl'
      exact ⟨SqL.of (sm' _ _ (g4.sm _ _ hql)),by omega⟩
    · rintro i x ys G' hi ⟨qa',sm',pw',pl'⟩
      have g1:=g4.same sm'
      obtain ⟨y,hy,rfl⟩:∃ y,qs[i]?=some y∧x=.str y:=by
        rw [List.getElem?_map] at hi
        cases z:qs[i]? with
        | none =>
          rw [z] at hi
          cases hi
        | some y =>
          rw [z] at hi
          cases hi
          exact ⟨y,rfl,rfl⟩
      have my:y∈qs:=List.mem_of_getElem? hy
      have ft:=filter_take (p:=fun x=>decide (x∈wk.wr)) hy
      refine gname_i ⟨rfl,?_⟩
      refine ⟨_,rfl,_,rfl,L.tl,_,rfl,.inl (SqL.of g1.ht),rfl,flat_strs tc,_,rfl,?_⟩
      show (if (if false=true then !inV (.str y) (tc.map V.str) else inV (.str y) (tc.map V.str))=true then _ else _)
      rw [if_neg (by decide:¬ (false=true)),inT,ftc y (List.mem_append_right _ my)]
      by_cases c:y∈wk.wr
      · rw [if_pos (decide_eq_true c)] at ft
        rw [decide_eq_true c]
        obtain ⟨lz,h1,h2,h3⟩:=g1.getL my
        refine iteT ?_
        refine ⟨_,rfl,_,rfl,L.l,_,_,_,rfl,rfl,SqL.of g1.hl,rfl,_,rfl,L.qd,_,rfl,h3,lz,_,rfl,.inl (SqL.of h2),fun nq hnq=>⟨lt2,fun tt htt=>?_⟩⟩
        have sn:=same_new hnq (.lst ((getQ wk.qu y).map V.int))
        have st_:=same_new htt (.tup [.str y,.ref nq])
        refine ⟨qa'++[(y,nq)],(sm'.trans sn).trans st_,Paired.snoc (Paired.mono (fun _ _ z=>z.keep fun b xs e=>st_ _ _ (sn _ _ e)) pw') ⟨tt,rfl,upd_same⟩,?_⟩
        rw [ft,List.map_append]
        exact Paired.snoc ((pl'.same sn).same st_) ⟨rfl,st_ _ _ upd_same⟩
      · rw [if_neg (by rw [decide_eq_false c]; decide),List.append_nil] at ft
        rw [decide_eq_false c]
        refine iteF ⟨qa',sm',pw',?_⟩
        rw [ft]
        exact pl'
    rintro ws2 G5 ⟨qa',sm5,pw2,pl2⟩ w2 hw2
    rw [List.length_map,List.take_length] at pl2
    have s6:=same_new hw2 (.lst ws2)
    have l1:=Paired.length pw1'
    have l2:=Paired.length pw2
    have l3:=Paired.length pl2
    have lf1:((bs.filter fun x=>decide (x∈wk.wr)).map fun x=>(x,getB wk.bx x)).length≤bs.length:=by
      rw [List.length_map]
      exact List.length_filter_le _ _
    have lf2:((qs.filter fun x=>decide (x∈wk.wr)).map fun x=>(x,getQ wk.qu x)).length≤qs.length:=by
      rw [List.length_map]
      exact List.length_filter_le _ _
    refine ⟨wl1,w2,ws1,ws2,rfl,rfl,s6 _ _ (sm5 _ _ hw1'),upd_same,by omega,fun w3 hw3=>?_⟩
    have s7:=same_new hw3 (.lst (ws1++ws2))
    have sm7:=(sm5.trans s6).trans s7
    have g7:=g4.same sm7
    have r1':=Paired.mono (S:=WbIn (upd (upd G5 w2 (.lst ws2)) w3 (.lst (ws1++ws2)))) (fun _ _ z=>z.keep fun b xs e=>sm7 _ _ e) pw1'
    have r2':=Paired.mono (S:=WqIn (upd (upd G5 w2 (.lst ws2)) w3 (.lst (ws1++ws2)))) (fun _ _ z=>z.keep fun b xs e=>s7 _ _ (s6 _ _ e)) pw2
    have r3':=(pl2.same s6).same s7
    have r4':upd (upd G5 w2 (.lst ws2)) w3 (.lst (ws1++ws2)) w3=some (.lst (ws1++ws2)):=upd_same
    generalize upd (upd G5 w2 (.lst ws2)) w3 (.lst (ws1++ws2))=G7 at g7 r1' r2' r3' r4'
    refine gname_i ?_
    dsimp only
    refine ⟨_,rfl,_,rfl,_,rfl,_,rfl,_,rfl,_,rfl,_,rfl,_,rfl,(by show 7≤sizeLine; decide),fun rc hrc=>?_⟩
    have s8:=same_new hrc (.tup [.ref kh,.int h.to,.str h.sg,.int h.a,.int h.b,.ref w3,.ref L.nl])
    have g8:=g7.same s8
    refine ⟨_,rfl,L.tl,_,rfl,.inl (SqL.of g8.ht),rfl,flat_strs tc,(by show 3≤sizeLine; decide),fun t ht=>?_⟩
    have een:(if false=true then !inV (.str "the end") (tc.map V.str) else inV (.str "the end") (tc.map V.str))=wk.en:=by
      rw [if_neg (by decide:¬ (false=true)),inT]
      by_cases c:("the end":Str)∈tc
      · rw [decide_eq_true c,g.te.mp c]
      · rw [decide_eq_false c]
        cases z:wk.en with
        | false=>rfl
        | true=>exact absurd (g.te.mpr z) c
    rw [een]
    have s9:=same_new ht (.tup [.ref L.l,.ref rc,.bl wk.en])
    have g9:=g8.same s9
    have s89:=s8.trans s9
    obtain ⟨ov,ho1,ho2⟩:=g9.hn
    exact p _ t L.l rc ⟨g9.sm,upd_same,⟨L.bd,L.qd,L.qa,g9.hl,g9.hb,g9.hq,g9.hqs⟩,rc,kh,w3,L.nl,ws1,ws2,ov,qa',rfl,s9 _ _ upd_same,g9.sm _ _ hkh,s89 _ _ r4',Paired.mono (fun _ _ z=>z.keep fun b xs e=>s89 _ _ e) r1',Paired.mono (fun _ _ z=>z.keep fun b xs e=>s89 _ _ e) r2',r3'.same s89,ho1,ho2⟩
end
end My
namespace My
open PySem L2
theorem newp {p:Addr} {G:Hp} {a:Addr} (h:Purse G p) (n:G a=none):a≠p:=by
  obtain ⟨x,y,e⟩:=h
  exact (ne_of_none e n).symm
theorem FmIn.but {bs qs:List Str} {H H':Hp} {p:Addr} {v:V} {f:Fm} (pu:Purse H p) (b:But p H H') (h:FmIn bs qs H v f):FmIn bs qs H' v f:=h.mono fun t xs e=>KeepI.but pu b _ _ e (ni_tup xs)
section
variable {P:Program} {w:World} {K:PySem.W.Frag} {mg:Str→Option Value} {base:Heap} {f fD fP:Addr} {fd fdD fdP:FuncData}
seal L2.PS L2.PSs L2.PE L2.PA L2.PT L2.PW L2.PI L2.PG L2.PGs L2.PC
abbrev bs1:List Str:=["b"]
abbrev qs1:List Str:=["q"]
abbrev nPc:List Str:=["_law_purse_here","_law_one","_law_way"]
theorem scPc:FnScope nPc ["_law_purse_here"] (defScope s_law_piece):=⟨rfl,rfl,rfl,by decide +kernel,rfl,by decide +kernel,by decide +kernel⟩
def spPc:Sp:=fun vs H Q _=>∃ (p:Addr),vs=[.ref p]∧Purse H p∧∀ (v:V) (F:Fm) (H':Hp),FmIn bs1 qs1 H' v F→F.depth≤3→Purse H' p→But p H H'→Q v H'
theorem m7p:("part":Str)∈seven∧("rest":Str)∈seven∧("times":Str)∈seven∧("plus":Str)∈seven∧("less":Str)∈seven:=by decide +kernel
theorem ok_pc (D:Df K mg "_law_piece" s_law_piece ["_law_purse_here"] f fd) (DD:Df K mg "_law_draw" s_law_draw ["_law_purse_here","_law_out_of"] fD fdD):FnOk P w K mg base CX0 2 f fd ["_law_purse_here"] spPc:=by
  have GD:FnOk P w K mg base CX0 1 fD fdD ["_law_purse_here","_law_out_of"] spDraw:=ok_draw DD
  refine D.F.ok scPc (fun vs H Q E h=>?_) (fun cdv A outer s H vs Q E r1 h=>?_)
  · obtain ⟨p,rfl,_⟩:=h
    rfl
  obtain ⟨p,rfl,pu,k⟩:=h
  refine ⟨_,pss_cons (ps_set (i:=1) scPc.nd rfl (Or.inl rfl) (pe_ix ix_list (pe_lst (pa_tup (pe_tup (pa_c pe_str (pa_c pe_int pa_nil))) (pa_tup (pe_tup (pa_c pe_str (pa_c pe_int pa_nil))) (pa_tup (pe_tup (pa_c pe_str (pa_c pe_int pa_nil))) (pa_tup (pe_tup (pa_c pe_str (pa_c pe_str pa_nil))) (pa_tup (pe_tup (pa_c pe_str (pa_c pe_str pa_nil))) (pa_tup (pe_tup (pa_c pe_str pa_nil)) pa_nil))))))) (pe_call GD r1 (by rfl) DD.m DD.F.kp DD.b .nil pass0 (pa_n (pv 0) (pa_c pe_int pa_nil))) (fun _ _=>rfl)))
    (pss_cons (ps_set (i:=2) scPc.nd rfl (Or.inl rfl) (pe_call GD r1 (by rfl) DD.m DD.F.kp DD.b .nil pass0 (pa_n (pv 0) (pa_c pe_int pa_nil))))
    (pss_cons (ps_if (pt_cmpR op_eq (pv 2) pe_int (nomark _)) (pss_one (ps_ret (pe_tup (pa_c pe_str (pa_n (pv 1) (pa_tup (pe_tup (pa_c pe_str (pa_c pe_int pa_nil))) pa_nil)))))) pss_nil)
    (pss_cons (ps_if (pt_cmpR op_eq (pv 2) pe_int (nomark _)) (pss_one (ps_ret (pe_tup (pa_c pe_str (pa_tup (pe_tup (pa_c pe_str (pa_tup (pe_tup (pa_c pe_str (pa_b (pe_op op_pow pe_int pe_int) pa_nil))) (pa_tup (pe_tup (pa_c pe_str (pa_c pe_int pa_nil))) pa_nil)))) (pa_tup (pe_tup (pa_c pe_str (pa_c pe_int pa_nil))) pa_nil)))))) pss_nil)
    (pss_cons (ps_if (pt_cmpR op_eq (pv 2) pe_int (nomark _)) (pss_one (ps_ret (pe_tup (pa_c pe_str (pa_tup (pe_tup (pa_c pe_str (pa_b (pe_op op_pow pe_int pe_int) pa_nil))) (pa_n (pv 1) pa_nil)))))) pss_nil)
    (pss_cons (ps_if (pt_cmpR op_eq (pv 2) pe_int (nomark _)) (pss_one (ps_ret (pe_tup (pa_c pe_str (pa_tup (pe_tup (pa_c pe_str (pa_cons (pe_un un_neg (pe_op op_pow pe_int pe_int)) pa_nil))) (pa_n (pv 1) pa_nil)))))) pss_nil)
    (pss_cons (ps_if (pt_cmpR op_eq (pv 2) pe_int (nomark _)) (pss_one (ps_ret (pe_tup (pa_c pe_str (pa_tup (pe_tup (pa_c pe_str (pa_b (pe_op op_pow pe_int pe_int) pa_nil))) (pa_tup (pe_tup (pa_c pe_str (pa_b (pe_op op_add (pe_op op_pow pe_int pe_int) (pe_call GD r1 (by rfl) DD.m DD.F.kp DD.b .nil pass0 (pa_n (pv 0) (pa_c pe_int pa_nil)))) pa_nil))) pa_nil)))))) pss_nil)
    (pss_one (ps_ret (pv 1))))))))),?_⟩
  have big:=line1000
  have c15:CPow 10 15:=⟨by decide,by decide,by decide⟩
  have c8:CPow 10 8:=⟨by decide,by decide,by decide⟩
  have c7:CPow 10 7:=⟨by decide,by decide,by decide⟩
  obtain ⟨m7a,m7b,m7c,m7d,m7e⟩:=m7p
  refine seq_i (asg_i ?_)
  refine ⟨lt2,fun a0 h0=>⟨lt2,fun a1 h1=>⟨lt2,fun a2 h2=>⟨lt2,fun a3 h3=>⟨lt2,fun a4 h4=>⟨lt1',fun a5 h5=>⟨(by show 6≤sizeLine; decide),fun l hl=>?_⟩⟩⟩⟩⟩⟩⟩
  have s0:=same_new h0 (.tup [.str "number",.int 0])
  have s1:=same_new h1 (.tup [.str "number",.int 1])
  have s2:=same_new h2 (.tup [.str "got",.int 0])
  have s3:=same_new h3 (.tup [.str "box",.str "b"])
  have s4:=same_new h4 (.tup [.str "long",.str "q"])
  have s5:=same_new h5 (.tup [.str "now"])
  have s6:=same_new hl (.lst [.ref a0,.ref a1,.ref a2,.ref a3,.ref a4,.ref a5])
  have e0:=s6 _ _ (s5 _ _ (s4 _ _ (s3 _ _ (s2 _ _ (s1 _ _ (upd_same:upd H a0 (.tup [.str "number",.int 0]) a0=_))))))
  have e1:=s6 _ _ (s5 _ _ (s4 _ _ (s3 _ _ (s2 _ _ (upd_same:upd _ a1 (.tup [.str "number",.int 1]) a1=_)))))
  have e2:=s6 _ _ (s5 _ _ (s4 _ _ (s3 _ _ (upd_same:upd _ a2 (.tup [.str "got",.int 0]) a2=_))))
  have e3:=s6 _ _ (s5 _ _ (s4 _ _ (upd_same:upd _ a3 (.tup [.str "box",.str "b"]) a3=_)))
  have e4:=s6 _ _ (s5 _ _ (upd_same:upd _ a4 (.tup [.str "long",.str "q"]) a4=_))
  have e5:=s6 _ _ (upd_same:upd _ a5 (.tup [.str "now"]) a5=_)
  have e6:=(upd_same:upd (upd (upd (upd (upd (upd (upd H a0 (.tup [.str "number",.int 0])) a1 (.tup [.str "number",.int 1])) a2 (.tup [.str "got",.int 0])) a3 (.tup [.str "box",.str "b"])) a4 (.tup [.str "long",.str "q"])) a5 (.tup [.str "now"])) l (.lst [.ref a0,.ref a1,.ref a2,.ref a3,.ref a4,.ref a5]) l=_)
  have sm:=(((((s0.trans s1).trans s2).trans s3).trans s4).trans s5).trans s6
  generalize upd (upd (upd (upd (upd (upd (upd H a0 (.tup [.str "number",.int 0])) a1 (.tup [.str "number",.int 1])) a2 (.tup [.str "got",.int 0])) a3 (.tup [.str "box",.str "b"])) a4 (.tup [.str "long",.str "q"])) a5 (.tup [.str "now"])) l (.lst [.ref a0,.ref a1,.ref a2,.ref a3,.ref a4,.ref a5])=G7 at e0 e1 e2 e3 e4 e5 e6 sm
  clear s0 s1 s2 s3 s4 s5 s6 h1 h2 h3 h4 h5 hl
  have pick:∀ r:Int,0≤r→r < 6→∃ u F,atI [V.ref a0,.ref a1,.ref a2,.ref a3,.ref a4,.ref a5] r=some u∧FmIn bs1 qs1 G7 u F∧F.depth≤1:=fun r r0 r1=>by
    have hr:r=0∨r=1∨r=2∨r=3∨r=4∨r=5:=by omega
    rcases hr with rfl | rfl | rfl | rfl | rfl | rfl
    · exact ⟨_,.num 0,rfl,.num e0 (by unfold Wo; omega),Nat.le_refl _⟩
    · exact ⟨_,.num 1,rfl,.num e1 (by unfold Wo; omega),Nat.le_refl _⟩
    · exact ⟨_,.got false,rfl,.got (j:=false) e2,Nat.le_refl _⟩
    · exact ⟨_,.box "b",rfl,.box e3 List.mem_cons_self,Nat.le_refl _⟩
    · exact ⟨_,.long "q",rfl,.long e4 List.mem_cons_self,Nat.le_refl _⟩
    · exact ⟨_,.now,rfl,.now e5,Nat.le_refl _⟩
  refine ⟨_,rfl,p,6,rfl,pu.same sm,by decide,by decide,fun r G r0 r1' puG bG=>?_⟩
  obtain ⟨u,F,hu,hF,dF⟩:=pick r r0 r1'
  have hl6:l≠p:=by
    obtain ⟨x,y,e⟩:=pu.same sm
    exact ne_of e6 e (by intro z; cases z)
  refine ⟨l,_,_,_,rfl,rfl,SqL.of (bG _ _ e6 hl6),hu,?_⟩
  refine gname_i ?_
  dsimp only
  have hF1:=hF.but (pu.same sm) bG
  have b1:But p H G:=(But.same (But.refl p H) sm).trans bG
  refine seq_i (asg_i ?_)
  refine ⟨_,rfl,p,8,rfl,puG,by decide,by decide,fun wy G2 wy0 wy1 pu2 b2=>?_⟩
  refine gname_i ?_
  dsimp only
  have hF2:=hF1.but puG b2
  have b02:=b1.trans b2
  clear hF hF1 pick e0 e1 e2 e3 e4 e5 e6 b1 bG sm b2 hl6
  refine seq_i (det_if (det_eq rfl) (fun c=>?_) (fun c=>next_i ?_))
  · refine ret_i (tup_i ?_)
    refine ⟨_,rfl,lt2,fun a ha=>⟨(by show 3≤sizeLine; decide),fun t ht=>?_⟩⟩
    have sa:=same_new ha (.tup [.str "number",.int 0])
    have st_:=same_new ht (.tup [.str "part",u,.ref a])
    exact k _ (.two "part" F (.num 0)) _ (.two upd_same m7a ((hF2.same sa).same st_) (.num (st_ _ _ upd_same) (by unfold Wo; omega))) (by show max F.depth 1 + 1≤3; omega) ((pu2.same sa).same st_) ((b02.same sa).same st_)
  refine seq_i (det_if (det_eq rfl) (fun c=>?_) (fun c=>next_i ?_))
  · refine ret_i (tup_i ?_)
    refine ⟨_,_,rfl,rfl,c15,lt2,fun a ha=>⟨lt2,fun b hb=>⟨(by show 3≤sizeLine; decide),fun c hc=>⟨lt2,fun d hd=>⟨(by show 3≤sizeLine; decide),fun t ht=>?_⟩⟩⟩⟩⟩
    have sa:=same_new ha (.tup [.str "number",.int ((10:Int) ^ (15:Int).toNat)])
    have sb:=same_new hb (.tup [.str "number",.int 2])
    have sc:=same_new hc (.tup [.str "times",.ref a,.ref b])
    have sd:=same_new hd (.tup [.str "number",.int 0])
    have st_:=same_new ht (.tup [.str "rest",.ref c,.ref d])
    refine k _ (.two "rest" (.two "times" (.num ((10:Int) ^ (15:Int).toNat)) (.num 2)) (.num 0)) _ (.two upd_same m7b (.two (st_ _ _ (sd _ _ upd_same)) m7c (.num (st_ _ _ (sd _ _ (sc _ _ (sb _ _ upd_same)))) (by unfold Wo; decide)) (.num (st_ _ _ (sd _ _ (sc _ _ upd_same))) (by unfold Wo; decide))) (.num (st_ _ _ upd_same) (by unfold Wo; decide))) (by decide) (((((pu2.same sa).same sb).same sc).same sd).same st_) (((((b02.same sa).same sb).same sc).same sd).same st_)
  refine seq_i (det_if (det_eq rfl) (fun c=>?_) (fun c=>next_i ?_))
  · refine ret_i (tup_i ?_)
    refine ⟨_,_,rfl,rfl,c15,lt2,fun a ha=>⟨_,rfl,(by show 3≤sizeLine; decide),fun t ht=>?_⟩⟩
    have sa:=same_new ha (.tup [.str "number",.int ((10:Int) ^ (15:Int).toNat)])
    have st_:=same_new ht (.tup [.str "plus",.ref a,u])
    exact k _ (.two "plus" (.num ((10:Int) ^ (15:Int).toNat)) F) _ (.two upd_same m7d (.num (st_ _ _ upd_same) (by unfold Wo; decide)) ((hF2.same sa).same st_)) (by show max 1 F.depth + 1≤3; omega) ((pu2.same sa).same st_) ((b02.same sa).same st_)
  refine seq_i (det_if (det_eq rfl) (fun c=>?_) (fun c=>next_i ?_))
  · refine ret_i (tup_i ?_)
    refine ⟨_,_,rfl,rfl,c15,_,rfl,lt2,fun a ha=>⟨_,rfl,(by show 3≤sizeLine; decide),fun t ht=>?_⟩⟩
    have sa:=same_new ha (.tup [.str "number",.int (-((10:Int) ^ (15:Int).toNat))])
    have st_:=same_new ht (.tup [.str "less",.ref a,u])
    exact k _ (.two "less" (.num (-((10:Int) ^ (15:Int).toNat))) F) _ (.two upd_same m7e (.num (st_ _ _ upd_same) (by unfold Wo; decide)) ((hF2.same sa).same st_)) (by show max 1 F.depth + 1≤3; omega) ((pu2.same sa).same st_) ((b02.same sa).same st_)
  refine seq_i (det_if (det_eq rfl) (fun c=>?_) (fun c=>next_i ?_))
  · refine ret_i (tup_i ?_)
    refine ⟨_,_,rfl,rfl,c8,lt2,fun a ha=>?_⟩
    have sa:=same_new ha (.tup [.str "number",.int ((10:Int) ^ (8:Int).toNat)])
    refine ⟨_,_,rfl,rfl,c7,_,rfl,p,2,rfl,pu2.same sa,by decide,by decide,fun r3 G3 r30 r31 pu3 b3=>⟨_,_,rfl,rfl,lt2,fun b hb=>⟨(by show 3≤sizeLine; decide),fun t ht=>?_⟩⟩⟩
    have sb:=same_new hb (.tup [.str "number",.int ((10:Int) ^ (7:Int).toNat + r3)])
    have st_:=same_new ht (.tup [.str "times",.ref a,.ref b])
    have e7:(10:Int) ^ (7:Int).toNat=10000000:=by decide
    have ea:G3 a=some (.tup [.str "number",.int ((10:Int) ^ (8:Int).toNat)]):=b3 _ _ upd_same (newp pu2 ha)
    exact k _ (.two "times" (.num ((10:Int) ^ (8:Int).toNat)) (.num ((10:Int) ^ (7:Int).toNat + r3))) _ (.two upd_same m7c (.num (st_ _ _ (sb _ _ ea)) (by unfold Wo; decide)) (.num (st_ _ _ upd_same) (by unfold Wo; rw [e7]; omega))) (by show max 1 1 + 1≤3; decide) ((pu3.same sb).same st_) ((((b02.same sa).trans b3).same sb).same st_)
  exact ⟨_,rfl,k u F G2 hF2 (by omega) pu2 b02⟩
abbrev pSm:List Str:=["_law_purse_here","_law_deep"]
abbrev nSm:List Str:=["_law_purse_here","_law_deep","_law_way","_law_number","_law_span"]
theorem scSm:FnScope nSm pSm (defScope s_law_small_deed):=⟨rfl,rfl,rfl,by decide +kernel,rfl,by decide +kernel,by decide +kernel⟩
def spSm (n:Nat):Sp:=fun vs H Q _=>∃ (p:Addr) (d:Nat),vs=[.ref p,.int d]∧d < n∧Purse H p∧∀ (v:V) (D:Dd) (H':Hp),DdIn bs1 qs1 H' D v→D.deep≤d→D.size < 2 ^ (d + 1)→Purse H' p→But p H H'→Q v H'
theorem two_pos (d:Nat):2≤2 ^ (d + 1):=by
  have:=Nat.one_le_two_pow (n:=d)
  rw [Nat.pow_succ]
  omega
theorem ds_one {bs qs:List Str} {H:Hp} {D:Dd} {v:V} (h:DdIn bs qs H D v):DsIn bs qs H (.cons D .nil) [v]:=by
  simp only [DsIn]
  exact ⟨v,[],rfl,h,rfl⟩
theorem sm_step {n:Nat} (D:Df K mg "_law_small_deed" s_law_small_deed pSm f fd) (DP:Df K mg "_law_piece" s_law_piece ["_law_purse_here"] fP fdP) (DD:Df K mg "_law_draw" s_law_draw ["_law_purse_here","_law_out_of"] fD fdD) (GR:FnOk P w K mg base CX0 (n + 3) f fd pSm (spSm n)):FnOk P w K mg base CX0 (n + 4) f fd pSm (spSm (n + 1)):=by
  have GD:FnOk P w K mg base CX0 1 fD fdD ["_law_purse_here","_law_out_of"] spDraw:=ok_draw DD
  have GP:FnOk P w K mg base CX0 2 fP fdP ["_law_purse_here"] spPc:=ok_pc DP DD
  refine D.F.ok scSm (fun vs H Q E h=>?_) (fun cdv A outer s H vs Q E hr h=>?_)
  · obtain ⟨p,d,rfl,_⟩:=h
    rfl
  obtain ⟨p,d,rfl,dn,pu,k⟩:=h
  have r1:Room 1 _:=hr.mono (by omega)
  have r2:Room 2 _:=hr.mono (by omega)
  refine ⟨_,pss_cons (ps_set (i:=2) scSm.nd rfl (Or.inl rfl) (pe_call GD r1 (by rfl) DD.m DD.F.kp DD.b .nil pass0 (pa_n (pv 0) (pa_c pe_int pa_nil))))
    (pss_cons (ps_if ((pw_and (pt_cmpR op_eq (pv 2) pe_int (nomark _)) (pw_and1 (pt_cmpR op_gt (pv 1) pe_int (nomark _)))).pt) (pss_one (ps_ret (pe_tup (pa_c pe_str (pa_f (pe_call GP r2 (by rfl) DP.m DP.F.kp DP.b .nil pass0 (pa_n (pv 0) pa_nil)) (pa_lst (pe_lst (pa_f (pe_call GR hr (by rfl) D.m D.F.kp D.b .nil pass0 (pa_n (pv 0) (pa_b (pe_op op_sub (pv 1) pe_int) pa_nil))) pa_nil)) (pa_lst (pe_lst (pa_f (pe_call GR hr (by rfl) D.m D.F.kp D.b .nil pass0 (pa_n (pv 0) (pa_b (pe_op op_sub (pv 1) pe_int) pa_nil))) pa_nil)) pa_nil))))))) pss_nil)
    (pss_cons (ps_if ((pw_and (pt_cmpR op_eq (pv 2) pe_int (nomark _)) (pw_and1 (pt_cmpR op_gt (pv 1) pe_int (nomark _)))).pt) (pss_one (ps_ret (pe_tup (pa_c pe_str (pa_c pe_str (pa_c pe_str (pa_lst (pe_lst (pa_f (pe_call GR hr (by rfl) D.m D.F.kp D.b .nil pass0 (pa_n (pv 0) (pa_b (pe_op op_sub (pv 1) pe_int) pa_nil))) pa_nil)) pa_nil))))))) pss_nil)
    (pss_cons (ps_if (pt_cmpR op_eq (pv 2) pe_int (nomark _)) (pss_one (ps_ret (pe_tup (pa_c pe_str (pa_c pe_str (pa_f (pe_call GP r2 (by rfl) DP.m DP.F.kp DP.b .nil pass0 (pa_n (pv 0) pa_nil)) pa_nil)))))) pss_nil)
    (pss_cons (ps_if (pt_cmpR op_eq (pv 2) pe_int (nomark _)) (pss_one (ps_ret (pe_tup (pa_c pe_str (pa_c pe_str (pa_f (pe_call GP r2 (by rfl) DP.m DP.F.kp DP.b .nil pass0 (pa_n (pv 0) pa_nil)) pa_nil)))))) pss_nil)
    (pss_cons (ps_if (pt_cmpR op_lt (pv 2) pe_int (nomark _)) (pss_cons (ps_set (i:=3) scSm.nd rfl (Or.inl rfl) (pe_ix ix_list (pe_lst (pa_c pe_int (pa_c pe_int (pa_b (pe_op op_pow pe_int pe_int) (pa_b (pe_op op_add (pe_op op_pow pe_int pe_int) pe_int) (pa_cons (pe_un un_neg pe_int) pa_nil)))))) (pe_call GD r1 (by rfl) DD.m DD.F.kp DD.b .nil pass0 (pa_n (pv 0) (pa_c pe_int pa_nil))) (fun _ _=>rfl)))
    (pss_cons (ps_set (i:=4) scSm.nd rfl (Or.inl rfl) (pe_ix ix_list (pe_lst (pa_tup (pe_tup (pa_c pe_str (pa_n (pv 3) pa_nil))) (pa_f (pe_call GP r2 (by rfl) DP.m DP.F.kp DP.b .nil pass0 (pa_n (pv 0) pa_nil)) pa_nil))) (pe_call GD r1 (by rfl) DD.m DD.F.kp DD.b .nil pass0 (pa_n (pv 0) (pa_c pe_int pa_nil))) (fun _ _=>rfl)))
    (pss_one (ps_ret (pe_tup (pa_c pe_str (pa_c pe_int (pa_c pe_str (pa_n (pv 4) (pa_f (pe_call GD r1 (by rfl) DD.m DD.F.kp DD.b .nil pass0 (pa_n (pv 0) (pa_c pe_int pa_nil))) (pa_f (pe_call GP r2 (by rfl) DP.m DP.F.kp DP.b .nil pass0 (pa_n (pv 0) pa_nil)) (pa_f (pe_call GP r2 (by rfl) DP.m DP.F.kp DP.b .nil pass0 (pa_n (pv 0) pa_nil)) pa_nil)))))))))))) pss_nil)
    (pss_one (ps_ret (pe_tup (pa_c pe_str (pa_c pe_str (pa_f (pe_call GP r2 (by rfl) DP.m DP.F.kp DP.b .nil pass0 (pa_n (pv 0) pa_nil)) pa_nil))))))))))),?_⟩
  have big:=line1000
  have c6:CPow 10 6:=⟨by decide,by decide,by decide⟩
  have tp:=two_pos d
  have em:0 < d→(d:Int) - 1=((d - 1:Nat):Int):=fun z=>by omega
  have ep:0 < d→2 ^ (d - 1 + 1)=2 ^ d:=fun z=>by rw [Nat.sub_add_cancel z]
  have es:2 ^ (d + 1)=2 ^ d * 2:=Nat.pow_succ ..
  refine seq_i (asg_i ?_)
  refine ⟨_,rfl,p,8,rfl,pu,by decide,by decide,fun wy G wy0 wy1 puG bG=>?_⟩
  refine gname_i ?_
  dsimp only
  have i15:∀ {G:Hp} {v:V} {F:Fm},FmIn bs1 qs1 G v F→F.depth≤3→FmI bs1 qs1 G v F:=fun h d=>⟨h,by omega⟩
  refine seq_i (det_if (Det.and (det_eq rfl) (fun _=>det_gt rfl)) (fun c=>?_) (fun c=>next_i ?_))
  · have d0:0 < d:=by
      have z:=(Bool.and_eq_true _ _ ▸ c:_∧_).2
      have:=of_decide_eq_true z
      omega
    refine ret_i (tup_i ?_)
    refine ⟨_,rfl,p,rfl,puG,fun u F G1 hF dF pu1 b1=>?_⟩
    refine ⟨_,rfl,_,rfl,_,_,rfl,rfl,p,d - 1,(by show [V.ref p,V.int ((d:Int) - 1)]=_; rw [em d0]),by omega,pu1,fun v1 D1 G2 hD1 dd1 sz1 pu2 b2=>⟨lt1',fun l1 hl1=>?_⟩⟩
    have t1:=same_new hl1 (.lst [v1])
    refine ⟨_,rfl,_,rfl,_,_,rfl,rfl,p,d - 1,(by show [V.ref p,V.int ((d:Int) - 1)]=_; rw [em d0]),by omega,pu2.same t1,fun v2 D2 G3 hD2 dd2 sz2 pu3 b3=>⟨lt1',fun l2 hl2=>⟨(by show 4≤sizeLine; decide),fun t ht=>?_⟩⟩⟩
    have t2:=same_new hl2 (.lst [v2])
    have t3:=same_new ht (.tup [.str "if",u,.ref l1,.ref l2])
    have el1:G3 l1=some (.lst [v1]):=b3 _ _ upd_same (newp pu2 hl1)
    rw [ep d0] at sz1 sz2
    have k3:KeepI G2 _:=((KeepI.same t1).trans (KeepI.but (pu2.same t1) b3)).trans ((KeepI.same t2).trans (KeepI.same t3))
    refine k _ (.ife F (.cons D1 .nil) (.cons D2 .nil)) _ ?_ ?_ ?_ ((pu3.same t2).same t3) (((((((bG.trans b1).trans b2).same t1).trans b3).same t2).same t3))
    · simp only [DdIn]
      exact ⟨t,u,.ref l1,.ref l2,rfl,upd_same,i15 ((hF.but pu1 b2).mono fun a xs e=>k3 _ _ e (ni_tup xs)) dF,⟨l1,[v1],rfl,t3 _ _ (t2 _ _ el1),(by show 1 < 1000; decide),ds_one (DdIn.keepI k3 _ _ hD1)⟩,l2,[v2],rfl,t3 _ _ upd_same,(by show 1 < 1000; decide),ds_one (DdIn.keepI ((KeepI.same t2).trans (KeepI.same t3)) _ _ hD2)⟩
    · show max (max D1.deep 0) (max D2.deep 0) + 1≤d
      omega
    · show (D1.size + 0) + (D2.size + 0) + 1 < 2 ^ (d + 1)
      omega
  refine seq_i (det_if (Det.and (det_eq rfl) (fun _=>det_gt rfl)) (fun c=>?_) (fun c=>next_i ?_))
  · have d0:0 < d:=by
      have z:=(Bool.and_eq_true _ _ ▸ c:_∧_).2
      have:=of_decide_eq_true z
      omega
    refine ret_i (tup_i ?_)
    refine ⟨_,rfl,_,rfl,_,_,rfl,rfl,p,d - 1,(by show [V.ref p,V.int ((d:Int) - 1)]=_; rw [em d0]),by omega,puG,fun v1 D1 G2 hD1 dd1 sz1 pu2 b2=>⟨lt1',fun l1 hl1=>⟨(by show 4≤sizeLine; decide),fun t ht=>?_⟩⟩⟩
    have t1:=same_new hl1 (.lst [v1])
    have t3:=same_new ht (.tup [.str "pull",.str "q",.str "b",.ref l1])
    rw [ep d0] at sz1
    have k3:KeepI G2 _:=(KeepI.same t1).trans (KeepI.same t3)
    refine k _ (.pull "q" "b" (.cons D1 .nil)) _ ?_ ?_ ?_ ((pu2.same t1).same t3) ((((bG.trans b2).same t1).same t3))
    · simp only [DdIn]
      exact ⟨t,.ref l1,rfl,upd_same,List.mem_cons_self,List.mem_cons_self,l1,[v1],rfl,t3 _ _ upd_same,(by show 1 < 1000; decide),ds_one (DdIn.keepI k3 _ _ hD1)⟩
    · show max D1.deep 0 + 1≤d
      omega
    · show (D1.size + 0) + 1 < 2 ^ (d + 1)
      omega
  refine seq_i (det_if (det_eq rfl) (fun c=>?_) (fun c=>next_i ?_))
  · refine ret_i (tup_i ?_)
    refine ⟨_,rfl,p,rfl,puG,fun u F G1 hF dF pu1 b1=>⟨(by show 3≤sizeLine; decide),fun t ht=>?_⟩⟩
    have t3:=same_new ht (.tup [.str "push",.str "q",u])
    refine k _ (.push "q" F) _ ?_ (Nat.zero_le _) (by show 1 < _; omega) (pu1.same t3) ((bG.trans b1).same t3)
    simp only [DdIn]
    exact ⟨t,u,rfl,upd_same,List.mem_cons_self,i15 (hF.same t3) dF⟩
  refine seq_i (det_if (det_eq rfl) (fun c=>?_) (fun c=>next_i ?_))
  · refine ret_i (tup_i ?_)
    refine ⟨_,rfl,p,rfl,puG,fun u F G1 hF dF pu1 b1=>⟨(by show 3≤sizeLine; decide),fun t ht=>?_⟩⟩
    have t3:=same_new ht (.tup [.str "draw",.str "b",u])
    refine k _ (.draw "b" F) _ ?_ (Nat.zero_le _) (by show 1 < _; omega) (pu1.same t3) ((bG.trans b1).same t3)
    simp only [DdIn]
    exact ⟨t,u,rfl,upd_same,List.mem_cons_self,i15 (hF.same t3) dF⟩
  refine seq_i (det_if (det_lt rfl) (fun c=>?_) (fun c=>next_i ?_))
  · refine seq_i (asg_i ?_)
    refine ⟨_,_,rfl,rfl,c6,_,_,rfl,rfl,c6,_,_,rfl,rfl,_,rfl,(by show 5≤sizeLine; decide),fun l hl=>?_⟩
    have t1:=same_new hl (.lst ([0,1,(10:Int) ^ (6:Int).toNat,(10:Int) ^ (6:Int).toNat + 1,-1].map V.int))
    have nl:=newp puG hl
    refine ⟨_,rfl,p,5,rfl,puG.same t1,by decide,by decide,fun ra G1 ra0 ra1 pu1 b1=>?_⟩
    obtain ⟨m,hm,wm⟩:∃ m:Int,atI ([0,1,(10:Int) ^ (6:Int).toNat,(10:Int) ^ (6:Int).toNat + 1,-1].map V.int) ra=some (.int m)∧Wo m:=by
      have hr:ra=0∨ra=1∨ra=2∨ra=3∨ra=4:=by omega
      rcases hr with rfl | rfl | rfl | rfl | rfl
      · exact ⟨_,rfl,by unfold Wo; decide⟩
      · exact ⟨_,rfl,by unfold Wo; decide⟩
      · exact ⟨_,rfl,by unfold Wo; decide⟩
      · exact ⟨_,rfl,by unfold Wo; decide⟩
      · exact ⟨_,rfl,by unfold Wo; decide⟩
    refine ⟨l,_,_,_,rfl,rfl,SqL.of (b1 _ _ upd_same nl),hm,?_⟩
    refine gname_i ?_
    dsimp only
    have b01:=(bG.same t1).trans b1
    refine seq_i (asg_i ?_)
    refine ⟨_,rfl,lt2,fun a ha=>?_⟩
    have t2:=same_new ha (.tup [.str "number",.int m])
    refine ⟨_,rfl,p,rfl,pu1.same t2,fun u F G2 hF dF pu2 b2=>⟨lt2,fun l2 hl2=>?_⟩⟩
    have t4:=same_new hl2 (.lst [.ref a,u])
    have ea:G2 a=some (.tup [.str "number",.int m]):=b2 _ _ upd_same (newp pu1 ha)
    have nl2:=newp pu2 hl2
    refine ⟨_,rfl,p,2,rfl,pu2.same t4,by decide,by decide,fun rb G3 rb0 rb1 pu3 b3=>?_⟩
    have kk:=(KeepI.same t4).trans (KeepI.but (pu2.same t4) b3)
    obtain ⟨u3,F3,hu3,hF3,dF3⟩:∃ u3 F3,atI [V.ref a,u] rb=some u3∧FmIn bs1 qs1 G3 u3 F3∧F3.depth≤3:=by
      have hr:rb=0∨rb=1:=by omega
      rcases hr with rfl | rfl
      · exact ⟨_,.num m,rfl,.num (kk _ _ ea (ni_tup _)) wm,by show 1≤3; decide⟩
      · exact ⟨_,F,rfl,hF.mono fun t xs e=>kk _ _ e (ni_tup xs),dF⟩
    refine ⟨l2,_,_,_,rfl,rfl,SqL.of (b3 _ _ upd_same nl2),hu3,?_⟩
    refine gname_i ?_
    dsimp only
    have b03:=((((b01.same t2).trans b2).same t4).trans b3)
    clear kk hF ea hm wm
    refine ret_i (tup_i ?_)
    refine ⟨_,rfl,_,rfl,p,10,rfl,pu3,by decide,by decide,fun rk G4 rk0 rk1 pu4 b4=>⟨_,rfl,p,rfl,pu4,fun u5 F5 G5 hF5 dF5 pu5 b5=>⟨_,rfl,p,rfl,pu5,fun u6 F6 G6 hF6 dF6 pu6 b6=>⟨(by show 7≤sizeLine; decide),fun t ht=>?_⟩⟩⟩⟩
    have t5:=same_new ht (.tup [.str "send",.int 0,.str "go",u3,.int rk,u5,u6])
    refine k _ (.send 0 "go" F3 rk F5 F6) _ ?_ (Nat.zero_le _) (by show 1 < _; omega) (pu6.same t5) ((((b03.trans b4).trans b5).trans b6).same t5)
    simp only [DdIn]
    exact ⟨t,u3,u5,u6,rfl,upd_same,i15 ((((hF3.but pu3 b4).but pu4 b5).but pu5 b6).same t5) dF3,i15 ((hF5.but pu5 b6).same t5) dF5,i15 (hF6.same t5) dF6⟩
  dsimp only
  refine ret_i (tup_i ?_)
  refine ⟨_,rfl,p,rfl,puG,fun u F G1 hF dF pu1 b1=>⟨(by show 3≤sizeLine; decide),fun t ht=>?_⟩⟩
  have t3:=same_new ht (.tup [.str "put",.str "b",u])
  refine k _ (.put "b" F) _ ?_ (Nat.zero_le _) (by show 1 < _; omega) (pu1.same t3) ((bG.trans b1).same t3)
  simp only [DdIn]
  exact ⟨t,u,rfl,upd_same,List.mem_cons_self,i15 (hF.same t3) dF⟩
theorem ok_sm (D:Df K mg "_law_small_deed" s_law_small_deed pSm f fd) (DP:Df K mg "_law_piece" s_law_piece ["_law_purse_here"] fP fdP) (DD:Df K mg "_law_draw" s_law_draw ["_law_purse_here","_law_out_of"] fD fdD):∀ n:Nat,FnOk P w K mg base CX0 (n + 3) f fd pSm (spSm n)
  | 0=>⟨fun vs H Q E h=>by
      obtain ⟨p,d,_,h,_⟩:=h
      omega,fun A outer s H args us vs Q E _ _ _ _ h=>by
      obtain ⟨p,d,_,h,_⟩:=h
      omega⟩
  | n + 1=>sm_step D DP DD (ok_sm D DP DD n)
end
end My
namespace My
open PySem L2
deriving instance DecidableEq for Flt
theorem fn_ex {P:Program} {w:World} {K:PySem.W.Frag} {mg:Str→Option Value} {base:Heap} {CX:CXT} {k:Nat} {f:Addr} {fd:FuncData} {ps:List Str} {ι:Type} {sp:ι→Sp} (F:∀ i,FnOk P w K mg base CX k f fd ps (sp i)):FnOk P w K mg base CX k f fd ps (fun vs H Q E=>∃ i,sp i vs H Q E):=
  ⟨fun vs H Q E ⟨i,h⟩=>(F i).1 vs H Q E h,fun A outer s H args us vs Q E a b c d ⟨i,h⟩=>(F i).2 A outer s H args us vs Q E a b c d h⟩
structure Cls6 (K:PySem.W.Frag) (mg:Str→Option Value) (cf:Flt→Addr) (CE:Addr):Prop where
  m:mg "Nought"=some (.ref (cf .nought))∧mg "Great"=some (.ref (cf .great))∧mg "Full"=some (.ref (cf .full))∧mg "Dry"=some (.ref (cf .dry))∧mg "Span"=some (.ref (cf .span))∧mg "Late"=some (.ref (cf .late))
  mE:mg "MomentError"=some (.ref CE)
  mV:mg "ValueError"=none
  c:∀ e,XCls K (cf e)
  k:∀ e e',PySem.W.kitOne K (.ref (cf e)) (.ref (cf e'))=some (decide (e'=e))
  e:∀ e,PySem.W.kitOne K (.ref (cf e)) (.ref CE)=some true
  v:∀ e,PySem.W.kitOne K (.ref (cf e)) (.type "ValueError")=some true
theorem boot_verr:bootBuiltins "ValueError"=some (.type "ValueError"):=by decide +kernel
theorem cut1 (x:V) (b:Bool):cutV [x] none (some (if b=true then (1:Int) else 0))=if b=true then [x] else []:=by
  cases b <;> rfl
section
variable {P:Program} {w:World} {K:PySem.W.Frag} {mg:Str→Option Value} {base:Heap} {f fW:Addr} {fd fdW:FuncData} {cf:Flt→Addr} {CE:Addr}
seal L2.PS L2.PSs L2.PE L2.PA L2.PT L2.PW L2.PI L2.PG L2.PGs L2.PC
abbrev nCl:List Str:=["_law_fault","_law_found","_law_word","_law_kind"]
theorem scCl:FnScope nCl ["_law_fault"] (defScope s_law_class):=⟨rfl,rfl,rfl,by decide +kernel,rfl,by decide +kernel,by decide +kernel⟩
def spCl (cf:Flt→Addr) (e:Flt):Sp:=fun vs H Q _=>∃ a:Addr,vs=[.ref a]∧H a=some (XO a (cf e))∧∀ H',Same H H'→Q (.str (wordF e)) H'
def wd1 (b:Bool) (x:Str):List Str:=if b=true then [x] else []
theorem ok_cl (e:Flt) (D:Df K mg "_law_class" s_law_class ["_law_fault"] f fd) (B:Bl mg) (X6:Cls6 K mg cf CE) (mW:Meth K (cf e) "word" fW) (bW:Binds K fdW ["self"] []) (GW:FnOk P w K mg base CX0 1 fW fdW ["self"] (spWord (wordF e))) :
    FnOk P w K mg base CX0 2 f fd ["_law_fault"] (spCl cf e):=by
  refine D.F.ok scCl (fun vs H Q E h=>?_) (fun cdv A outer s H vs Q E hr h=>?_)
  · obtain ⟨a,rfl,_⟩:=h
    rfl
  obtain ⟨a,rfl,ha,q⟩:=h
  obtain ⟨m0,m1,m2,m3,m4,m5⟩:=X6.m
  refine ⟨_,pss_cons (ps_set (i:=1) scCl.nd rfl (Or.inl rfl) (pe_lst pa_nil))
    (pss_cons (ps_for PassesOwn.never rfl (pi_list (pe_lst (pa_tup (pe_tup (pa_c pe_str (pa_f (pe_callB call_isinstX (by rfl) B.isi boot_isi (pa_n (pv 0) (pa_n (pe_glob (v:=.ref (cf .nought)) (by rfl) m0 rfl) pa_nil))) pa_nil))) (pa_tup (pe_tup (pa_c pe_str (pa_f (pe_callB call_isinstX (by rfl) B.isi boot_isi (pa_n (pv 0) (pa_n (pe_glob (v:=.ref (cf .great)) (by rfl) m1 rfl) pa_nil))) pa_nil))) pa_nil)))) (pg_tup rfl (pgs_cons (pg_name (i:=2) scCl.nd rfl (Or.inl rfl)) (pgs_cons (pg_name (i:=3) scCl.nd rfl (Or.inl rfl)) pgs_nil))) (pss_one (ps_set (i:=1) scCl.nd rfl (Or.inl rfl) (pe_op op_cat (pv 1) (pe_slice sl_list (pe_lst (pa_n (pv 2) pa_nil)) po_none (po_some (pe_callTy call_int1 (by rfl) B.int boot_int (pa_n (pv 3) pa_nil))))))))
    (pss_cons (ps_for PassesOwn.never rfl (pi_list (pe_lst (pa_tup (pe_tup (pa_c pe_str (pa_f (pe_callB call_isinstX (by rfl) B.isi boot_isi (pa_n (pv 0) (pa_n (pe_glob (v:=.ref (cf .full)) (by rfl) m2 rfl) pa_nil))) pa_nil))) (pa_tup (pe_tup (pa_c pe_str (pa_f (pe_callB call_isinstX (by rfl) B.isi boot_isi (pa_n (pv 0) (pa_n (pe_glob (v:=.ref (cf .dry)) (by rfl) m3 rfl) pa_nil))) pa_nil))) pa_nil)))) (pg_tup rfl (pgs_cons (pg_name (i:=2) scCl.nd rfl (Or.inl rfl)) (pgs_cons (pg_name (i:=3) scCl.nd rfl (Or.inl rfl)) pgs_nil))) (pss_one (ps_set (i:=1) scCl.nd rfl (Or.inl rfl) (pe_op op_cat (pv 1) (pe_slice sl_list (pe_lst (pa_n (pv 2) pa_nil)) po_none (po_some (pe_callTy call_int1 (by rfl) B.int boot_int (pa_n (pv 3) pa_nil))))))))
    (pss_cons (ps_for PassesOwn.never rfl (pi_list (pe_lst (pa_tup (pe_tup (pa_c pe_str (pa_f (pe_callB call_isinstX (by rfl) B.isi boot_isi (pa_n (pv 0) (pa_n (pe_glob (v:=.ref (cf .span)) (by rfl) m4 rfl) pa_nil))) pa_nil))) (pa_tup (pe_tup (pa_c pe_str (pa_f (pe_callB call_isinstX (by rfl) B.isi boot_isi (pa_n (pv 0) (pa_n (pe_glob (v:=.ref (cf .late)) (by rfl) m5 rfl) pa_nil))) pa_nil))) pa_nil)))) (pg_tup rfl (pgs_cons (pg_name (i:=2) scCl.nd rfl (Or.inl rfl)) (pgs_cons (pg_name (i:=3) scCl.nd rfl (Or.inl rfl)) pgs_nil))) (pss_one (ps_set (i:=1) scCl.nd rfl (Or.inl rfl) (pe_op op_cat (pv 1) (pe_slice sl_list (pe_lst (pa_n (pv 2) pa_nil)) po_none (po_some (pe_callTy call_int1 (by rfl) B.int boot_int (pa_n (pv 3) pa_nil))))))))
    (pss_cons (ps_if ((pw_or (pt_not (pt_val (pe_callB call_isinstX (by rfl) B.isi boot_isi (pa_n (pv 0) (pa_n (pe_glob (v:=.ref (CE)) (by rfl) X6.mE rfl) pa_nil))))) (pw_or (pt_not (pt_val (pe_callB call_isinstX (by rfl) B.isi boot_isi (pa_n (pv 0) (pa_n (pe_bltn (v:=.ty "ValueError") (by rfl) X6.mV boot_verr rfl) pa_nil))))) (pw_or1 (pt_cmpR op_ne (pe_callB (call_lenK K (by rfl)) (by rfl) B.len PySem.boot_len (pa_n (pv 1) pa_nil)) pe_int (nomark _))))).pt) (pss_one (ps_ret pe_str)) pss_nil)
    (pss_cons (ps_if (pt_cmpR op_ne (pe_methX (pv 0) (X6.c e) mW GW (hr.mono (by decide)) bW pass0) (pe_ix ix_list (pv 1) pe_int (fun _ _=>rfl)) (nomark _)) (pss_one (ps_ret pe_str)) pss_nil)
    (pss_one (ps_ret (pe_ix ix_list (pv 1) pe_int (fun _ _=>rfl))))))))),?_⟩
  have big:=line1000
  refine seq_i (asg_i ?_)
  refine ⟨Nat.zero_le _,fun l0 hl0=>?_⟩
  refine gname_i ?_
  dsimp only
  have s0:=same_new hl0 (.lst [])
  have f0:upd H l0 (.lst []) l0=some (.lst (([]:List Str).map V.str)):=upd_same
  generalize upd H l0 (.lst [])=G0 at s0 f0
  have v2:(none:Option V)=none:=rfl
  refine seq_i ?_
  refine ⟨_,rfl,a,cf e,_,.ref (cf .nought),decide (Flt.nought=e),rfl,rfl,fun _ z=>z,s0 _ _ ha,X6.c e,X6.k e .nought,lt2,fun t1 ht1=>?_⟩
  have y1:=same_new ht1 (.tup [.str "nought",.bl (decide (Flt.nought=e))])
  refine ⟨_,rfl,a,cf e,_,.ref (cf .great),decide (Flt.great=e),rfl,rfl,fun _ z=>z,y1 _ _ (s0 _ _ ha),X6.c e,X6.k e .great,lt2,fun t2 ht2=>⟨lt2,fun tl htl=>?_⟩⟩
  have y2:=same_new ht2 (.tup [.str "great",.bl (decide (Flt.great=e))])
  have y3:=same_new htl (.lst [.ref t1,.ref t2])
  have y23:=y2.trans y3
  have x1:=y23 _ _ (upd_same:upd G0 t1 (.tup [.str "nought",.bl (decide (Flt.nought=e))]) t1=_)
  have x2:=y3 _ _ (upd_same:upd _ t2 (.tup [.str "great",.bl (decide (Flt.great=e))]) t2=_)
  have x3:upd (upd (upd G0 t1 (.tup [.str "nought",.bl (decide (Flt.nought=e))])) t2 (.tup [.str "great",.bl (decide (Flt.great=e))])) tl (.lst [.ref t1,.ref t2]) tl=_:=upd_same
  have y:=y1.trans y23
  generalize upd (upd (upd G0 t1 (.tup [.str "nought",.bl (decide (Flt.nought=e))])) t2 (.tup [.str "great",.bl (decide (Flt.great=e))])) tl (.lst [.ref t1,.ref t2])=Ga at x1 x2 x3 y
  clear y1 y2 y3 y23 ht1 ht2 htl
  refine ⟨tl,rfl,⟨_,SqL.of x3⟩,for_list (K:=K) (a:=tl) (xs:=[.ref t1,.ref t2]) (fun i σ G=>∃ (l:Addr) (u2 u3:Option V) (ws:List Str),σ=[some (.ref a),some (.ref l),u2,u3]∧Same Ga G∧G l=some (.lst (ws.map V.str))∧ws=([]:List Str)++(if i=0 then [] else if i=1 then wd1 (decide (Flt.nought=e)) "nought" else wd1 (decide (Flt.nought=e)) "nought"++wd1 (decide (Flt.great=e)) "great")∧ws.length≤2 * 1 + i)
    ⟨l0,_,_,([]:List Str),rfl,Same.refl _,y _ _ f0,(by rw [if_pos rfl,List.append_nil]),(by show 0≤2; decide)⟩ ?_ ?_ ?_⟩
  · rintro i σ G _ ⟨_,_,_,_,rfl,sG,_⟩
    exact SqL.of (sG _ _ x3)
  · rintro i x σ G hi ⟨l,u2,u3,ws,rfl,sG,fl,ew,lw⟩
    obtain ⟨t,wd,b,rfl,ht,ee⟩:∃ (t:Addr) (wd:Str) (b:Bool),x=.ref t∧G t=some (.tup [.str wd,.bl b])∧ws++wd1 b wd=([]:List Str)++(if i + 1=0 then [] else if i + 1=1 then wd1 (decide (Flt.nought=e)) "nought" else wd1 (decide (Flt.nought=e)) "nought"++wd1 (decide (Flt.great=e)) "great"):=by
      match i,hi with
      | 0,hi =>
        cases hi
        refine ⟨t1,"nought",_,rfl,sG _ _ x1,?_⟩
        rw [ew,if_pos rfl,List.append_nil]
        rfl
      | 1,hi =>
        cases hi
        refine ⟨t2,"great",_,rfl,sG _ _ x2,?_⟩
        rw [ew,List.append_assoc]
        rfl
      | i + 2,hi=>cases hi
    refine ⟨t,_,rfl,SqT.of ht,rfl,_,_,rfl,_,_,rfl,rfl,?_⟩
    dsimp only
    refine asg_i ?_
    refine ⟨_,rfl,_,rfl,lt1',fun l1 hl1=>?_⟩
    have z1:=same_new hl1 (.lst [.str wd])
    refine ⟨_,rfl,.inr ⟨_,rfl,_,rfl,l1,_,rfl,SqL.of upd_same,fun l2 hl2=>?_⟩⟩
    rw [cut1]
    have z2:=same_new hl2 (.lst (if b=true then [.str wd] else []))
    have e2:(if b=true then [V.str wd] else [])=(wd1 b wd).map V.str:=by
      cases b <;> rfl
    rw [e2] at z2 ⊢
    have lw1:(wd1 b wd).length≤1:=by
      cases b <;> simp [wd1]
    have li:=(List.getElem?_eq_some_iff.mp hi).1
    change i < 2 at li
    refine ⟨l,l2,_,_,rfl,rfl,z2 _ _ (z1 _ _ fl),upd_same,(by rw [List.length_map,List.length_map]; omega),fun l4 hl4=>?_⟩
    have z4:=same_new hl4 (.lst (ws.map V.str++(wd1 b wd).map V.str))
    refine gname_i ?_
    exact ⟨l4,_,_,ws++wd1 b wd,rfl,((sG.trans z1).trans z2).trans z4,by rw [List.map_append]; exact upd_same,ee,by rw [List.length_append]; omega⟩
  rintro σ G1 ⟨l1,u2,u3,w1,rfl,sG,f1,ew1,lw1⟩
  have s1:=(s0.trans y).trans sG
  try dsimp only at ew1
  clear sG y x1 x2 x3
  refine seq_i ?_
  refine ⟨_,rfl,a,cf e,_,.ref (cf .full),decide (Flt.full=e),rfl,rfl,fun _ z=>z,s1 _ _ ha,X6.c e,X6.k e .full,lt2,fun t1 ht1=>?_⟩
  have y1:=same_new ht1 (.tup [.str "full",.bl (decide (Flt.full=e))])
  refine ⟨_,rfl,a,cf e,_,.ref (cf .dry),decide (Flt.dry=e),rfl,rfl,fun _ z=>z,y1 _ _ (s1 _ _ ha),X6.c e,X6.k e .dry,lt2,fun t2 ht2=>⟨lt2,fun tl htl=>?_⟩⟩
  have y2:=same_new ht2 (.tup [.str "dry",.bl (decide (Flt.dry=e))])
  have y3:=same_new htl (.lst [.ref t1,.ref t2])
  have y23:=y2.trans y3
  have x1:=y23 _ _ (upd_same:upd G1 t1 (.tup [.str "full",.bl (decide (Flt.full=e))]) t1=_)
  have x2:=y3 _ _ (upd_same:upd _ t2 (.tup [.str "dry",.bl (decide (Flt.dry=e))]) t2=_)
  have x3:upd (upd (upd G1 t1 (.tup [.str "full",.bl (decide (Flt.full=e))])) t2 (.tup [.str "dry",.bl (decide (Flt.dry=e))])) tl (.lst [.ref t1,.ref t2]) tl=_:=upd_same
  have y:=y1.trans y23
  generalize upd (upd (upd G1 t1 (.tup [.str "full",.bl (decide (Flt.full=e))])) t2 (.tup [.str "dry",.bl (decide (Flt.dry=e))])) tl (.lst [.ref t1,.ref t2])=Ga at x1 x2 x3 y
  clear y1 y2 y3 y23 ht1 ht2 htl
  refine ⟨tl,rfl,⟨_,SqL.of x3⟩,for_list (K:=K) (a:=tl) (xs:=[.ref t1,.ref t2]) (fun i σ G=>∃ (l:Addr) (u2 u3:Option V) (ws:List Str),σ=[some (.ref a),some (.ref l),u2,u3]∧Same Ga G∧G l=some (.lst (ws.map V.str))∧ws=w1++(if i=0 then [] else if i=1 then wd1 (decide (Flt.full=e)) "full" else wd1 (decide (Flt.full=e)) "full"++wd1 (decide (Flt.dry=e)) "dry")∧ws.length≤2 * 2 + i)
    ⟨l1,_,_,w1,rfl,Same.refl _,y _ _ f1,(by rw [if_pos rfl,List.append_nil]),by have z:w1.length≤2 * 1 + 2:=lw1; omega⟩ ?_ ?_ ?_⟩
  · rintro i σ G _ ⟨_,_,_,_,rfl,sG,_⟩
    exact SqL.of (sG _ _ x3)
  · rintro i x σ G hi ⟨l,u2,u3,ws,rfl,sG,fl,ew,lw⟩
    obtain ⟨t,wd,b,rfl,ht,ee⟩:∃ (t:Addr) (wd:Str) (b:Bool),x=.ref t∧G t=some (.tup [.str wd,.bl b])∧ws++wd1 b wd=w1++(if i + 1=0 then [] else if i + 1=1 then wd1 (decide (Flt.full=e)) "full" else wd1 (decide (Flt.full=e)) "full"++wd1 (decide (Flt.dry=e)) "dry"):=by
      match i,hi with
      | 0,hi =>
        cases hi
        refine ⟨t1,"full",_,rfl,sG _ _ x1,?_⟩
        rw [ew,if_pos rfl,List.append_nil]
        rfl
      | 1,hi =>
        cases hi
        refine ⟨t2,"dry",_,rfl,sG _ _ x2,?_⟩
        rw [ew,List.append_assoc]
        rfl
      | i + 2,hi=>cases hi
    refine ⟨t,_,rfl,SqT.of ht,rfl,_,_,rfl,_,_,rfl,rfl,?_⟩
    dsimp only
    refine asg_i ?_
    refine ⟨_,rfl,_,rfl,lt1',fun l1 hl1=>?_⟩
    have z1:=same_new hl1 (.lst [.str wd])
    refine ⟨_,rfl,.inr ⟨_,rfl,_,rfl,l1,_,rfl,SqL.of upd_same,fun l2 hl2=>?_⟩⟩
    rw [cut1]
    have z2:=same_new hl2 (.lst (if b=true then [.str wd] else []))
    have e2:(if b=true then [V.str wd] else [])=(wd1 b wd).map V.str:=by
      cases b <;> rfl
    rw [e2] at z2 ⊢
    have lw1:(wd1 b wd).length≤1:=by
      cases b <;> simp [wd1]
    have li:=(List.getElem?_eq_some_iff.mp hi).1
    change i < 2 at li
    refine ⟨l,l2,_,_,rfl,rfl,z2 _ _ (z1 _ _ fl),upd_same,(by rw [List.length_map,List.length_map]; omega),fun l4 hl4=>?_⟩
    have z4:=same_new hl4 (.lst (ws.map V.str++(wd1 b wd).map V.str))
    refine gname_i ?_
    exact ⟨l4,_,_,ws++wd1 b wd,rfl,((sG.trans z1).trans z2).trans z4,by rw [List.map_append]; exact upd_same,ee,by rw [List.length_append]; omega⟩
  rintro σ G2 ⟨l2,u2,u3,w2,rfl,sG,f2,ew2,lw2⟩
  have s2:=(s1.trans y).trans sG
  try dsimp only at ew2
  clear sG y x1 x2 x3
  refine seq_i ?_
  refine ⟨_,rfl,a,cf e,_,.ref (cf .span),decide (Flt.span=e),rfl,rfl,fun _ z=>z,s2 _ _ ha,X6.c e,X6.k e .span,lt2,fun t1 ht1=>?_⟩
  have y1:=same_new ht1 (.tup [.str "span",.bl (decide (Flt.span=e))])
  refine ⟨_,rfl,a,cf e,_,.ref (cf .late),decide (Flt.late=e),rfl,rfl,fun _ z=>z,y1 _ _ (s2 _ _ ha),X6.c e,X6.k e .late,lt2,fun t2 ht2=>⟨lt2,fun tl htl=>?_⟩⟩
  have y2:=same_new ht2 (.tup [.str "late",.bl (decide (Flt.late=e))])
  have y3:=same_new htl (.lst [.ref t1,.ref t2])
  have y23:=y2.trans y3
  have x1:=y23 _ _ (upd_same:upd G2 t1 (.tup [.str "span",.bl (decide (Flt.span=e))]) t1=_)
  have x2:=y3 _ _ (upd_same:upd _ t2 (.tup [.str "late",.bl (decide (Flt.late=e))]) t2=_)
  have x3:upd (upd (upd G2 t1 (.tup [.str "span",.bl (decide (Flt.span=e))])) t2 (.tup [.str "late",.bl (decide (Flt.late=e))])) tl (.lst [.ref t1,.ref t2]) tl=_:=upd_same
  have y:=y1.trans y23
  generalize upd (upd (upd G2 t1 (.tup [.str "span",.bl (decide (Flt.span=e))])) t2 (.tup [.str "late",.bl (decide (Flt.late=e))])) tl (.lst [.ref t1,.ref t2])=Ga at x1 x2 x3 y
  clear y1 y2 y3 y23 ht1 ht2 htl
  refine ⟨tl,rfl,⟨_,SqL.of x3⟩,for_list (K:=K) (a:=tl) (xs:=[.ref t1,.ref t2]) (fun i σ G=>∃ (l:Addr) (u2 u3:Option V) (ws:List Str),σ=[some (.ref a),some (.ref l),u2,u3]∧Same Ga G∧G l=some (.lst (ws.map V.str))∧ws=w2++(if i=0 then [] else if i=1 then wd1 (decide (Flt.span=e)) "span" else wd1 (decide (Flt.span=e)) "span"++wd1 (decide (Flt.late=e)) "late")∧ws.length≤2 * 3 + i)
    ⟨l2,_,_,w2,rfl,Same.refl _,y _ _ f2,(by rw [if_pos rfl,List.append_nil]),by have z:w2.length≤2 * 2 + 2:=lw2; omega⟩ ?_ ?_ ?_⟩
  · rintro i σ G _ ⟨_,_,_,_,rfl,sG,_⟩
    exact SqL.of (sG _ _ x3)
  · rintro i x σ G hi ⟨l,u2,u3,ws,rfl,sG,fl,ew,lw⟩
    obtain ⟨t,wd,b,rfl,ht,ee⟩:∃ (t:Addr) (wd:Str) (b:Bool),x=.ref t∧G t=some (.tup [.str wd,.bl b])∧ws++wd1 b wd=w2++(if i + 1=0 then [] else if i + 1=1 then wd1 (decide (Flt.span=e)) "span" else wd1 (decide (Flt.span=e)) "span"++wd1 (decide (Flt.late=e)) "late"):=by
      match i,hi with
      | 0,hi =>
        cases hi
        refine ⟨t1,"span",_,rfl,sG _ _ x1,?_⟩
        rw [ew,if_pos rfl,List.append_nil]
        rfl
      | 1,hi =>
        cases hi
        refine ⟨t2,"late",_,rfl,sG _ _ x2,?_⟩
        rw [ew,List.append_assoc]
        rfl
      | i + 2,hi=>cases hi
    refine ⟨t,_,rfl,SqT.of ht,rfl,_,_,rfl,_,_,rfl,rfl,?_⟩
    dsimp only
    refine asg_i ?_
    refine ⟨_,rfl,_,rfl,lt1',fun l1 hl1=>?_⟩
    have z1:=same_new hl1 (.lst [.str wd])
    refine ⟨_,rfl,.inr ⟨_,rfl,_,rfl,l1,_,rfl,SqL.of upd_same,fun l2 hl2=>?_⟩⟩
    rw [cut1]
    have z2:=same_new hl2 (.lst (if b=true then [.str wd] else []))
    have e2:(if b=true then [V.str wd] else [])=(wd1 b wd).map V.str:=by
      cases b <;> rfl
    rw [e2] at z2 ⊢
    have lw1:(wd1 b wd).length≤1:=by
      cases b <;> simp [wd1]
    have li:=(List.getElem?_eq_some_iff.mp hi).1
    change i < 2 at li
    refine ⟨l,l2,_,_,rfl,rfl,z2 _ _ (z1 _ _ fl),upd_same,(by rw [List.length_map,List.length_map]; omega),fun l4 hl4=>?_⟩
    have z4:=same_new hl4 (.lst (ws.map V.str++(wd1 b wd).map V.str))
    refine gname_i ?_
    exact ⟨l4,_,_,ws++wd1 b wd,rfl,((sG.trans z1).trans z2).trans z4,by rw [List.map_append]; exact upd_same,ee,by rw [List.length_append]; omega⟩
  rintro σ G3 ⟨l3,u2,u3,w3,rfl,sG,f3,ew3,lw3⟩
  have s3:=(s2.trans y).trans sG
  try dsimp only at ew3
  clear sG y x1 x2 x3
  have wd:w3=[wordF e]:=by
    rw [ew3,ew2,ew1]
    cases e <;> rfl
  clear ew1 ew2 ew3
  subst wd
  dsimp only
  refine seq_i ?_
  refine det_if (c:=false) (fun R r=>?_) (fun c=>by cases c) (fun _=>next_i ?_)
  · refine ⟨_,rfl,a,cf e,_,.ref CE,true,rfl,rfl,fun _ z=>z,s3 _ _ ha,X6.c e,X6.e e,_,rfl,?_⟩
    refine iteF ?_
    refine ⟨_,rfl,a,cf e,_,.type "ValueError",true,rfl,rfl,fun _ z=>z,s3 _ _ ha,X6.c e,X6.v e,_,rfl,?_⟩
    refine iteF ?_
    refine ⟨_,rfl,l3,_,rfl,.inl (SqL.of f3),rfl,_,rfl,?_⟩
    exact r
  dsimp only
  refine seq_i ?_
  refine ⟨_,rfl,a,rfl,s3 _ _ ha,_,rfl,_,rfl,l3,_,_,_,rfl,rfl,SqL.of f3,rfl,rfl,_,rfl,?_⟩
  refine iteE (b:=false) (by rw [decide_eq_true rfl]; rfl) (iteF (next_i ?_))
  exact ⟨_,rfl,l3,_,_,_,rfl,rfl,SqL.of f3,rfl,q _ s3⟩
theorem scvNought:FnScope ["self"] ["self"] (defScope s_Nought_word):=⟨rfl,rfl,rfl,by decide +kernel,rfl,by decide +kernel,by decide +kernel⟩
theorem ok_vNought (F:Fun K "word" "Nought.word" s_Nought_word f fd):FnOk P w K mg base CX0 1 f fd ["self"] (spWord (wordF .nought)):=by
  refine F.ok scvNought (fun vs H Q E h=>?_) (fun cdv A outer s H vs Q E hr h=>?_)
  · obtain ⟨a,rfl,_⟩:=h
    rfl
  obtain ⟨a,rfl,q⟩:=h
  exact ⟨_,pss_one (ps_ret pe_str),q⟩
theorem scvGreat:FnScope ["self"] ["self"] (defScope s_Great_word):=⟨rfl,rfl,rfl,by decide +kernel,rfl,by decide +kernel,by decide +kernel⟩
theorem ok_vGreat (F:Fun K "word" "Great.word" s_Great_word f fd):FnOk P w K mg base CX0 1 f fd ["self"] (spWord (wordF .great)):=by
  refine F.ok scvGreat (fun vs H Q E h=>?_) (fun cdv A outer s H vs Q E hr h=>?_)
  · obtain ⟨a,rfl,_⟩:=h
    rfl
  obtain ⟨a,rfl,q⟩:=h
  exact ⟨_,pss_one (ps_ret pe_str),q⟩
theorem scvFull:FnScope ["self"] ["self"] (defScope s_Full_word):=⟨rfl,rfl,rfl,by decide +kernel,rfl,by decide +kernel,by decide +kernel⟩
theorem ok_vFull (F:Fun K "word" "Full.word" s_Full_word f fd):FnOk P w K mg base CX0 1 f fd ["self"] (spWord (wordF .full)):=by
  refine F.ok scvFull (fun vs H Q E h=>?_) (fun cdv A outer s H vs Q E hr h=>?_)
  · obtain ⟨a,rfl,_⟩:=h
    rfl
  obtain ⟨a,rfl,q⟩:=h
  exact ⟨_,pss_one (ps_ret pe_str),q⟩
theorem scvDry:FnScope ["self"] ["self"] (defScope s_Dry_word):=⟨rfl,rfl,rfl,by decide +kernel,rfl,by decide +kernel,by decide +kernel⟩
theorem ok_vDry (F:Fun K "word" "Dry.word" s_Dry_word f fd):FnOk P w K mg base CX0 1 f fd ["self"] (spWord (wordF .dry)):=by
  refine F.ok scvDry (fun vs H Q E h=>?_) (fun cdv A outer s H vs Q E hr h=>?_)
  · obtain ⟨a,rfl,_⟩:=h
    rfl
  obtain ⟨a,rfl,q⟩:=h
  exact ⟨_,pss_one (ps_ret pe_str),q⟩
theorem scvSpan:FnScope ["self"] ["self"] (defScope s_Span_word):=⟨rfl,rfl,rfl,by decide +kernel,rfl,by decide +kernel,by decide +kernel⟩
theorem ok_vSpan (F:Fun K "word" "Span.word" s_Span_word f fd):FnOk P w K mg base CX0 1 f fd ["self"] (spWord (wordF .span)):=by
  refine F.ok scvSpan (fun vs H Q E h=>?_) (fun cdv A outer s H vs Q E hr h=>?_)
  · obtain ⟨a,rfl,_⟩:=h
    rfl
  obtain ⟨a,rfl,q⟩:=h
  exact ⟨_,pss_one (ps_ret pe_str),q⟩
theorem scvLate:FnScope ["self"] ["self"] (defScope s_Late_word):=⟨rfl,rfl,rfl,by decide +kernel,rfl,by decide +kernel,by decide +kernel⟩
theorem ok_vLate (F:Fun K "word" "Late.word" s_Late_word f fd):FnOk P w K mg base CX0 1 f fd ["self"] (spWord (wordF .late)):=by
  refine F.ok scvLate (fun vs H Q E h=>?_) (fun cdv A outer s H vs Q E hr h=>?_)
  · obtain ⟨a,rfl,_⟩:=h
    rfl
  obtain ⟨a,rfl,q⟩:=h
  exact ⟨_,pss_one (ps_ret pe_str),q⟩
theorem ok_clAll {fW:Flt→Addr} {fdW:Flt→FuncData} (D:Df K mg "_law_class" s_law_class ["_law_fault"] f fd) (B:Bl mg) (X6:Cls6 K mg cf CE) (MW:∀ e,Meth K (cf e) "word" (fW e)) (BW:∀ e,Binds K (fdW e) ["self"] []) (GW:∀ e,FnOk P w K mg base CX0 1 (fW e) (fdW e) ["self"] (spWord (wordF e))):FnOk P w K mg base CX0 2 f fd ["_law_fault"] (fun vs H Q E=>∃ e,spCl cf e vs H Q E):=fn_ex fun e=>ok_cl e D B X6 (MW e) (BW e) (GW e)
end
end My
namespace My
open PySem L2
def spLaw (K:PySem.W.Frag):Sp:=fun vs H Q _=>∃ (a:Addr) (ns:List Int),vs=[.ref a]∧SqL K H a (ns.map V.int)∧ns.length≤63∧(∀ x∈ns,Builtin.Int.intBits x≤1048576)∧∀ H',Q (.bl true) H'
def DetX (t:L2.TT) (σ:St) (H:Hp) (b:Bool):Prop:=∀ Q:Bool→Hp→Prop,(∀ G,Same H G→Q b G)→t σ H Q
theorem ifF_i {t:L2.TT} {a b:TS} {D:Ends} {σ:St} {H:Hp} (h:DetX t σ H false) (k:∀ G,Same H G→b D σ G):tIfS t a b D σ H:=h _ fun G s=>iteF (k G s)
theorem Alike.keep {H H1 H2:Hp} (s:∀ a o,H1 a=some o→(∀ C dx fs,o≠.ins C dx fs)→H2 a=some o):∀ {n:Nat} {v v':V},Alike H H1 n v v'→Alike H H2 n v v'
  | 0,_,_,h=>h
  | n + 1,v,v',h=>by
    rcases h with h | ⟨p,p',xs,ys,e1,e2,h1,h2,r⟩ | ⟨p,p',xs,ys,e1,e2,h1,h2,r⟩
    · exact .inl h
    · exact .inr (.inl ⟨p,p',xs,ys,e1,e2,h1,s _ _ h2 (fun _ _ _ z=>by cases z),L2.Paired.imp' (fun _ _ z=>Alike.keep s z) r⟩)
    · exact .inr (.inr ⟨p,p',xs,ys,e1,e2,h1,s _ _ h2 (fun _ _ _ z=>by cases z),L2.Paired.imp' (fun _ _ z=>Alike.keep s z) r⟩)
theorem pe_bm0K {X:Cx} {o:Expr} {to:TE} {name:Str} {apos cpos:Pos} {T id:String} {r:V→List V→Hp→VK→Prop} (K:PySem.W.Frag) (hK:X.K=K) (pa:PlainAttrs T) (slot:Slot T name id) (hty:typeOf (.builtin id)=pure (.type "method_descriptor")) (hm:MtR X id r) (ho:PE X o to)
    (hbase:attributeBase o name X.env (eval o X.env)=eval o X.env:=by rfl) (hline:(apos.endLine == cpos.line)=true:=by rfl):PE X (.Call (.Attribute o name apos) [] [] cpos) (tBM0 K T r to):=by
  subst hK
  exact pe_bm0 pa slot hty hm ho hbase hline
def Ds.snoc:Ds→Dd→Ds
  | .nil,d=>.cons d .nil
  | .cons a r,d=>.cons a (r.snoc d)
theorem DsIn.snoc {bs qs:List Str} {H:Hp} {d:Dd} {v:V} (hd:DdIn bs qs H d v):∀ (D:Ds) (vs:List V),DsIn bs qs H D vs→DsIn bs qs H (D.snoc d) (vs++[v])
  | .nil,vs,h=>by
    simp only [DsIn] at h
    subst h
    exact ds_one hd
  | .cons a r,vs,h=>by
    simp only [DsIn] at h
    obtain ⟨x,vr,rfl,h1,h2⟩:=h
    simp only [Ds.snoc,DsIn]
    exact ⟨x,vr++[v],rfl,h1,DsIn.snoc hd r vr h2⟩
theorem Ds.snoc_deep (d:Dd):∀ D:Ds,(D.snoc d).deep=max D.deep d.deep
  | .nil=>by simp only [Ds.snoc,Ds.deep]; omega
  | .cons a r=>by simp only [Ds.snoc,Ds.deep,Ds.snoc_deep d r]; omega
theorem Ds.snoc_size (d:Dd):∀ D:Ds,(D.snoc d).size=D.size + d.size
  | .nil=>by simp only [Ds.snoc,Ds.size]; omega
  | .cons a r=>by simp only [Ds.snoc,Ds.size,Ds.snoc_size d r]; omega
theorem comp_rngT {n:Nat} {ti:TE} {g:TG} {tc:L2.TT} {te:TE} {σ:St} {H:Hp} {Q:VK} (P:Nat→Hp→Prop) (hi:∀ R:VK,(∀ (m:Nat) (H1:Hp),P m H1→R (.int m) H1)→ti σ H R) (hb:∀ m H1,P m H1→m < 1000) (Pv:Nat→Hp→Nat→List V→Hp→Prop) (h0:∀ m H1,P m H1→Pv m H1 0 [] H1) (hl:∀ m H1,P m H1→∀ i ys H,i≤m→Pv m H1 i ys H→ys.length < sizeLine)
    (hs:∀ m H1,P m H1→∀ i ys H,i < m→Pv m H1 i ys H→g (.int (0 + i)) (List.replicate n none++σ) H fun σ2 H2=>σ2.drop n=σ∧tc σ2 H2 fun b H3=>if b=true then te σ2 H3 fun y H4=>Pv m H1 (i + 1) (ys++[y]) H4 else Pv m H1 (i + 1) ys H3)
    (hd:∀ m H1,P m H1→∀ ys H,Pv m H1 m ys H→∀ p,H p=none→Q (.ref p) (upd H p (.lst ys))):tComp n (iRng1 (tCons ti tNil)) g tc te σ H Q:=
  hi _ fun m H1 p=>⟨(m:Int),rfl,by have:=hb m H1 p; omega,by have:=hb m H1 p; omega,by
    rw [Int.toNat_natCast]
    exact comp_rng (Pv m H1) (h0 m H1 p) (hl m H1 p) (hs m H1 p) (hd m H1 p)⟩
def rowI (n:Nat):List Int:=(List.range n).map fun (j:Nat)=>0 + (j:Int)
theorem rowI_len (n:Nat):(rowI n).length=n:=by unfold rowI; rw [List.length_map,List.length_range]
theorem rowI_wo {n:Nat} (h:n≤30):∀ x∈rowI n,Wo x:=fun x hx=>by
  unfold rowI at hx
  obtain ⟨j,hj,rfl⟩:=List.mem_map.mp hx
  have:=List.mem_range.mp hj
  unfold Wo
  omega
theorem DnOk.rc {CD CS:Addr} {bs qs:List Str} {H G:Hp} {L:Lay} {h:Ev} {ds:List Int} {w:Wk} {t rc wl:Addr} {ws1 ws2:List V} {qa:List (Str×Addr)} (d:DnOk CD CS bs qs H G L h ds w t rc wl ws1 ws2 qa):RcIn G (.ref rc) ⟨h,wrB bs w,wrQ qs w,w.out⟩:=by
  obtain ⟨H0,s0,g⟩:=d.dg
  obtain ⟨vs,o1,o2⟩:=g.ho
  obtain ⟨k,h1,h2⟩:=d.hrc
  exact ⟨rc,k,wl,L.od,ws1,ws2,vs,qa,rfl,h1,d.sm _ _ h2,d.wr.hl,d.wr.b,d.wr.q,d.wr.l,o1,o2⟩
theorem deq_box {H:Hp} {a b:Addr} {bx:List (Str×Int)} (ha:H a=some (.dK (boK bx))) (hb:H b=some (.dK (boK bx))):DEq H 1 (.ref a) (.ref b):=by
  refine .inr (.inr ⟨a,b,_,_,rfl,rfl,ha,hb,?_⟩)
  clear ha hb
  induction bx with
  | nil=>exact .nil
  | cons p bx ih=>exact .cons ⟨rfl,0,by decide,trivial,rfl⟩ ih
theorem deq_que {H:Hp} {a b:Addr} {qu:List (Str×List Int)} {qa qb:List (Str×Addr)} (ha:H a=some (.dK (quK qa))) (hb:H b=some (.dK (quK qb))) (ra:QuIn H qa qu) (rb:QuIn H qb qu):DEq H 1 (.ref a) (.ref b):=by
  refine .inr (.inr ⟨a,b,_,_,rfl,rfl,ha,hb,?_⟩)
  clear ha hb
  induction qu generalizing qa qb with
  | nil =>
    cases ra
    cases rb
    exact .nil
  | cons q qu ih =>
    cases ra with
    | cons a1 a2 =>
    cases rb with
    | cons b1 b2 =>
    exact .cons ⟨by show (Sum.inr _:Key)=Sum.inr _; rw [a1.1,b1.1],1,by decide,teq_ints (n:=0) a1.2 b1.2⟩ (ih a2 b2)
theorem put1 (x:Str) (v:V):mergeK [] [((Sum.inr x:Key),v)]=[((Sum.inr x:Key),v)]:=rfl
section
variable {P:Program} {w:World} {K:PySem.W.Frag} {mg:Str→Option Value} {base:Heap} {f fP fM fD fS fPc fL fC fMI fSI fDn CM CS CD CF CE:Addr} {fd fdP fdM fdD fdS fdPc fdL fdC fdMI fdSI fdDn:FuncData} {cf:Flt→Addr}
seal L2.PS L2.PSs L2.PE L2.PA L2.PT L2.PW L2.PI L2.PG L2.PGs L2.PC
abbrev nL1:List Str:=["_law_script","_law_purse_here","_law_draws","_law_deeds","_law_machines","_law_row","_law_state","_law_time","_law_happening","_law_due","_law_fault","_law_found","e"]
theorem scL:FnScope nL1 ["_law_script"] (defScope s_law):=⟨rfl,rfl,rfl,by decide +kernel,rfl,by decide +kernel,by decide +kernel⟩
theorem ndL1:((["_law_k"]:List Str)++nL1).Nodup:=by decide +kernel
theorem ok_law (D:Df K mg "law" s_law ["_law_script"] f fd) (DP:Df K mg "_law_purse" s_law_purse ["_law_script"] fP fdP) (DM:Df K mg "_law_mixed" s_law_mixed ["_law_cell","_law_k"] fM fdM) (DD:Df K mg "_law_draw" s_law_draw ["_law_purse_here","_law_out_of"] fD fdD)
    (DS:Df K mg "_law_small_deed" s_law_small_deed pSm fS fdS) (DPc:Df K mg "_law_piece" s_law_piece ["_law_purse_here"] fPc fdPc) (DL:Df K mg "_law_done" s_law_done pLd fL fdL) (GL:FnOk P w K mg base CX0 19 fL fdL pLd (spLd bs1 qs1)) (DC:Df K mg "_law_class" s_law_class ["_law_fault"] fC fdC) (GC:FnOk P w K mg base CX0 2 fC fdC ["_law_fault"] (fun vs H Q E=>∃ e,spCl cf e vs H Q E))
    (MM:Mk K CM fMI) (bMI:Binds K fdMI ["self","machines"] []) (GMI:FnOk P w K mg base CX0 31 fMI fdMI ["self","machines"] (spMI CM 29)) (MS:Mk K CS fSI) (bSI:Binds K fdSI ["self","boxes","queues","drawn","sent"] []) (GSI:FnOk P w K mg base CX0 1 fSI fdSI ["self","boxes","queues","drawn","sent"] (spSI CS))
    (DDn:Df K mg "done" s_done ["model","state","happening"] fDn fdDn) (GDn:FnOk P w K mg base (CXo P w) 31 fDn fdDn ["model","state","happening"] (spDone cf CM CD CS bs1 qs1 3)) (mF:mg "Fault"=some (.ref CF)) (xF:∀ e,PySem.W.exmOne K (.ref (cf e)) (.ref CF)=some true) (kss:PySem.W.kitOne K (.type "str") (.type "str")=some true) (kts:PySem.W.kitOne K (.type "tuple") (.type "str")=some false) (ktt:PySem.W.kitOne K (.type "tuple") (.type "tuple")=some true) (B:Bl mg) (TM:MdT K mg CM CS) :
    FnOk P w K mg base CX0 33 f fd ["_law_script"] (spLaw K):=by
  have GP:FnOk P w K mg base CX0 2 fP fdP ["_law_script"] (spPurse K):=ok_purse DP DM B
  have GD:FnOk P w K mg base CX0 1 fD fdD ["_law_purse_here","_law_out_of"] spDraw:=ok_draw DD
  have GS:FnOk P w K mg base CX0 6 fS fdS pSm (spSm 3):=ok_sm DS DPc DD 3
  refine D.F.ok scL (fun vs H Q E h=>?_) (fun cdv A outer s H vs Q E hr h=>?_)
  · obtain ⟨a,ns,rfl,_⟩:=h
    rfl
  obtain ⟨a,ns,rfl,hS,hlen,hbits,k⟩:=h
  have hu:=hu_of hr
  have h50:=hu50 hr
  have r1:Room 1 _:=hr.mono (by decide)
  have r2:Room 2 _:=hr.mono (by decide)
  have r6:Room 6 _:=hr.mono (by decide)
  have r19:Room 19 _:=hr.mono (by decide)
  have r31:Room 31 _:=hr.mono (by decide)
  refine ⟨_,pss_cons (ps_set (i:=1) scL.nd rfl (Or.inr rfl) (pe_call GP r2 (by rfl) DP.m DP.F.kp DP.b .nil pass0 (pa_n (pv 0) pa_nil)))
    (pss_cons (ps_set (i:=2) scL.nd rfl (Or.inl rfl) (pe_ix ix_list (pe_lst (pa_lst (pe_lst pa_nil) (pa_lst (pe_lst (pa_f (pe_call GD r1 (by rfl) DD.m DD.F.kp DD.b .nil pass0 (pa_n (pv 1) (pa_b (pe_op op_add (pe_op op_pow pe_int pe_int) pe_int) pa_nil))) pa_nil)) pa_nil))) (pe_call GD r1 (by rfl) DD.m DD.F.kp DD.b .nil pass0 (pa_n (pv 1) (pa_c pe_int pa_nil))) (fun _ _=>rfl)))
    (pss_cons (ps_comp (i:=3) ["_law_k"] (CompOk.open (NN:=nL1) (N:=nL1) (sc:=defScope s_law) rfl rfl (by decide +kernel) rfl (by decide +kernel) (by decide +kernel) rfl (by decide +kernel)) rfl scL.nd rfl (Or.inl rfl) (pi_range1 (by rfl) B.range (pa_b (pe_op op_add pe_int (pe_call GD r1 (by rfl) DD.m DD.F.kp DD.b .nil pass0 (pa_n (pv 1) (pa_c pe_int pa_nil)))) pa_nil)) (fun _ _ _ _=>pg_name (i:=0) ndL1 rfl (Or.inl rfl)) (fun _ _ _ _=>pts_nil) (fun _ _ _ _=>pe_call GS r6 (by rfl) DS.m DS.F.kp DS.b .nil pass0 (pa_n (pv 2) (pa_c pe_int pa_nil))))
    (pss_cons (ps_set (i:=4) scL.nd rfl (Or.inl rfl) (pe_lst (pa_tup (pe_tup (pa_c pe_str (pa_lst (pe_lst (pa_tup (pe_tup (pa_c pe_str (pa_c pe_int pa_nil))) pa_nil)) (pa_lst (pe_lst (pa_c pe_str pa_nil)) (pa_n (pv 2) (pa_lst (pe_lst (pa_tup (pe_tup (pa_c pe_str (pa_n (pv 3) pa_nil))) pa_nil)) pa_nil)))))) pa_nil)))
    (pss_cons (ps_comp (i:=5) ["_law_k"] (CompOk.open (NN:=nL1) (N:=nL1) (sc:=defScope s_law) rfl rfl (by decide +kernel) rfl (by decide +kernel) (by decide +kernel) rfl (by decide +kernel)) rfl scL.nd rfl (Or.inl rfl) (pi_range1 (by rfl) B.range (pa_s (pe_ix ix_list (pe_lst (pa_c pe_int (pa_c pe_int (pa_c pe_int (pa_c pe_int pa_nil))))) (pe_call GD r1 (by rfl) DD.m DD.F.kp DD.b .nil pass0 (pa_n (pv 1) (pa_c pe_int pa_nil))) (fun _ _=>rfl)) pa_nil)) (fun _ _ _ _=>pg_name (i:=0) ndL1 rfl (Or.inl rfl)) (fun _ _ _ _=>pts_nil) (fun _ _ _ _=>pv 0))
    (pss_cons (ps_set (i:=6) scL.nd rfl (Or.inl rfl) (pe_lst (pa_cons (pe_disp (pps_cons pe_str (pe_ix ix_list (pe_lst (pa_c pe_int (pa_c pe_int (pa_b (pe_op op_pow pe_int pe_int) (pa_cons (pe_un un_neg (pe_op op_pow pe_int pe_int)) pa_nil))))) (pe_call GD r1 (by rfl) DD.m DD.F.kp DD.b .nil pass0 (pa_n (pv 1) (pa_c pe_int pa_nil))) (fun _ _=>rfl)) pps_nil) rfl rfl (by simp) (by decide)) (pa_cons (pe_disp (pps_cons pe_str (pv 5) pps_nil) rfl rfl (by simp) (by decide)) (pa_f (pe_call GD r1 (by rfl) DD.m DD.F.kp DD.b .nil pass0 (pa_n (pv 1) (pa_c pe_int pa_nil))) (pa_c pe_int pa_nil))))))
    (pss_cons (ps_set (i:=7) scL.nd rfl (Or.inl rfl) (pe_ix ix_list (pe_lst (pa_c pe_int (pa_b (pe_op op_sub (pe_op op_pow pe_int pe_int) (pe_op op_pow pe_int pe_int)) (pa_b (pe_op op_sub (pe_op op_pow pe_int pe_int) pe_int) (pa_b (pe_op op_pow pe_int pe_int) pa_nil))))) (pe_call GD r1 (by rfl) DD.m DD.F.kp DD.b .nil pass0 (pa_n (pv 1) (pa_c pe_int pa_nil))) (fun _ _=>rfl)))
    (pss_cons (ps_set (i:=8) scL.nd rfl (Or.inl rfl) (pe_tup (pa_tup (pe_tup (pa_n (pv 7) (pa_c pe_int (pa_cons (pe_un un_neg pe_int) (pa_c pe_int pa_nil))))) (pa_c pe_int (pa_c pe_str (pa_s (pe_ix ix_list (pe_lst (pa_c pe_int (pa_c pe_int (pa_b (pe_op op_pow pe_int pe_int) pa_nil)))) (pe_call GD r1 (by rfl) DD.m DD.F.kp DD.b .nil pass0 (pa_n (pv 1) (pa_c pe_int pa_nil))) (fun _ _=>rfl)) (pa_c pe_int pa_nil)))))))
    (pss_cons (ps_set (i:=9) scL.nd rfl (Or.inl rfl) (pe_call GL r19 (by rfl) DL.m DL.F.kp DL.b .nil pass0 (pa_n (pv 4) (pa_n (pv 6) (pa_n (pv 8) pa_nil)))))
    (pss_cons (ps_set (i:=10) scL.nd rfl (Or.inl rfl) pe_non)
    (pss_cons (ps_set (i:=11) scL.nd rfl (Or.inl rfl) pe_non)
    (pss_cons (ps_try (fun C σ G=>∃ er:Flt,C=cf er∧σ[9]?=some (some (.str (wordF er)))) (fun pins=>pss_one (ps_set (i:=11) scL.nd rfl (Or.inl rfl) (pe_callS GDn r31 (by rfl) DDn.m DDn.F.kp DDn.b try_passes (pa_f (pe_make MM GMI hr (by rfl) TM.mM bMI .nil pass0 (pa_n (pv 4) pa_nil)) (pa_f (pe_make MS GSI r2 (by rfl) TM.mS bSI .nil pass0 (pa_f (pe_bm0K K (by rfl) PySem.F.plainAttrs_dict PySem.F.slot_dict_copy PySem.F.type_dict_copy mt_dcopy (pe_ix (ix_listK K (by rfl)) (pv 6) pe_int (fun _ _=>rfl))) (pa_cons (pe_disp (pps_cons pe_str (pe_callTy (list_ofK K (by rfl)) (by rfl) B.list boot_list (pa_n (pv 5) pa_nil)) pps_nil) rfl rfl (by simp) (by decide)) (pa_s (pe_ix (ix_listK K (by rfl)) (pv 6) pe_int (fun _ _=>rfl)) (pa_c pe_int pa_nil))))) (pa_n (pv 8) pa_nil)))))) (phs_as 12 (by rfl) mF scL.nd rfl rfl (fun ea=>pss_one (ps_set (i:=10) scL.nd rfl (Or.inl rfl) (pv 12))) phs_nil))
    (pss_cons (ps_if (pt_val (pe_callB call_isinst (by rfl) B.isi boot_isi (pa_n (pv 9) (pa_n (pe_bltn (v:=.ty "str") (by rfl) B.str boot_str rfl) pa_nil)))) (pss_one (ps_ret (pe_and (pe_cmp (pc_notN (pv 10))) (pe_one (pe_cmpR op_eq (pe_call GC r2 (by rfl) DC.m DC.F.kp DC.b .nil pass0 (pa_n (pv 10) pa_nil)) (pv 9) (nomark _)))))) pss_nil)
    (pss_cons (ps_if ((pw_or (pt_cmp (pc_notN (pv 10))) (pw_or (pt_not (pt_val (pe_callB call_isinst (by rfl) B.isi boot_isi (pa_n (pv 11) (pa_n (pe_bltn (v:=.ty "tuple") (by rfl) B.tuple boot_tuple rfl) pa_nil))))) (pw_or (pt_cmpR op_ne (pe_callB (call_lenK K (by rfl)) (by rfl) B.len PySem.boot_len (pa_n (pv 11) pa_nil)) pe_int (nomark _)) (pw_or1 (pt_cmpR (op_neT h50) (pe_slice sl_tup (pv 11) (po_some pe_int) po_none) (pe_slice sl_tup (pv 9) (po_some pe_int) po_none) (nomark _)))))).pt) (pss_one (ps_ret pe_bl)) pss_nil)
    (pss_one (ps_ret (pe_and (pe_cmpR (op_eqD h50) (pe_fld (pe_ix ix_tup (pv 11) pe_int (fun _ _=>rfl)) (by rfl)) (pe_ix ix_list (pe_ix ix_tup (pv 9) pe_int (fun _ _=>rfl)) pe_int (fun _ _=>rfl)) (nomark _)) (pe_and (pe_cmpR (op_eqD h50) (pe_fld (pe_ix ix_tup (pv 11) pe_int (fun _ _=>rfl)) (by rfl)) (pe_ix ix_list (pe_ix ix_tup (pv 9) pe_int (fun _ _=>rfl)) pe_int (fun _ _=>rfl)) (nomark _)) (pe_one (pe_cmpR op_eq (pe_fld (pe_ix ix_tup (pv 11) pe_int (fun _ _=>rfl)) (by rfl)) (pe_ix ix_list (pe_ix ix_tup (pv 9) pe_int (fun _ _=>rfl)) pe_int (fun _ _=>rfl)) (nomark _)))))))))))))))))))),?_⟩
  have big:=line1000
  have c15:CPow 10 15:=⟨by decide,by decide,by decide⟩
  have c12:CPow 10 12:=⟨by decide,by decide,by decide⟩
  have c6:CPow 10 6:=⟨by decide,by decide,by decide⟩
  have e15:(10:Int) ^ (15:Int).toNat=1000000000000000:=by decide
  have e12:(10:Int) ^ (12:Int).toNat=1000000000000:=by decide
  have e6:(10:Int) ^ (6:Int).toNat=1000000:=by decide
  refine seq_i (asg_i ?_)
  refine ⟨_,rfl,a,ns,rfl,hS,hlen,hbits,fun p H1 _ pu1 _=>?_⟩
  refine gname_i ?_
  dsimp only
  -- draws
  refine seq_i (asg_i ?_)
  refine ⟨Nat.zero_le _,fun l0 hl0=>?_⟩
  have t0:=same_new hl0 (.lst [])
  refine ⟨_,rfl,_,_,rfl,rfl,c15,_,_,rfl,rfl,p,_,rfl,pu1.same t0,by decide,by decide,fun d G1 d0 d1 pu2 b1=>⟨lt1',fun l1 hl1=>⟨lt2,fun l2 hl2=>?_⟩⟩⟩
  have t1:=same_new hl1 (.lst [.int d])
  have t2:=same_new hl2 (.lst [.ref l0,.ref l1])
  have x0:=t2 _ _ (t1 _ _ (b1 _ _ (upd_same:upd H1 l0 (.lst []) l0=_) (newp pu1 hl0)))
  have x1:=t2 _ _ (upd_same:upd G1 l1 (.lst [.int d]) l1=_)
  have n0:=newp pu1 hl0
  have n1:=newp pu2 hl1
  have n2:=newp (pu2.same t1) hl2
  have pu3:=(pu2.same t1).same t2
  have x2:upd (upd G1 l1 (.lst [.int d])) l2 (.lst [.ref l0,.ref l1]) l2=_:=upd_same
  refine ⟨_,rfl,p,2,rfl,pu3,by decide,by decide,fun r G2 r0 r1' pu4 b2=>?_⟩
  obtain ⟨dl,ds,hx,hdl,ndl,lds⟩:∃ (dl:Addr) (ds:List Int),atI [V.ref l0,.ref l1] r=some (.ref dl)∧G2 dl=some (.lst (ds.map V.int))∧dl≠p∧ds.length≤1:=by
    have hr:r=0∨r=1:=by omega
    rcases hr with rfl | rfl
    · exact ⟨l0,[],rfl,b2 _ _ x0 n0,n0,by decide⟩
    · exact ⟨l1,[d],rfl,b2 _ _ x1 n1,n1,Nat.le_refl _⟩
  refine ⟨l2,_,_,_,rfl,rfl,SqL.of (b2 _ _ x2 n2),hx,?_⟩
  refine gname_i ?_
  dsimp only
  clear x0 x1 x2 n0 n1 n2 pu3 t0 t1 t2 b1 b2 hx hl0 hl1 hl2
  -- deeds
  refine seq_i (asg_i ?_)
  refine comp_rngT (fun m G=>m≤2∧Purse G p∧But p G2 G) (fun R hR=>?_) (fun m G h=>by omega) (fun m G3 i ys G=>∃ DD:Ds,DsIn bs1 qs1 G DD ys∧ys.length=i∧DD.deep≤2∧DD.size≤8 * i∧Purse G p∧But p G3 G) ?_ ?_ ?_ ?_
  · refine ⟨_,rfl,p,2,rfl,pu4,by decide,by decide,fun m G3 m0 m1 pu5 b3=>⟨_,_,rfl,rfl,?_⟩⟩
    have z:=hR (1 + m).toNat G3 ⟨by omega,pu5,b3⟩
    rw [Int.toNat_of_nonneg (by omega)] at z
    exact z
  · rintro m G3 ⟨_,pu5,_⟩
    exact ⟨.nil,(by simp only [DsIn]),rfl,Nat.zero_le _,Nat.le_refl _,pu5,But.refl _ _⟩
  · rintro m G3 ⟨m2,_,_⟩ i ys G hi ⟨_,_,ly,_⟩
    omega
  · rintro m G3 _ i ys G hi ⟨DD,hDD,ly,dd,sz,puG,bG⟩
    refine gname_i ⟨rfl,?_⟩
    unfold tAll
    refine iteT ?_
    refine ⟨_,rfl,p,2,rfl,by decide,puG,fun v D1 G' hD1 dd1 sz1 pu' b'=>?_⟩
    have sz1:D1.size < 8:=sz1
    exact ⟨DD.snoc D1,DsIn.snoc hD1 DD ys (DsIn.keepI (KeepI.but puG b') _ _ hDD),(by rw [List.length_append,ly]; rfl),(by rw [Ds.snoc_deep]; omega),(by rw [Ds.snoc_size]; omega),pu',bG.trans b'⟩
  rintro m G3 ⟨m2,pu5,b3⟩ vs G4 ⟨DD,hDD,ly,dd,sz,pu6,b4⟩ ddl hddl
  have hdl3:=b3 _ _ hdl ndl
  have t1:=same_new hddl (.lst vs)
  have nddl:=newp pu6 hddl
  have hdd5:=DsIn.keepI (KeepI.same t1) _ _ hDD
  have hdl5:=t1 _ _ (b4 _ _ hdl3 ndl)
  have pu7:=pu6.same t1
  have hddl5:upd G4 ddl (.lst vs) ddl=some (.lst vs):=upd_same
  have lvs:vs.length≤2:=by omega
  have szd:DD.size≤16:=by omega
  refine gname_i ?_
  dsimp only
  generalize upd G4 ddl (.lst vs)=G5 at hdd5 hdl5 pu7 hddl5
  clear hDD ly sz pu6 b4 hddl t1 hdl3 pu5 b3 hdl pu4
  -- machines
  refine seq_i (asg_i ?_)
  refine ⟨lt2,fun a1 ha1=>⟨lt1',fun bl hbl=>⟨lt1',fun ql hql=>⟨_,rfl,_,rfl,lt2,fun a2 ha2=>⟨lt1',fun hl hhl=>⟨(by show 5≤sizeLine; decide),fun tm htm=>⟨lt1',fun ml hml=>?_⟩⟩⟩⟩⟩⟩⟩
  have q1:=same_new ha1 (.tup [.str "b",.int 1])
  have q2:=same_new hbl (.lst [.ref a1])
  have q3:=same_new hql (.lst [.str "q"])
  have q4:=same_new ha2 (.tup [.str "go",.ref ddl])
  have q5:=same_new hhl (.lst [.ref a2])
  have q6:=same_new htm (.tup [.str "a",.ref bl,.ref ql,.ref dl,.ref hl])
  have q7:=same_new hml (.lst [.ref tm])
  have y1:=q7 _ _ (q6 _ _ (q5 _ _ (q4 _ _ (q3 _ _ (q2 _ _ (upd_same:upd G5 a1 (.tup [.str "b",.int 1]) a1=_))))))
  have y2:=q7 _ _ (q6 _ _ (q5 _ _ (q4 _ _ (q3 _ _ (upd_same:upd _ bl (.lst [.ref a1]) bl=_)))))
  have y3:=q7 _ _ (q6 _ _ (q5 _ _ (q4 _ _ (upd_same:upd _ ql (.lst [.str "q"]) ql=_))))
  have y4:=q7 _ _ (q6 _ _ (q5 _ _ (upd_same:upd _ a2 (.tup [.str "go",.ref ddl]) a2=_)))
  have y5:=q7 _ _ (q6 _ _ (upd_same:upd _ hl (.lst [.ref a2]) hl=_))
  have y6:=q7 _ _ (upd_same:upd _ tm (.tup [.str "a",.ref bl,.ref ql,.ref dl,.ref hl]) tm=_)
  have y7:upd (upd (upd (upd (upd (upd (upd G5 a1 (.tup [.str "b",.int 1])) bl (.lst [.ref a1])) ql (.lst [.str "q"])) a2 (.tup [.str "go",.ref ddl])) hl (.lst [.ref a2])) tm (.tup [.str "a",.ref bl,.ref ql,.ref dl,.ref hl])) ml (.lst [.ref tm]) ml=_:=upd_same
  have sm:=(((((q1.trans q2).trans q3).trans q4).trans q5).trans q6).trans q7
  have z1:=newp pu7 ha1
  have z2:=newp (pu7.same q1) hbl
  have z3:=newp ((pu7.same q1).same q2) hql
  have z4:=newp (((pu7.same q1).same q2).same q3) ha2
  have z5:=newp ((((pu7.same q1).same q2).same q3).same q4) hhl
  have z6:=newp (((((pu7.same q1).same q2).same q3).same q4).same q5) htm
  have z7:=newp ((((((pu7.same q1).same q2).same q3).same q4).same q5).same q6) hml
  refine gname_i ?_
  dsimp only
  generalize upd (upd (upd (upd (upd (upd (upd G5 a1 (.tup [.str "b",.int 1])) bl (.lst [.ref a1])) ql (.lst [.str "q"])) a2 (.tup [.str "go",.ref ddl])) hl (.lst [.ref a2])) tm (.tup [.str "a",.ref bl,.ref ql,.ref dl,.ref hl])) ml (.lst [.ref tm])=G6 at y1 y2 y3 y4 y5 y6 y7 sm
  clear q1 q2 q3 q4 q5 q6 q7 ha1 hbl hql ha2 hhl htm hml
  have pu8:=pu7.same sm
  have mk:∀ E,But p G6 E→E ml=some (.lst [.ref tm])∧MaIn bs1 qs1 ds [("go",DD)] E (.ref tm)∧Tree E 28 (.ref tm)∧Tree E 29 (.ref ml):=fun E b=>by
    have w1:=b _ _ y1 z1
    have w2:=b _ _ y2 z2
    have w3:=b _ _ y3 z3
    have w4:=b _ _ y4 z4
    have w5:=b _ _ y5 z5
    have w6:=b _ _ y6 z6
    have w7:=b _ _ y7 z7
    have wd:=b _ _ (sm _ _ hddl5) nddl
    have wl:=b _ _ (sm _ _ hdl5) ndl
    have hD:=DsIn.keepI ((KeepI.same sm).trans (KeepI.but pu8 b)) _ _ hdd5
    have lv:vs.length < 1000:=by omega
    have T:Tree E 28 (.ref tm):=by
      refine Tree.atup w6 (by show 5 < 1000; decide) fun y hy=>?_
      simp only [List.mem_cons,List.not_mem_nil,or_false] at hy
      rcases hy with rfl | rfl | rfl | rfl | rfl
      · exact Tree.scal (by exact trivial) _
      · refine Tree.alst w2 (by show 1 < 1000; decide) fun z hz=>?_
        rw [List.mem_singleton.mp hz]
        refine Tree.atup w1 (by show 2 < 1000; decide) fun y hy=>?_
        simp only [List.mem_cons,List.not_mem_nil,or_false] at hy
        rcases hy with rfl | rfl <;> exact Tree.scal (by exact trivial) _
      · refine Tree.alst w3 (by show 1 < 1000; decide) fun z hz=>?_
        rw [List.mem_singleton.mp hz]
        exact Tree.scal (by exact trivial) _
      · refine Tree.alst wl (by rw [List.length_map]; omega) fun z hz=>?_
        obtain ⟨x,_,rfl⟩:=List.mem_map.mp hz
        exact Tree.scal (by exact trivial) _
      · refine Tree.alst w5 (by show 1 < 1000; decide) fun z hz=>?_
        rw [List.mem_singleton.mp hz]
        refine Tree.atup w4 (by show 2 < 1000; decide) fun y hy=>?_
        simp only [List.mem_cons,List.not_mem_nil,or_false] at hy
        rcases hy with rfl | rfl
        · exact Tree.scal (by exact trivial) _
        · exact Tree.alst wd lv fun z hz=>DsIn.tree DD vs 24 hD (by omega) z hz
    refine ⟨w7,⟨tm,bl,ql,dl,hl,.str "a",[.ref a1],[.ref a2],rfl,w6,w2,.cons ⟨a1,.int 1,rfl,w1⟩ .nil,w3,wl,w5,.cons ⟨a2,.ref ddl,rfl,w4,ddl,vs,rfl,wd,lv,hD⟩ .nil⟩,T,Tree.alst w7 (by show 1 < 1000; decide) fun z hz=>?_⟩
    rw [List.mem_singleton.mp hz]
    exact T
  clear y1 y2 y3 y4 y5 y6 y7 z1 z2 z3 z4 z5 z6 z7 hdd5 hdl5 hddl5 pu7 nddl sm
  -- row
  refine seq_i (asg_i ?_)
  refine comp_rngT (fun m G=>m≤30∧Purse G p∧But p G6 G) (fun R hR=>?_) (fun m G h=>by omega) (fun m G7 i ys G=>G=G7∧ys=(rowI i).map V.int) ?_ ?_ ?_ ?_
  · refine ⟨(by show 4≤sizeLine; decide),fun l hl4=>?_⟩
    have t1:=same_new hl4 (.lst ([0,1,29,30].map V.int))
    have nl:=newp pu8 hl4
    refine ⟨_,rfl,p,4,rfl,pu8.same t1,by decide,by decide,fun ra G7 ra0 ra1 pu9 b7=>?_⟩
    obtain ⟨n,hn,ln⟩:∃ n:Nat,atI ([0,1,29,30].map V.int) ra=some (.int n)∧n≤30:=by
      have hr:ra=0∨ra=1∨ra=2∨ra=3:=by omega
      rcases hr with rfl | rfl | rfl | rfl
      · exact ⟨0,rfl,by decide⟩
      · exact ⟨1,rfl,by decide⟩
      · exact ⟨29,rfl,by decide⟩
      · exact ⟨30,rfl,by decide⟩
    exact ⟨l,_,_,_,rfl,rfl,SqL.of (b7 _ _ upd_same nl),hn,hR n G7 ⟨ln,pu9,(But.same (But.refl _ _) t1).trans b7⟩⟩
  · exact fun _ _ _=>⟨rfl,rfl⟩
  · rintro m G7 ⟨m2,_,_⟩ i ys G hi ⟨_,rfl⟩
    rw [List.length_map,rowI_len]
    omega
  · rintro m G7 _ i ys G hi ⟨rfl,rfl⟩
    refine gname_i ⟨rfl,?_⟩
    unfold tAll
    refine iteT ?_
    refine ⟨_,rfl,rfl,?_⟩
    unfold rowI
    rw [List.range_succ,List.map_append,List.map_append]
    rfl
  rintro n G7 ⟨ln,pu9,b67⟩ ys G8 ⟨rfl,rfl⟩ rl hrl
  have t2:=same_new hrl (.lst ((rowI n).map V.int))
  have nrl:=newp pu9 hrl
  have hrl9:upd G8 rl (.lst ((rowI n).map V.int)) rl=_:=upd_same
  have pu10:=pu9.same t2
  have b69:=b67.same t2
  refine gname_i ?_
  dsimp only
  generalize upd G8 rl (.lst ((rowI n).map V.int))=G9 at hrl9 pu10 b69
  clear t2 hrl b67 pu9
  -- state
  refine seq_i (asg_i ?_)
  intro bd hbd
  have t1:=same_new hbd (.dK [])
  have nbd:=newp pu10 hbd
  refine ⟨_,_,rfl,rfl,c15,_,_,rfl,rfl,c15,_,rfl,(by show 4≤sizeLine; decide),fun l hl4=>?_⟩
  have t2:=same_new hl4 (.lst ([0,1,(10:Int) ^ (15:Int).toNat,-((10:Int) ^ (15:Int).toNat)].map V.int))
  have nl:=newp (pu10.same t1) hl4
  refine ⟨_,rfl,p,4,rfl,(pu10.same t1).same t2,by decide,by decide,fun rb G10 rb0 rb1 pu11 b10=>?_⟩
  obtain ⟨x,hx,wx⟩:∃ x:Int,atI ([0,1,(10:Int) ^ (15:Int).toNat,-((10:Int) ^ (15:Int).toNat)].map V.int) rb=some (.int x)∧Wo x:=by
    have hr:rb=0∨rb=1∨rb=2∨rb=3:=by omega
    rcases hr with rfl | rfl | rfl | rfl
    · exact ⟨_,rfl,by unfold Wo; decide⟩
    · exact ⟨_,rfl,by unfold Wo; decide⟩
    · exact ⟨_,rfl,by unfold Wo; decide⟩
    · exact ⟨_,rfl,by unfold Wo; decide⟩
  have hbd10:G10 bd=some (.dK []):=b10 _ _ (t2 _ _ upd_same) nbd
  refine ⟨l,_,_,_,rfl,rfl,SqL.of (b10 _ _ upd_same nl),hx,hbd10,[((Sum.inr "b":Key),.int x)],rfl,(by show 1≤15; decide),?_⟩
  rw [put1]
  have hbd11:upd G10 bd (.dK [((Sum.inr "b":Key),.int x)]) bd=some (.dK (boK [("b",x)])):=upd_same
  have bB:But p G9 (upd G10 bd (.dK [((Sum.inr "b":Key),.int x)])):=fun c o e n=>by
    rw [upd_ne (ne_of_none e hbd)]
    exact b10 _ _ (t2 _ _ (t1 _ _ e)) n
  have pu12:Purse (upd G10 bd (.dK [((Sum.inr "b":Key),.int x)])) p:=by
    obtain ⟨c,e,h⟩:=pu11
    exact ⟨c,e,hv_ne h (Ne.symm nbd)⟩
  generalize upd G10 bd (.dK [((Sum.inr "b":Key),.int x)])=G11 at hbd11 bB pu12
  clear hbd10 hx nl t1 t2 hl4 b10 pu11 hbd
  intro qd hqd
  have t1:=same_new hqd (.dK [])
  have nqd:=newp pu12 hqd
  refine ⟨_,rfl,upd_same,[((Sum.inr "q":Key),.ref rl)],rfl,(by show 1≤15; decide),?_⟩
  rw [put1]
  have hqd11:upd (upd G11 qd (.dK [])) qd (.dK [((Sum.inr "q":Key),.ref rl)]) qd=some (.dK (quK [("q",rl)])):=upd_same
  have sQ:Same G11 (upd (upd G11 qd (.dK [])) qd (.dK [((Sum.inr "q":Key),.ref rl)])):=fun c o e=>by
    rw [upd_ne (ne_of_none e hqd),upd_ne (ne_of_none e hqd)]
    exact e
  have pu13:=pu12.same sQ
  generalize upd (upd G11 qd (.dK [])) qd (.dK [((Sum.inr "q":Key),.ref rl)])=G12 at hqd11 sQ pu13
  clear t1 hqd
  refine ⟨_,rfl,p,3,rfl,pu13,by decide,by decide,fun dr G13 dr0 dr1 pu14 b13=>⟨(by show 4≤sizeLine; decide),fun sl hsl=>?_⟩⟩
  have t3:=same_new hsl (.lst [.ref bd,.ref qd,.int dr,.int 0])
  have nsl:=newp pu14 hsl
  have hbd14:=t3 _ _ (b13 _ _ (sQ _ _ hbd11) nbd)
  have hqd14:=t3 _ _ (b13 _ _ hqd11 nqd)
  have b914:=((bB.same sQ).trans b13).same t3
  have hrl14:=b914 _ _ hrl9 nrl
  have hsl14:upd G13 sl (.lst [.ref bd,.ref qd,.int dr,.int 0]) sl=_:=upd_same
  have pu15:=pu14.same t3
  have b614:=b69.trans b914
  refine gname_i ?_
  dsimp only
  generalize upd G13 sl (.lst [.ref bd,.ref qd,.int dr,.int 0])=G14 at hbd14 hqd14 hrl14 hsl14 pu15 b614
  clear t3 hsl hbd11 hqd11 bB sQ b13 b914 b69 hrl9 pu14 pu13 pu12 pu10
  obtain ⟨dn,rfl⟩:∃ dn:Nat,dr=(dn:Int):=⟨dr.toNat,by omega⟩
  -- time
  refine seq_i (asg_i ?_)
  refine ⟨_,_,rfl,rfl,c12,_,_,rfl,rfl,c6,_,_,rfl,rfl,_,_,rfl,rfl,c12,_,_,rfl,rfl,_,_,rfl,rfl,c12,(by show 4≤sizeLine; decide),fun l hl4=>?_⟩
  have t1:=same_new hl4 (.lst ([3,(10:Int) ^ (12:Int).toNat - (10:Int) ^ (6:Int).toNat,(10:Int) ^ (12:Int).toNat - 1,(10:Int) ^ (12:Int).toNat].map V.int))
  have nl:=newp pu15 hl4
  refine ⟨_,rfl,p,4,rfl,pu15.same t1,by decide,by decide,fun rc G15 rc0 rc1 pu16 b15=>?_⟩
  obtain ⟨tt,htt,wtt⟩:∃ x:Int,atI ([3,(10:Int) ^ (12:Int).toNat - (10:Int) ^ (6:Int).toNat,(10:Int) ^ (12:Int).toNat - 1,(10:Int) ^ (12:Int).toNat].map V.int) rc=some (.int x)∧Wo x:=by
    have hr:rc=0∨rc=1∨rc=2∨rc=3:=by omega
    rcases hr with rfl | rfl | rfl | rfl
    · exact ⟨_,rfl,by unfold Wo; decide⟩
    · exact ⟨_,rfl,by unfold Wo; decide⟩
    · exact ⟨_,rfl,by unfold Wo; decide⟩
    · exact ⟨_,rfl,by unfold Wo; decide⟩
  refine ⟨l,_,_,_,rfl,rfl,SqL.of (b15 _ _ upd_same nl),htt,?_⟩
  refine gname_i ?_
  dsimp only
  have b1415:But p G14 G15:=(But.same (But.refl _ _) t1).trans b15
  clear t1 nl hl4 htt b15 pu15
  -- happening
  refine seq_i (asg_i ?_)
  refine ⟨_,rfl,_,rfl,(by show 4≤sizeLine; decide),fun kh hkh=>?_⟩
  have t1:=same_new hkh (.tup [.int tt,.int 0,.int (-1),.int 0])
  have nkh:=newp pu16 hkh
  refine ⟨_,_,rfl,rfl,c15,(by show 3≤sizeLine; decide),fun l hl4=>?_⟩
  have t2:=same_new hl4 (.lst ([0,1,(10:Int) ^ (15:Int).toNat].map V.int))
  have nl:=newp (pu16.same t1) hl4
  refine ⟨_,rfl,p,3,rfl,(pu16.same t1).same t2,by decide,by decide,fun rd G16 rd0 rd1 pu17 b16=>?_⟩
  obtain ⟨ga,hga,wga⟩:∃ x:Int,atI ([0,1,(10:Int) ^ (15:Int).toNat].map V.int) rd=some (.int x)∧Wo x:=by
    have hr:rd=0∨rd=1∨rd=2:=by omega
    rcases hr with rfl | rfl | rfl
    · exact ⟨_,rfl,by unfold Wo; decide⟩
    · exact ⟨_,rfl,by unfold Wo; decide⟩
    · exact ⟨_,rfl,by unfold Wo; decide⟩
  refine ⟨l,_,_,_,rfl,rfl,SqL.of (b16 _ _ upd_same nl),hga,(by show 5≤sizeLine; decide),fun th hth=>?_⟩
  have t3:=same_new hth (.tup [.ref kh,.int 0,.str "go",.int ga,.int 2])
  have hkh17:=t3 _ _ (b16 _ _ (t2 _ _ (upd_same:upd G15 kh (.tup [.int tt,.int 0,.int (-1),.int 0]) kh=_)) nkh)
  have hth17:upd G16 th (.tup [.ref kh,.int 0,.str "go",.int ga,.int 2]) th=_:=upd_same
  have bE:=(((b1415.same t1).same t2).trans b16).same t3
  refine gname_i ?_
  dsimp only
  generalize upd G16 th (.tup [.ref kh,.int 0,.str "go",.int ga,.int 2])=F at hkh17 hth17 bE
  have hbdF:=bE _ _ hbd14 nbd
  have hqdF:=bE _ _ hqd14 nqd
  have hrlF:=bE _ _ hrl14 nrl
  have hslF:=bE _ _ hsl14 nsl
  obtain ⟨hmlF,hMF,hTm,hTl⟩:=mk F (b614.trans bE)
  clear t1 t2 t3 nkh nl hl4 hth hga b16 bE b1415 b614 hbd14 hqd14 hrl14 hsl14 mk pu17 pu16 hkh
  have hS:SlIn F sl [("b",x)] [("q",rowI n)] dn 0:=⟨bd,qd,[("q",rl)],hslF,hbdF,hqdF,.cons ⟨rfl,hrlF⟩ .nil⟩
  have hE:EvIn F (.ref th) ⟨tt,0,-1,0,0,"go",ga,2⟩:=⟨th,kh,rfl,hth17,hkh17⟩
  have okW:WkOk bs1 qs1 (w0 [("b",x)] [("q",rowI n)] dn 0):=⟨rfl,rfl,by decide,by decide,(fun q hq=>by rw [List.mem_singleton.mp hq]; exact wx),(fun q hq=>by rw [List.mem_singleton.mp hq]; exact ⟨by show (rowI n).length≤30; rw [rowI_len]; exact ln,rowI_wo ln⟩),List.nodup_nil,(fun x hx=>by cases hx),List.nodup_nil,(fun x hx=>by cases hx),(fun x hx=>by cases hx),by decide⟩
  have eDs:dsOf [("go",DD)] "go"=DD:=rfl
  have w2:Wo 2:=by unfold Wo; decide
  -- due
  refine seq_i (asg_i ?_)
  refine ⟨_,rfl,_,rfl,_,rfl,ml,sl,[.ref tm],.ref th,.ref tm,⟨tt,0,-1,0,0,"go",ga,2⟩,ds,[("go",DD)],[("b",x)],[("q",rowI n)],dn,0,rfl,hmlF,hE,rfl,hMF,hS,okW,wtt,wga,w2,(by omega),(by show (["go"]:List Str).Nodup; decide +kernel),(by rw [eDs]; omega),(by decide +kernel),?_⟩
  rw [eDs]
  cases ew:doS ⟨tt,0,-1,0,0,"go",ga,2⟩ ds DD (w0 [("b",x)] [("q",rowI n)] dn 0) with
  | error er =>
    intro F1 s1
    refine gname_i ?_
    dsimp only
    refine seq_i (asg_i ?_)
    refine gname_i ?_
    dsimp only
    refine seq_i (asg_i ?_)
    refine gname_i ?_
    dsimp only
    refine seq_i ?_
    refine ⟨asg_i ?_,fun C σ' H' hl ht=>?_⟩
    · refine ⟨_,rfl,fun m dxm nm ndm nem=>?_⟩
      have sA:Same F1 (upd (upd F1 dxm (.own m)) m (.ins CM dxm [])):=fun b o e=>by
        rw [upd_ne (ne_of_none e nm),upd_ne (ne_of_none e ndm)]
        exact e
      have s1A:=s1.trans sA
      refine ⟨m,dxm,.ref ml,rfl,upd_same,hTl.same s1A,fun v' F2 s2 al=>⟨rfl,?_⟩⟩
      have al2:=Alike.keep (H2:=upd F2 m (.ins CM dxm (putF "machines" v' []))) (fun a o e n=>hv_ne e (ne_of e (s2 _ _ upd_same) (n _ _ _))) al
      obtain ⟨ml',ys,rfl,hml',pal⟩:=alike_lst (s1A _ _ hmlF) al2
      obtain ⟨tv,yr,rfl,atm,pal⟩:=p_cons pal
      obtain rfl:=p_nil pal
      have hM2:=(hMF.same s1A).alike (hTm.same s1A) atm
      have s12:Same F1 (upd F2 m (.ins CM dxm (putF "machines" (.ref ml') []))):=same_but (sA.trans s2) nm _
      have hm2:upd F2 m (.ins CM dxm (putF "machines" (.ref ml') [])) m=_:=upd_same
      generalize upd F2 m (.ins CM dxm (putF "machines" (.ref ml') []))=F2' at hml' hM2 s12 hm2
      clear al2 al atm s2
      have hsl2:=s12 _ _ (s1 _ _ hslF)
      have hbd2:=s12 _ _ (s1 _ _ hbdF)
      have hrl2:=s12 _ _ (s1 _ _ hrlF)
      refine ⟨_,rfl,sl,_,_,_,rfl,rfl,SqL.of hsl2,rfl,.inr (.inr (.inl ⟨rfl,.inl ⟨_,hbd2⟩⟩)),bd,_,rfl,rfl,hbd2,fun b2 hb2=>?_⟩
      have u1:=same_new hb2 (.dK (boK [("b",x)]))
      intro q2 hq2
      have u2:=same_new hq2 (.dK [])
      refine ⟨_,rfl,rl,_,rfl,.inl (SqL.of (u2 _ _ (u1 _ _ hrl2))),fun r2' hr2=>?_⟩
      have u3:=same_new hr2 (.lst ((rowI n).map V.int))
      refine ⟨u3 _ _ upd_same,[((Sum.inr "q":Key),.ref r2')],rfl,(by show 1≤15; decide),?_⟩
      rw [put1]
      have u4:=same_but (u2.trans u3) hq2 (.dK [((Sum.inr "q":Key),.ref r2')])
      have u14:=u1.trans u4
      have hb4:=u4 _ _ (upd_same:upd F2' b2 (.dK (boK [("b",x)])) b2=_)
      have nrq:r2'≠q2:=(ne_of_none (upd_same:upd _ q2 (.dK []) q2=_) hr2).symm
      have hr4:upd (upd (upd (upd F2' b2 (.dK (boK [("b",x)]))) q2 (.dK [])) r2' (.lst ((rowI n).map V.int))) q2 (.dK [((Sum.inr "q":Key),.ref r2')]) r2'=some (.lst ((rowI n).map V.int)):=hv_ne upd_same nrq
      have hq4:upd (upd (upd (upd F2' b2 (.dK (boK [("b",x)]))) q2 (.dK [])) r2' (.lst ((rowI n).map V.int))) q2 (.dK [((Sum.inr "q":Key),.ref r2')]) q2=some (.dK (quK [("q",r2')])):=upd_same
      generalize upd (upd (upd (upd F2' b2 (.dK (boK [("b",x)]))) q2 (.dK [])) r2' (.lst ((rowI n).map V.int))) q2 (.dK [((Sum.inr "q":Key),.ref r2')])=F3 at u4 u14 hb4 hr4 hq4
      refine ⟨_,rfl,sl,_,_,_,rfl,rfl,SqL.of (u14 _ _ hsl2),rfl,fun st dxs nst ndst nest=>?_⟩
      refine ⟨st,dxs,_,_,_,_,rfl,upd_same,fun F4 hst4 bt=>⟨rfl,?_⟩⟩
      have s34:Same F3 F4:=fun b o e2=>by
        have cx:b≠st:=ne_of_none e2 nst
        refine bt b o ?_ cx
        rw [upd_ne cx,upd_ne (ne_of_none e2 ndst)]
        exact e2
      have s24:=u14.trans s34
      have s14:=s12.trans s24
      have sF4:=s1.trans s14
      refine ⟨_,rfl,m,dxm,ml',st,_,[tv],.ref th,tv,⟨tt,0,-1,0,0,"go",ga,2⟩,ds,[("go",DD)],[("b",x)],[("q",rowI n)],dn,0,rfl,s24 _ _ hm2,(by rw [lookup_putF,if_pos rfl]),s24 _ _ hml',hE.same sF4,rfl,hM2.same s24,⟨dxs,b2,q2,[("q",r2')],hst4,s34 _ _ hb4,s34 _ _ hq4,.cons ⟨rfl,s34 _ _ hr4⟩ .nil⟩,okW,wtt,wga,w2,(by rw [eDs]; omega),(by rw [eDs]; omega),?_⟩
      rw [eDs,ew]
      intro F5 s5
      exact ⟨cf er,rfl,er,rfl,rfl⟩
    · obtain ⟨er,rfl,h9⟩:=ht
      have l13:σ'.length=13:=by
        rw [hl]
        rfl
      refine .inl ⟨xF er,fun ea hea=>?_⟩
      refine ⟨.ref ea,List.getElem?_set_self (by rw [l13]; decide),?_⟩
      refine gname_i ?_
      dsimp only [dropE]
      refine seq_i ?_
      have g9:(((σ'.set 12 (some (.ref ea))).set 10 (some (.ref ea))).set 12 none)[9]?=some (some (.str (wordF er))):=by
        rw [List.getElem?_set_ne (by decide),List.getElem?_set_ne (by decide),List.getElem?_set_ne (by decide)]
        exact h9
      have g10:(((σ'.set 12 (some (.ref ea))).set 10 (some (.ref ea))).set 12 none)[10]?=some (some (.ref ea)):=by
        rw [List.getElem?_set_ne (by decide)]
        exact List.getElem?_set_self (by rw [List.length_set,l13]; decide)
      refine ⟨_,g9,.str (wordF er),"str",.type "str",true,rfl,.str _,kss,_,rfl,iteT ?_⟩
      refine ret_i ?_
      refine ⟨_,g10,_,rfl,?_⟩
      refine iteE (b:=true) rfl (iteT ?_)
      refine ⟨_,g10,er,ea,rfl,upd_same,fun H2 _=>⟨_,g9,rfl,?_⟩⟩
      have z:=k H2
      rw [show decide (V.str (wordF er)=V.str (wordF er))=true from decide_eq_true rfl]
      exact z
  | ok wk =>
    intro F1 t l rc L1
    have s1:=L1.sm
    refine gname_i ?_
    dsimp only
    refine seq_i (asg_i ?_)
    refine gname_i ?_
    dsimp only
    refine seq_i (asg_i ?_)
    refine gname_i ?_
    dsimp only
    refine seq_i ?_
    refine ⟨asg_i ?_,fun C σ' H' hl ht=>?_⟩
    · refine ⟨_,rfl,fun m dxm nm ndm nem=>?_⟩
      have sA:Same F1 (upd (upd F1 dxm (.own m)) m (.ins CM dxm [])):=fun b o e=>by
        rw [upd_ne (ne_of_none e nm),upd_ne (ne_of_none e ndm)]
        exact e
      have s1A:=s1.trans sA
      refine ⟨m,dxm,.ref ml,rfl,upd_same,hTl.same s1A,fun v' F2 s2 al=>⟨rfl,?_⟩⟩
      have al2:=Alike.keep (H2:=upd F2 m (.ins CM dxm (putF "machines" v' []))) (fun a o e n=>hv_ne e (ne_of e (s2 _ _ upd_same) (n _ _ _))) al
      obtain ⟨ml',ys,rfl,hml',pal⟩:=alike_lst (s1A _ _ hmlF) al2
      obtain ⟨tv,yr,rfl,atm,pal⟩:=p_cons pal
      obtain rfl:=p_nil pal
      have hM2:=(hMF.same s1A).alike (hTm.same s1A) atm
      have s12:Same F1 (upd F2 m (.ins CM dxm (putF "machines" (.ref ml') []))):=same_but (sA.trans s2) nm _
      have hm2:upd F2 m (.ins CM dxm (putF "machines" (.ref ml') [])) m=_:=upd_same
      generalize upd F2 m (.ins CM dxm (putF "machines" (.ref ml') []))=F2' at hml' hM2 s12 hm2
      clear al2 al atm s2
      have hsl2:=s12 _ _ (s1 _ _ hslF)
      have hbd2:=s12 _ _ (s1 _ _ hbdF)
      have hrl2:=s12 _ _ (s1 _ _ hrlF)
      refine ⟨_,rfl,sl,_,_,_,rfl,rfl,SqL.of hsl2,rfl,.inr (.inr (.inl ⟨rfl,.inl ⟨_,hbd2⟩⟩)),bd,_,rfl,rfl,hbd2,fun b2 hb2=>?_⟩
      have u1:=same_new hb2 (.dK (boK [("b",x)]))
      intro q2 hq2
      have u2:=same_new hq2 (.dK [])
      refine ⟨_,rfl,rl,_,rfl,.inl (SqL.of (u2 _ _ (u1 _ _ hrl2))),fun r2' hr2=>?_⟩
      have u3:=same_new hr2 (.lst ((rowI n).map V.int))
      refine ⟨u3 _ _ upd_same,[((Sum.inr "q":Key),.ref r2')],rfl,(by show 1≤15; decide),?_⟩
      rw [put1]
      have u4:=same_but (u2.trans u3) hq2 (.dK [((Sum.inr "q":Key),.ref r2')])
      have u14:=u1.trans u4
      have hb4:=u4 _ _ (upd_same:upd F2' b2 (.dK (boK [("b",x)])) b2=_)
      have nrq:r2'≠q2:=(ne_of_none (upd_same:upd _ q2 (.dK []) q2=_) hr2).symm
      have hr4:upd (upd (upd (upd F2' b2 (.dK (boK [("b",x)]))) q2 (.dK [])) r2' (.lst ((rowI n).map V.int))) q2 (.dK [((Sum.inr "q":Key),.ref r2')]) r2'=some (.lst ((rowI n).map V.int)):=hv_ne upd_same nrq
      have hq4:upd (upd (upd (upd F2' b2 (.dK (boK [("b",x)]))) q2 (.dK [])) r2' (.lst ((rowI n).map V.int))) q2 (.dK [((Sum.inr "q":Key),.ref r2')]) q2=some (.dK (quK [("q",r2')])):=upd_same
      generalize upd (upd (upd (upd F2' b2 (.dK (boK [("b",x)]))) q2 (.dK [])) r2' (.lst ((rowI n).map V.int))) q2 (.dK [((Sum.inr "q":Key),.ref r2')])=F3 at u4 u14 hb4 hr4 hq4
      refine ⟨_,rfl,sl,_,_,_,rfl,rfl,SqL.of (u14 _ _ hsl2),rfl,fun st dxs nst ndst nest=>?_⟩
      refine ⟨st,dxs,_,_,_,_,rfl,upd_same,fun F4 hst4 bt=>⟨rfl,?_⟩⟩
      have s34:Same F3 F4:=fun b o e2=>by
        have cx:b≠st:=ne_of_none e2 nst
        refine bt b o ?_ cx
        rw [upd_ne cx,upd_ne (ne_of_none e2 ndst)]
        exact e2
      have s24:=u14.trans s34
      have s14:=s12.trans s24
      have sF4:=s1.trans s14
      refine ⟨_,rfl,m,dxm,ml',st,_,[tv],.ref th,tv,⟨tt,0,-1,0,0,"go",ga,2⟩,ds,[("go",DD)],[("b",x)],[("q",rowI n)],dn,0,rfl,s24 _ _ hm2,(by rw [lookup_putF,if_pos rfl]),s24 _ _ hml',hE.same sF4,rfl,hM2.same s24,⟨dxs,b2,q2,[("q",r2')],hst4,s34 _ _ hb4,s34 _ _ hq4,.cons ⟨rfl,s34 _ _ hr4⟩ .nil⟩,okW,wtt,wga,w2,(by rw [eDs]; omega),(by rw [eDs]; omega),?_⟩
      rw [eDs,ew]
      intro F5 L t' rc' wl ws1 ws2 qa dn5
      refine gname_i ?_
      dsimp only
      have s5:=s14.trans dn5.sm
      have ht5:=s5 _ _ L1.ht
      have hrcA:=L1.hrc.same s5
      have hrcB:=dn5.rc
      obtain ⟨bd1,qd1,qa1,g1,g2,g3,g4⟩:=L1.hl
      obtain ⟨H0,s0,g⟩:=dn5.dg
      refine seq_i ?_
      refine ⟨_,rfl,.ref t,"str",.type "tuple",false,rfl,.tup ht5,kts,_,rfl,iteF (next_i ?_)⟩
      dsimp only
      refine seq_i ?_
      refine ifF_i (fun R r=>?_) fun F6 s6=>next_i ?_
      · refine ⟨_,rfl,_,rfl,?_⟩
        refine iteE (b:=false) rfl (iteF ?_)
        refine ⟨_,rfl,.ref t',"tuple",.type "tuple",true,rfl,.tup dn5.ht,ktt,_,rfl,?_⟩
        refine iteF ?_
        refine ⟨_,rfl,t',_,rfl,.inr (SqT.of dn5.ht),rfl,_,rfl,?_⟩
        refine iteF ?_
        refine ⟨_,rfl,_,rfl,t',_,rfl,SqT.of dn5.ht,(by show ¬ (HT.sIx 3 0 (some 1)=0∧HT.sIx 3 3 none=3); decide),fun p1 hp1=>?_⟩
        have v1:=same_new hp1 (.tup [.ref rc',.bl wk.en])
        refine ⟨_,rfl,_,rfl,t,_,rfl,SqT.of (v1 _ _ ht5),(by show ¬ (HT.sIx 3 0 (some 1)=0∧HT.sIx 3 3 none=3); decide),fun p2 hp2=>?_⟩
        have v2:=same_new hp2 (.tup [.ref rc,.bl wk.en])
        refine ⟨5,p1,p2,by decide,rfl,rfl,.inr (.inr ⟨p1,p2,_,_,rfl,rfl,v2 _ _ upd_same,upd_same,.cons (teq_rec (n:=0) (hrcB.same (v1.trans v2)) (hrcA.same (v1.trans v2))) (.cons (teq_sc trivial) .nil)⟩),_,rfl,?_⟩
        exact r _ (v1.trans v2)
      dsimp only
      have s56:=s5.trans s6
      refine ret_i ?_
      refine ⟨_,rfl,t',_,_,_,rfl,rfl,SqT.of (s6 _ _ dn5.ht),rfl,L.st,CS,L.dxs,_,_,rfl,s6 _ _ g.hst,TM.clS,TM.nB,st_b _ _ _ _,?_⟩
      refine ⟨_,rfl,t,_,_,_,rfl,rfl,SqT.of (s6 _ _ ht5),rfl,l,_,_,_,rfl,rfl,SqL.of (s56 _ _ g1),rfl,1,L.bd,bd1,by decide,rfl,rfl,deq_box (s6 _ _ g.hb) (s56 _ _ g2),_,rfl,iteT ?_⟩
      refine ⟨_,rfl,t',_,_,_,rfl,rfl,SqT.of (s6 _ _ dn5.ht),rfl,L.st,CS,L.dxs,_,_,rfl,s6 _ _ g.hst,TM.clS,TM.nQ,st_q _ _ _ _,?_⟩
      refine ⟨_,rfl,t,_,_,_,rfl,rfl,SqT.of (s6 _ _ ht5),rfl,l,_,_,_,rfl,rfl,SqL.of (s56 _ _ g1),rfl,1,L.qd,qd1,by decide,rfl,rfl,deq_que (s6 _ _ g.hq) (s56 _ _ g3) (g.hl.same s6) (g4.same s56),_,rfl,iteT ?_⟩
      refine ⟨_,rfl,t',_,_,_,rfl,rfl,SqT.of (s6 _ _ dn5.ht),rfl,L.st,CS,L.dxs,_,_,rfl,s6 _ _ g.hst,TM.clS,TM.nD,st_d _ _ _ _,?_⟩
      refine ⟨_,rfl,t,_,_,_,rfl,rfl,SqT.of (s6 _ _ ht5),rfl,l,_,_,_,rfl,rfl,SqL.of (s56 _ _ g1),rfl,rfl,?_⟩
      have z:=k F6
      rw [show decide (V.int (wk.dr:Int)=V.int (wk.dr:Int))=true from decide_eq_true rfl]
      exact z
    · obtain ⟨er,rfl,h9⟩:=ht
      have l13:σ'.length=13:=by
        rw [hl]
        rfl
      refine .inl ⟨xF er,fun ea hea=>?_⟩
      refine ⟨.ref ea,List.getElem?_set_self (by rw [l13]; decide),?_⟩
      refine gname_i ?_
      dsimp only [dropE]
      refine seq_i ?_
      have g9:(((σ'.set 12 (some (.ref ea))).set 10 (some (.ref ea))).set 12 none)[9]?=some (some (.str (wordF er))):=by
        rw [List.getElem?_set_ne (by decide),List.getElem?_set_ne (by decide),List.getElem?_set_ne (by decide)]
        exact h9
      have g10:(((σ'.set 12 (some (.ref ea))).set 10 (some (.ref ea))).set 12 none)[10]?=some (some (.ref ea)):=by
        rw [List.getElem?_set_ne (by decide)]
        exact List.getElem?_set_self (by rw [List.length_set,l13]; decide)
      refine ⟨_,g9,.str (wordF er),"str",.type "str",true,rfl,.str _,kss,_,rfl,iteT ?_⟩
      refine ret_i ?_
      refine ⟨_,g10,_,rfl,?_⟩
      refine iteE (b:=true) rfl (iteT ?_)
      refine ⟨_,g10,er,ea,rfl,upd_same,fun H2 _=>⟨_,g9,rfl,?_⟩⟩
      have z:=k H2
      rw [show decide (V.str (wordF er)=V.str (wordF er))=true from decide_eq_true rfl]
      exact z
end
end My
namespace My
open PySem L2
def cfOf (CN CG CU CY CP CL:Addr):Flt→Addr
  | .nought=>CN
  | .great=>CG
  | .full=>CU
  | .dry=>CY
  | .span=>CP
  | .late=>CL
end My
namespace My
def fltOf {α:Type} (a b c d e f:α):Flt→α
  | .nought=>a
  | .great=>b
  | .full=>c
  | .dry=>d
  | .span=>e
  | .late=>f
theorem flt_all {P:Flt→Prop} (a:P .nought) (b:P .great) (c:P .full) (d:P .dry) (e:P .span) (f:P .late):∀ x,P x
  | .nought=>a
  | .great=>b
  | .full=>c
  | .dry=>d
  | .span=>e
  | .late=>f
end My
namespace My
open PySem L2
theorem df_mk {K:PySem.W.Frag} {h:Heap} {mg:Str→Option Value} {x:Str} {st:Stmt} {f:Addr} {oc:Value} {od an:Option Addr} {sl:Array (Option Value)} {kV dc pm cd ct:Value} {ps:List Str} (X:K.In h) (G:h.Ns mainGlobals mg) (a:PySem.W.nsIn K mainGlobals x=some (some (.ref f)))
    (l:K.lookup f=some ⟨oc,od,.func (PySem.W.fnOf x x (defArgs st) (defBody st) (defScope st) .none kV dc pm an cd ct),sl⟩) (c:PySem.W.codeIn K cd x=true) (k:PySem.W.keepIn K (.ref f)=true)
    (hb:∀ (kV doc pm:Value) (an:Option Addr) (cdv ct:Value) (us:List Value),us.length=ps.length→bindArgs (PySem.W.fnOf x x (defArgs st) (defBody st) (defScope st) .none kV doc pm an cdv ct) ⟨us,[]⟩=pure (ps.zip us)) :
    Df K mg x st ps f (PySem.W.fnOf x x (defArgs st) (defBody st) (defScope st) .none kV dc pm an cd ct):=⟨fun_mk l c k,(fun_mk l c k).binds hb,PySem.W.mg_of X G a⟩
theorem my_len1 {α:Type} {us:List α} (h:us.length=1):∃ a,us=[a]:=by
  match us,h with | [a],_=>exact ⟨a,rfl⟩
theorem my_len2 {α:Type} {us:List α} (h:us.length=2):∃ a b,us=[a,b]:=by
  match us,h with | [a,b],_=>exact ⟨a,b,rfl⟩
theorem my_len3 {α:Type} {us:List α} (h:us.length=3):∃ a b c,us=[a,b,c]:=by
  match us,h with | [a,b,c],_=>exact ⟨a,b,c,rfl⟩
theorem my_len4 {α:Type} {us:List α} (h:us.length=4):∃ a b c d,us=[a,b,c,d]:=by
  match us,h with | [a,b,c,d],_=>exact ⟨a,b,c,d,rfl⟩
theorem my_len5 {α:Type} {us:List α} (h:us.length=5):∃ a b c d e,us=[a,b,c,d,e]:=by
  match us,h with | [a,b,c,d,e],_=>exact ⟨a,b,c,d,e,rfl⟩
theorem my_len6 {α:Type} {us:List α} (h:us.length=6):∃ a b c d e f,us=[a,b,c,d,e,f]:=by
  match us,h with | [a,b,c,d,e,f],_=>exact ⟨a,b,c,d,e,f,rfl⟩
theorem my_len9 {α:Type} {us:List α} (h:us.length=9):∃ a b c d e f g h i,us=[a,b,c,d,e,f,g,h,i]:=by
  match us,h with | [a,b,c,d,e,f,g,h,i],_=>exact ⟨a,b,c,d,e,f,g,h,i,rfl⟩
theorem all_mk {l:PySem.W.OpenLaw} {w:World} {K:PySem.W.Frag} {h:Heap} {mg:Str→Option Value} {fa f1 f2 f3 f4 f5 f6 f7 f8 f9 f10 f11 f12 f13 f14 f15 f16 f17 f18 f19 f20 f21 f22 f23 f24 f25 f26 f27 f28 f29 CM f30 CS f31 f32 CD f33 f34 f35 f36 f37 CN CG CU CY CP CL CF CE:Addr} (X:K.In h) (G:h.Ns mainGlobals mg) (hfa:mg "law"=some (.ref fa))
    {od100 an100:Option Addr} {sl100:Array (Option Value)} {oc100 kV100 dc100 pm100 cd100 ct100:Value} {f100:Addr}
    {od101 an101:Option Addr} {sl101:Array (Option Value)} {oc101 kV101 dc101 pm101 cd101 ct101:Value} {f101:Addr}
    {od102 an102:Option Addr} {sl102:Array (Option Value)} {oc102 kV102 dc102 pm102 cd102 ct102:Value} {f102:Addr}
    {od103 an103:Option Addr} {sl103:Array (Option Value)} {oc103 kV103 dc103 pm103 cd103 ct103:Value} {f103:Addr}
    {od104 an104:Option Addr} {sl104:Array (Option Value)} {oc104 kV104 dc104 pm104 cd104 ct104:Value} {f104:Addr}
    {od105 an105:Option Addr} {sl105:Array (Option Value)} {oc105 kV105 dc105 pm105 cd105 ct105:Value} {f105:Addr}
    {od1 an1:Option Addr} {sl1:Array (Option Value)} {oc1 kV1 dc1 pm1 cd1 ct1:Value}
    {od2 an2:Option Addr} {sl2:Array (Option Value)} {oc2 kV2 dc2 pm2 cd2 ct2:Value}
    {od3 an3:Option Addr} {sl3:Array (Option Value)} {oc3 kV3 dc3 pm3 cd3 ct3:Value}
    {od4 an4:Option Addr} {sl4:Array (Option Value)} {oc4 kV4 dc4 pm4 cd4 ct4:Value}
    {od5 an5:Option Addr} {sl5:Array (Option Value)} {oc5 kV5 dc5 pm5 cd5 ct5:Value}
    {od6 an6:Option Addr} {sl6:Array (Option Value)} {oc6 kV6 dc6 pm6 cd6 ct6:Value}
    {od7 an7:Option Addr} {sl7:Array (Option Value)} {oc7 kV7 dc7 pm7 cd7 ct7:Value}
    {od8 an8:Option Addr} {sl8:Array (Option Value)} {oc8 kV8 dc8 pm8 cd8 ct8:Value}
    {od9 an9:Option Addr} {sl9:Array (Option Value)} {oc9 kV9 dc9 pm9 cd9 ct9:Value}
    {od10 an10:Option Addr} {sl10:Array (Option Value)} {oc10 kV10 dc10 pm10 cd10 ct10:Value}
    {od11 an11:Option Addr} {sl11:Array (Option Value)} {oc11 kV11 dc11 pm11 cd11 ct11:Value}
    {od12 an12:Option Addr} {sl12:Array (Option Value)} {oc12 kV12 dc12 pm12 cd12 ct12:Value}
    {od13 an13:Option Addr} {sl13:Array (Option Value)} {oc13 kV13 dc13 pm13 cd13 ct13:Value}
    {od14 an14:Option Addr} {sl14:Array (Option Value)} {oc14 kV14 dc14 pm14 cd14 ct14:Value}
    {od15 an15:Option Addr} {sl15:Array (Option Value)} {oc15 kV15 dc15 pm15 cd15 ct15:Value}
    {od16 an16:Option Addr} {sl16:Array (Option Value)} {oc16 kV16 dc16 pm16 cd16 ct16:Value}
    {od17 an17:Option Addr} {sl17:Array (Option Value)} {oc17 kV17 dc17 pm17 cd17 ct17:Value}
    {od18 an18:Option Addr} {sl18:Array (Option Value)} {oc18 kV18 dc18 pm18 cd18 ct18:Value}
    {od19 an19:Option Addr} {sl19:Array (Option Value)} {oc19 kV19 dc19 pm19 cd19 ct19:Value}
    {od20 an20:Option Addr} {sl20:Array (Option Value)} {oc20 kV20 dc20 pm20 cd20 ct20:Value}
    {od21 an21:Option Addr} {sl21:Array (Option Value)} {oc21 kV21 dc21 pm21 cd21 ct21:Value}
    {od22 an22:Option Addr} {sl22:Array (Option Value)} {oc22 kV22 dc22 pm22 cd22 ct22:Value}
    {od23 an23:Option Addr} {sl23:Array (Option Value)} {oc23 kV23 dc23 pm23 cd23 ct23:Value}
    {od24 an24:Option Addr} {sl24:Array (Option Value)} {oc24 kV24 dc24 pm24 cd24 ct24:Value}
    {od25 an25:Option Addr} {sl25:Array (Option Value)} {oc25 kV25 dc25 pm25 cd25 ct25:Value}
    {od26 an26:Option Addr} {sl26:Array (Option Value)} {oc26 kV26 dc26 pm26 cd26 ct26:Value}
    {od27 an27:Option Addr} {sl27:Array (Option Value)} {oc27 kV27 dc27 pm27 cd27 ct27:Value}
    {od28 an28:Option Addr} {sl28:Array (Option Value)} {oc28 kV28 dc28 pm28 cd28 ct28:Value}
    {od29 an29:Option Addr} {sl29:Array (Option Value)} {oc29 kV29 dc29 pm29 cd29 ct29:Value}
    {od30 an30:Option Addr} {sl30:Array (Option Value)} {oc30 kV30 dc30 pm30 cd30 ct30:Value}
    {od31 an31:Option Addr} {sl31:Array (Option Value)} {oc31 kV31 dc31 pm31 cd31 ct31:Value}
    {od32 an32:Option Addr} {sl32:Array (Option Value)} {oc32 kV32 dc32 pm32 cd32 ct32:Value}
    {od33 an33:Option Addr} {sl33:Array (Option Value)} {oc33 kV33 dc33 pm33 cd33 ct33:Value}
    {od34 an34:Option Addr} {sl34:Array (Option Value)} {oc34 kV34 dc34 pm34 cd34 ct34:Value}
    {od35 an35:Option Addr} {sl35:Array (Option Value)} {oc35 kV35 dc35 pm35 cd35 ct35:Value}
    {od36 an36:Option Addr} {sl36:Array (Option Value)} {oc36 kV36 dc36 pm36 cd36 ct36:Value}
    {od37 an37:Option Addr} {sl37:Array (Option Value)} {oc37 kV37 dc37 pm37 cd37 ct37:Value}
    (a1:PySem.W.nsIn K mainGlobals "worth_of"=some (some (.ref f1))) (l1:K.lookup f1=some ⟨oc1,od1,.func (PySem.W.fnOf "worth_of" "worth_of" (defArgs s_worth_of) (defBody s_worth_of) (defScope s_worth_of) .none kV1 dc1 pm1 an1 cd1 ct1),sl1⟩) (c1:PySem.W.codeIn K cd1 "worth_of"=true) (k1:PySem.W.keepIn K (.ref f1)=true)
    (a2:PySem.W.nsIn K mainGlobals "number_of_leaf"=some (some (.ref f2))) (l2:K.lookup f2=some ⟨oc2,od2,.func (PySem.W.fnOf "number_of_leaf" "number_of_leaf" (defArgs s_number_of_leaf) (defBody s_number_of_leaf) (defScope s_number_of_leaf) .none kV2 dc2 pm2 an2 cd2 ct2),sl2⟩) (c2:PySem.W.codeIn K cd2 "number_of_leaf"=true) (k2:PySem.W.keepIn K (.ref f2)=true)
    (a3:PySem.W.nsIn K mainGlobals "number_of_two"=some (some (.ref f3))) (l3:K.lookup f3=some ⟨oc3,od3,.func (PySem.W.fnOf "number_of_two" "number_of_two" (defArgs s_number_of_two) (defBody s_number_of_two) (defScope s_number_of_two) .none kV3 dc3 pm3 an3 cd3 ct3),sl3⟩) (c3:PySem.W.codeIn K cd3 "number_of_two"=true) (k3:PySem.W.keepIn K (.ref f3)=true)
    (a4:PySem.W.nsIn K mainGlobals "number_of_division"=some (some (.ref f4))) (l4:K.lookup f4=some ⟨oc4,od4,.func (PySem.W.fnOf "number_of_division" "number_of_division" (defArgs s_number_of_division) (defBody s_number_of_division) (defScope s_number_of_division) .none kV4 dc4 pm4 an4 cd4 ct4),sl4⟩) (c4:PySem.W.codeIn K cd4 "number_of_division"=true) (k4:PySem.W.keepIn K (.ref f4)=true)
    (a5:PySem.W.nsIn K mainGlobals "done"=some (some (.ref f5))) (l5:K.lookup f5=some ⟨oc5,od5,.func (PySem.W.fnOf "done" "done" (defArgs s_done) (defBody s_done) (defScope s_done) .none kV5 dc5 pm5 an5 cd5 ct5),sl5⟩) (c5:PySem.W.codeIn K cd5 "done"=true) (k5:PySem.W.keepIn K (.ref f5)=true)
    (a6:PySem.W.nsIn K mainGlobals "doing_of"=some (some (.ref f6))) (l6:K.lookup f6=some ⟨oc6,od6,.func (PySem.W.fnOf "doing_of" "doing_of" (defArgs s_doing_of) (defBody s_doing_of) (defScope s_doing_of) .none kV6 dc6 pm6 an6 cd6 ct6),sl6⟩) (c6:PySem.W.codeIn K cd6 "doing_of"=true) (k6:PySem.W.keepIn K (.ref f6)=true)
    (a7:PySem.W.nsIn K mainGlobals "deeds_by_sign"=some (some (.ref f7))) (l7:K.lookup f7=some ⟨oc7,od7,.func (PySem.W.fnOf "deeds_by_sign" "deeds_by_sign" (defArgs s_deeds_by_sign) (defBody s_deeds_by_sign) (defScope s_deeds_by_sign) .none kV7 dc7 pm7 an7 cd7 ct7),sl7⟩) (c7:PySem.W.codeIn K cd7 "deeds_by_sign"=true) (k7:PySem.W.keepIn K (.ref f7)=true)
    (a8:PySem.W.nsIn K mainGlobals "writes_of"=some (some (.ref f8))) (l8:K.lookup f8=some ⟨oc8,od8,.func (PySem.W.fnOf "writes_of" "writes_of" (defArgs s_writes_of) (defBody s_writes_of) (defScope s_writes_of) .none kV8 dc8 pm8 an8 cd8 ct8),sl8⟩) (c8:PySem.W.codeIn K cd8 "writes_of"=true) (k8:PySem.W.keepIn K (.ref f8)=true)
    (a9:PySem.W.nsIn K mainGlobals "do_deeds"=some (some (.ref f9))) (l9:K.lookup f9=some ⟨oc9,od9,.func (PySem.W.fnOf "do_deeds" "do_deeds" (defArgs s_do_deeds) (defBody s_do_deeds) (defScope s_do_deeds) .none kV9 dc9 pm9 an9 cd9 ct9),sl9⟩) (c9:PySem.W.codeIn K cd9 "do_deeds"=true) (k9:PySem.W.keepIn K (.ref f9)=true)
    (a10:PySem.W.nsIn K mainGlobals "do_deed"=some (some (.ref f10))) (l10:K.lookup f10=some ⟨oc10,od10,.func (PySem.W.fnOf "do_deed" "do_deed" (defArgs s_do_deed) (defBody s_do_deed) (defScope s_do_deed) .none kV10 dc10 pm10 an10 cd10 ct10),sl10⟩) (c10:PySem.W.codeIn K cd10 "do_deed"=true) (k10:PySem.W.keepIn K (.ref f10)=true)
    (a11:PySem.W.nsIn K mainGlobals "do_push"=some (some (.ref f11))) (l11:K.lookup f11=some ⟨oc11,od11,.func (PySem.W.fnOf "do_push" "do_push" (defArgs s_do_push) (defBody s_do_push) (defScope s_do_push) .none kV11 dc11 pm11 an11 cd11 ct11),sl11⟩) (c11:PySem.W.codeIn K cd11 "do_push"=true) (k11:PySem.W.keepIn K (.ref f11)=true)
    (a12:PySem.W.nsIn K mainGlobals "do_pull"=some (some (.ref f12))) (l12:K.lookup f12=some ⟨oc12,od12,.func (PySem.W.fnOf "do_pull" "do_pull" (defArgs s_do_pull) (defBody s_do_pull) (defScope s_do_pull) .none kV12 dc12 pm12 an12 cd12 ct12),sl12⟩) (c12:PySem.W.codeIn K cd12 "do_pull"=true) (k12:PySem.W.keepIn K (.ref f12)=true)
    (a13:PySem.W.nsIn K mainGlobals "do_draw"=some (some (.ref f13))) (l13:K.lookup f13=some ⟨oc13,od13,.func (PySem.W.fnOf "do_draw" "do_draw" (defArgs s_do_draw) (defBody s_do_draw) (defScope s_do_draw) .none kV13 dc13 pm13 an13 cd13 ct13),sl13⟩) (c13:PySem.W.codeIn K cd13 "do_draw"=true) (k13:PySem.W.keepIn K (.ref f13)=true)
    (a14:PySem.W.nsIn K mainGlobals "do_send"=some (some (.ref f14))) (l14:K.lookup f14=some ⟨oc14,od14,.func (PySem.W.fnOf "do_send" "do_send" (defArgs s_do_send) (defBody s_do_send) (defScope s_do_send) .none kV14 dc14 pm14 an14 cd14 ct14),sl14⟩) (c14:PySem.W.codeIn K cd14 "do_send"=true) (k14:PySem.W.keepIn K (.ref f14)=true)
    (a15:PySem.W.nsIn K mainGlobals "copied"=some (some (.ref f15))) (l15:K.lookup f15=some ⟨oc15,od15,.func (PySem.W.fnOf "copied" "copied" (defArgs s_copied) (defBody s_copied) (defScope s_copied) .none kV15 dc15 pm15 an15 cd15 ct15),sl15⟩) (c15:PySem.W.codeIn K cd15 "copied"=true) (k15:PySem.W.keepIn K (.ref f15)=true)
    (a16:PySem.W.nsIn K mainGlobals "_law_mixed"=some (some (.ref f16))) (l16:K.lookup f16=some ⟨oc16,od16,.func (PySem.W.fnOf "_law_mixed" "_law_mixed" (defArgs s_law_mixed) (defBody s_law_mixed) (defScope s_law_mixed) .none kV16 dc16 pm16 an16 cd16 ct16),sl16⟩) (c16:PySem.W.codeIn K cd16 "_law_mixed"=true) (k16:PySem.W.keepIn K (.ref f16)=true)
    (a17:PySem.W.nsIn K mainGlobals "_law_purse"=some (some (.ref f17))) (l17:K.lookup f17=some ⟨oc17,od17,.func (PySem.W.fnOf "_law_purse" "_law_purse" (defArgs s_law_purse) (defBody s_law_purse) (defScope s_law_purse) .none kV17 dc17 pm17 an17 cd17 ct17),sl17⟩) (c17:PySem.W.codeIn K cd17 "_law_purse"=true) (k17:PySem.W.keepIn K (.ref f17)=true)
    (a18:PySem.W.nsIn K mainGlobals "_law_draw"=some (some (.ref f18))) (l18:K.lookup f18=some ⟨oc18,od18,.func (PySem.W.fnOf "_law_draw" "_law_draw" (defArgs s_law_draw) (defBody s_law_draw) (defScope s_law_draw) .none kV18 dc18 pm18 an18 cd18 ct18),sl18⟩) (c18:PySem.W.codeIn K cd18 "_law_draw"=true) (k18:PySem.W.keepIn K (.ref f18)=true)
    (a19:PySem.W.nsIn K mainGlobals "_law_two"=some (some (.ref f19))) (l19:K.lookup f19=some ⟨oc19,od19,.func (PySem.W.fnOf "_law_two" "_law_two" (defArgs s_law_two) (defBody s_law_two) (defScope s_law_two) .none kV19 dc19 pm19 an19 cd19 ct19),sl19⟩) (c19:PySem.W.codeIn K cd19 "_law_two"=true) (k19:PySem.W.keepIn K (.ref f19)=true)
    (a20:PySem.W.nsIn K mainGlobals "_law_comes_to"=some (some (.ref f20))) (l20:K.lookup f20=some ⟨oc20,od20,.func (PySem.W.fnOf "_law_comes_to" "_law_comes_to" (defArgs s_law_comes_to) (defBody s_law_comes_to) (defScope s_law_comes_to) .none kV20 dc20 pm20 an20 cd20 ct20),sl20⟩) (c20:PySem.W.codeIn K cd20 "_law_comes_to"=true) (k20:PySem.W.keepIn K (.ref f20)=true)
    (a21:PySem.W.nsIn K mainGlobals "_law_sent"=some (some (.ref f21))) (l21:K.lookup f21=some ⟨oc21,od21,.func (PySem.W.fnOf "_law_sent" "_law_sent" (defArgs s_law_sent) (defBody s_law_sent) (defScope s_law_sent) .none kV21 dc21 pm21 an21 cd21 ct21),sl21⟩) (c21:PySem.W.codeIn K cd21 "_law_sent"=true) (k21:PySem.W.keepIn K (.ref f21)=true)
    (a22:PySem.W.nsIn K mainGlobals "_law_drawn"=some (some (.ref f22))) (l22:K.lookup f22=some ⟨oc22,od22,.func (PySem.W.fnOf "_law_drawn" "_law_drawn" (defArgs s_law_drawn) (defBody s_law_drawn) (defScope s_law_drawn) .none kV22 dc22 pm22 an22 cd22 ct22),sl22⟩) (c22:PySem.W.codeIn K cd22 "_law_drawn"=true) (k22:PySem.W.keepIn K (.ref f22)=true)
    (a23:PySem.W.nsIn K mainGlobals "_law_one_deed"=some (some (.ref f23))) (l23:K.lookup f23=some ⟨oc23,od23,.func (PySem.W.fnOf "_law_one_deed" "_law_one_deed" (defArgs s_law_one_deed) (defBody s_law_one_deed) (defScope s_law_one_deed) .none kV23 dc23 pm23 an23 cd23 ct23),sl23⟩) (c23:PySem.W.codeIn K cd23 "_law_one_deed"=true) (k23:PySem.W.keepIn K (.ref f23)=true)
    (a24:PySem.W.nsIn K mainGlobals "_law_copy"=some (some (.ref f24))) (l24:K.lookup f24=some ⟨oc24,od24,.func (PySem.W.fnOf "_law_copy" "_law_copy" (defArgs s_law_copy) (defBody s_law_copy) (defScope s_law_copy) .none kV24 dc24 pm24 an24 cd24 ct24),sl24⟩) (c24:PySem.W.codeIn K cd24 "_law_copy"=true) (k24:PySem.W.keepIn K (.ref f24)=true)
    (a25:PySem.W.nsIn K mainGlobals "_law_done"=some (some (.ref f25))) (l25:K.lookup f25=some ⟨oc25,od25,.func (PySem.W.fnOf "_law_done" "_law_done" (defArgs s_law_done) (defBody s_law_done) (defScope s_law_done) .none kV25 dc25 pm25 an25 cd25 ct25),sl25⟩) (c25:PySem.W.codeIn K cd25 "_law_done"=true) (k25:PySem.W.keepIn K (.ref f25)=true)
    (a26:PySem.W.nsIn K mainGlobals "_law_piece"=some (some (.ref f26))) (l26:K.lookup f26=some ⟨oc26,od26,.func (PySem.W.fnOf "_law_piece" "_law_piece" (defArgs s_law_piece) (defBody s_law_piece) (defScope s_law_piece) .none kV26 dc26 pm26 an26 cd26 ct26),sl26⟩) (c26:PySem.W.codeIn K cd26 "_law_piece"=true) (k26:PySem.W.keepIn K (.ref f26)=true)
    (a27:PySem.W.nsIn K mainGlobals "_law_small_deed"=some (some (.ref f27))) (l27:K.lookup f27=some ⟨oc27,od27,.func (PySem.W.fnOf "_law_small_deed" "_law_small_deed" (defArgs s_law_small_deed) (defBody s_law_small_deed) (defScope s_law_small_deed) .none kV27 dc27 pm27 an27 cd27 ct27),sl27⟩) (c27:PySem.W.codeIn K cd27 "_law_small_deed"=true) (k27:PySem.W.keepIn K (.ref f27)=true)
    (a28:PySem.W.nsIn K mainGlobals "_law_class"=some (some (.ref f28))) (l28:K.lookup f28=some ⟨oc28,od28,.func (PySem.W.fnOf "_law_class" "_law_class" (defArgs s_law_class) (defBody s_law_class) (defScope s_law_class) .none kV28 dc28 pm28 an28 cd28 ct28),sl28⟩) (c28:PySem.W.codeIn K cd28 "_law_class"=true) (k28:PySem.W.keepIn K (.ref f28)=true)
    (a29:PySem.W.nsIn K mainGlobals "law"=some (some (.ref f29))) (l29:K.lookup f29=some ⟨oc29,od29,.func (PySem.W.fnOf "law" "law" (defArgs s_law) (defBody s_law) (defScope s_law) .none kV29 dc29 pm29 an29 cd29 ct29),sl29⟩) (c29:PySem.W.codeIn K cd29 "law"=true) (k29:PySem.W.keepIn K (.ref f29)=true)
    (aCM:PySem.W.nsIn K mainGlobals "Model"=some (some (.ref CM)))
    (a30:PySem.W.findIn K (.ref CM) "__init__"=some (some (.ref f30))) (i30:PySem.W.isFn K (.ref f30)=true) (l30:K.lookup f30=some ⟨oc30,od30,.func (PySem.W.fnOf "__init__" "Model.__init__" (defArgs s_Model_init) (defBody s_Model_init) (defScope s_Model_init) .none kV30 dc30 pm30 an30 cd30 ct30),sl30⟩) (c30:PySem.W.codeIn K cd30 "Model.__init__"=true) (k30:PySem.W.keepIn K (.ref f30)=true)
    (pgCM:PySem.W.plainGet K CM Str.empty=true) (hdCM:PySem.W.hasDictIn K CM=true) (poCM:PySem.W.plainOver K CM=true) (saCM:PySem.W.findIn K (.ref CM) "__setattr__"=some (some (.builtin "object.__setattr__"))) (mkCM:PySem.W.makesIn K CM=true) (kcCM:PySem.W.keepIn K (.ref CM)=true)
    (nCMmachines:PySem.W.findIn K (.ref CM) "machines"=some none)
    (aCS:PySem.W.nsIn K mainGlobals "State"=some (some (.ref CS)))
    (a31:PySem.W.findIn K (.ref CS) "__init__"=some (some (.ref f31))) (i31:PySem.W.isFn K (.ref f31)=true) (l31:K.lookup f31=some ⟨oc31,od31,.func (PySem.W.fnOf "__init__" "State.__init__" (defArgs s_State_init) (defBody s_State_init) (defScope s_State_init) .none kV31 dc31 pm31 an31 cd31 ct31),sl31⟩) (c31:PySem.W.codeIn K cd31 "State.__init__"=true) (k31:PySem.W.keepIn K (.ref f31)=true)
    (a32:PySem.W.findIn K (.ref CS) "copy"=some (some (.ref f32))) (i32:PySem.W.isFn K (.ref f32)=true) (l32:K.lookup f32=some ⟨oc32,od32,.func (PySem.W.fnOf "copy" "State.copy" (defArgs s_State_copy) (defBody s_State_copy) (defScope s_State_copy) .none kV32 dc32 pm32 an32 cd32 ct32),sl32⟩) (c32:PySem.W.codeIn K cd32 "State.copy"=true) (k32:PySem.W.keepIn K (.ref f32)=true)
    (pgCS:PySem.W.plainGet K CS Str.empty=true) (hdCS:PySem.W.hasDictIn K CS=true) (poCS:PySem.W.plainOver K CS=true) (saCS:PySem.W.findIn K (.ref CS) "__setattr__"=some (some (.builtin "object.__setattr__"))) (mkCS:PySem.W.makesIn K CS=true) (kcCS:PySem.W.keepIn K (.ref CS)=true)
    (nCSboxes:PySem.W.findIn K (.ref CS) "boxes"=some none)
    (nCSqueues:PySem.W.findIn K (.ref CS) "queues"=some none)
    (nCSdrawn:PySem.W.findIn K (.ref CS) "drawn"=some none)
    (nCSsent:PySem.W.findIn K (.ref CS) "sent"=some none)
    (aCD:PySem.W.nsIn K mainGlobals "Doing"=some (some (.ref CD)))
    (a33:PySem.W.findIn K (.ref CD) "__init__"=some (some (.ref f33))) (i33:PySem.W.isFn K (.ref f33)=true) (l33:K.lookup f33=some ⟨oc33,od33,.func (PySem.W.fnOf "__init__" "Doing.__init__" (defArgs s_Doing_init) (defBody s_Doing_init) (defScope s_Doing_init) .none kV33 dc33 pm33 an33 cd33 ct33),sl33⟩) (c33:PySem.W.codeIn K cd33 "Doing.__init__"=true) (k33:PySem.W.keepIn K (.ref f33)=true)
    (a34:PySem.W.findIn K (.ref CD) "now"=some (some (.ref f34))) (i34:PySem.W.isFn K (.ref f34)=true) (l34:K.lookup f34=some ⟨oc34,od34,.func (PySem.W.fnOf "now" "Doing.now" (defArgs s_Doing_now) (defBody s_Doing_now) (defScope s_Doing_now) .none kV34 dc34 pm34 an34 cd34 ct34),sl34⟩) (c34:PySem.W.codeIn K cd34 "Doing.now"=true) (k34:PySem.W.keepIn K (.ref f34)=true)
    (a35:PySem.W.findIn K (.ref CD) "reckon"=some (some (.ref f35))) (i35:PySem.W.isFn K (.ref f35)=true) (l35:K.lookup f35=some ⟨oc35,od35,.func (PySem.W.fnOf "reckon" "Doing.reckon" (defArgs s_Doing_reckon) (defBody s_Doing_reckon) (defScope s_Doing_reckon) .none kV35 dc35 pm35 an35 cd35 ct35),sl35⟩) (c35:PySem.W.codeIn K cd35 "Doing.reckon"=true) (k35:PySem.W.keepIn K (.ref f35)=true)
    (a36:PySem.W.findIn K (.ref CD) "queue_of"=some (some (.ref f36))) (i36:PySem.W.isFn K (.ref f36)=true) (l36:K.lookup f36=some ⟨oc36,od36,.func (PySem.W.fnOf "queue_of" "Doing.queue_of" (defArgs s_Doing_queue_of) (defBody s_Doing_queue_of) (defScope s_Doing_queue_of) .none kV36 dc36 pm36 an36 cd36 ct36),sl36⟩) (c36:PySem.W.codeIn K cd36 "Doing.queue_of"=true) (k36:PySem.W.keepIn K (.ref f36)=true)
    (a37:PySem.W.findIn K (.ref CD) "fill"=some (some (.ref f37))) (i37:PySem.W.isFn K (.ref f37)=true) (l37:K.lookup f37=some ⟨oc37,od37,.func (PySem.W.fnOf "fill" "Doing.fill" (defArgs s_Doing_fill) (defBody s_Doing_fill) (defScope s_Doing_fill) .none kV37 dc37 pm37 an37 cd37 ct37),sl37⟩) (c37:PySem.W.codeIn K cd37 "Doing.fill"=true) (k37:PySem.W.keepIn K (.ref f37)=true)
    (pgCD:PySem.W.plainGet K CD Str.empty=true) (hdCD:PySem.W.hasDictIn K CD=true) (poCD:PySem.W.plainOver K CD=true) (saCD:PySem.W.findIn K (.ref CD) "__setattr__"=some (some (.builtin "object.__setattr__"))) (mkCD:PySem.W.makesIn K CD=true) (kcCD:PySem.W.keepIn K (.ref CD)=true)
    (nCDmachine:PySem.W.findIn K (.ref CD) "machine"=some none)
    (nCDhappening:PySem.W.findIn K (.ref CD) "happening"=some none)
    (nCDstate:PySem.W.findIn K (.ref CD) "state"=some none)
    (nCDwritten:PySem.W.findIn K (.ref CD) "written"=some none)
    (nCDoutgoing:PySem.W.findIn K (.ref CD) "outgoing"=some none)
    (nCDends:PySem.W.findIn K (.ref CD) "ends"=some none)
    (nCDreckoned:PySem.W.findIn K (.ref CD) "reckoned"=some none)
    (nCDqueued:PySem.W.findIn K (.ref CD) "queued"=some none)
    (aCN:PySem.W.nsIn K mainGlobals "Nought"=some (some (.ref CN))) (xCN:PySem.W.excIn K CN vErr "ValueError.__new__"=true)
    (aCG:PySem.W.nsIn K mainGlobals "Great"=some (some (.ref CG))) (xCG:PySem.W.excIn K CG vErr "ValueError.__new__"=true)
    (aCU:PySem.W.nsIn K mainGlobals "Full"=some (some (.ref CU))) (xCU:PySem.W.excIn K CU vErr "ValueError.__new__"=true)
    (aCY:PySem.W.nsIn K mainGlobals "Dry"=some (some (.ref CY))) (xCY:PySem.W.excIn K CY vErr "ValueError.__new__"=true)
    (aCP:PySem.W.nsIn K mainGlobals "Span"=some (some (.ref CP))) (xCP:PySem.W.excIn K CP vErr "ValueError.__new__"=true)
    (aCL:PySem.W.nsIn K mainGlobals "Late"=some (some (.ref CL))) (xCL:PySem.W.excIn K CL vErr "ValueError.__new__"=true)
    (aCF:PySem.W.nsIn K mainGlobals "Fault"=some (some (.ref CF))) (xCF:PySem.W.excIn K CF vErr "ValueError.__new__"=true)
    (aCE:PySem.W.nsIn K mainGlobals "MomentError"=some (some (.ref CE))) (xCE:PySem.W.excIn K CE vErr "ValueError.__new__"=true)
    (enn:PySem.W.exmOne K (.ref CN) (.ref CN)=some true)
    (egn:PySem.W.exmOne K (.ref CG) (.ref CN)=some false)
    (egg:PySem.W.exmOne K (.ref CG) (.ref CG)=some true)
    (hcn:PySem.W.specialIn K (.builtin "object.__class__") "__get__"=some (some (.builtin "getset_descriptor.__get__")))
    (hck:PySem.W.takesIn K (.builtin "object.__class__")=some true)
    (kss:PySem.W.kitOne K (.type "str") (.type "str")=some true)
    (kts:PySem.W.kitOne K (.type "tuple") (.type "str")=some false)
    (ktt:PySem.W.kitOne K (.type "tuple") (.type "tuple")=some true)
    (xfCN:PySem.W.exmOne K (.ref CN) (.ref CF)=some true)
    (keCN:PySem.W.kitOne K (.ref CN) (.ref CE)=some true)
    (kvCN:PySem.W.kitOne K (.ref CN) (.type "ValueError")=some true)
    (kkCNCN:PySem.W.kitOne K (.ref CN) (.ref CN)=some true)
    (kkCNCG:PySem.W.kitOne K (.ref CN) (.ref CG)=some false)
    (kkCNCU:PySem.W.kitOne K (.ref CN) (.ref CU)=some false)
    (kkCNCY:PySem.W.kitOne K (.ref CN) (.ref CY)=some false)
    (kkCNCP:PySem.W.kitOne K (.ref CN) (.ref CP)=some false)
    (kkCNCL:PySem.W.kitOne K (.ref CN) (.ref CL)=some false)
    (gaCN:PySem.W.findIn K (.ref CN) "__getattribute__"=some (some (.builtin "BaseException.__getattribute__")))
    (ghCN:PySem.W.findIn K (.ref CN) "__getattr__"=some none)
    (gcCN:PySem.W.findIn K (.ref CN) "__class__"=some (some (.builtin "object.__class__")))
    (obCN:PySem.W.mroIn K CN (.type "object")=some true)
    (beCN:PySem.W.mroIn K CN (.type "BaseException")=some true)
    (a100:PySem.W.findIn K (.ref CN) "word"=some (some (.ref f100)))
    (i100:PySem.W.isFn K (.ref f100)=true)
    (l100:K.lookup f100=some ⟨oc100,od100,.func (PySem.W.fnOf "word" "Nought.word" (defArgs s_Nought_word) (defBody s_Nought_word) (defScope s_Nought_word) .none kV100 dc100 pm100 an100 cd100 ct100),sl100⟩)
    (c100:PySem.W.codeIn K cd100 "Nought.word"=true)
    (k100:PySem.W.keepIn K (.ref f100)=true)
    (xfCG:PySem.W.exmOne K (.ref CG) (.ref CF)=some true)
    (keCG:PySem.W.kitOne K (.ref CG) (.ref CE)=some true)
    (kvCG:PySem.W.kitOne K (.ref CG) (.type "ValueError")=some true)
    (kkCGCN:PySem.W.kitOne K (.ref CG) (.ref CN)=some false)
    (kkCGCG:PySem.W.kitOne K (.ref CG) (.ref CG)=some true)
    (kkCGCU:PySem.W.kitOne K (.ref CG) (.ref CU)=some false)
    (kkCGCY:PySem.W.kitOne K (.ref CG) (.ref CY)=some false)
    (kkCGCP:PySem.W.kitOne K (.ref CG) (.ref CP)=some false)
    (kkCGCL:PySem.W.kitOne K (.ref CG) (.ref CL)=some false)
    (gaCG:PySem.W.findIn K (.ref CG) "__getattribute__"=some (some (.builtin "BaseException.__getattribute__")))
    (ghCG:PySem.W.findIn K (.ref CG) "__getattr__"=some none)
    (gcCG:PySem.W.findIn K (.ref CG) "__class__"=some (some (.builtin "object.__class__")))
    (obCG:PySem.W.mroIn K CG (.type "object")=some true)
    (beCG:PySem.W.mroIn K CG (.type "BaseException")=some true)
    (a101:PySem.W.findIn K (.ref CG) "word"=some (some (.ref f101)))
    (i101:PySem.W.isFn K (.ref f101)=true)
    (l101:K.lookup f101=some ⟨oc101,od101,.func (PySem.W.fnOf "word" "Great.word" (defArgs s_Great_word) (defBody s_Great_word) (defScope s_Great_word) .none kV101 dc101 pm101 an101 cd101 ct101),sl101⟩)
    (c101:PySem.W.codeIn K cd101 "Great.word"=true)
    (k101:PySem.W.keepIn K (.ref f101)=true)
    (xfCU:PySem.W.exmOne K (.ref CU) (.ref CF)=some true)
    (keCU:PySem.W.kitOne K (.ref CU) (.ref CE)=some true)
    (kvCU:PySem.W.kitOne K (.ref CU) (.type "ValueError")=some true)
    (kkCUCN:PySem.W.kitOne K (.ref CU) (.ref CN)=some false)
    (kkCUCG:PySem.W.kitOne K (.ref CU) (.ref CG)=some false)
    (kkCUCU:PySem.W.kitOne K (.ref CU) (.ref CU)=some true)
    (kkCUCY:PySem.W.kitOne K (.ref CU) (.ref CY)=some false)
    (kkCUCP:PySem.W.kitOne K (.ref CU) (.ref CP)=some false)
    (kkCUCL:PySem.W.kitOne K (.ref CU) (.ref CL)=some false)
    (gaCU:PySem.W.findIn K (.ref CU) "__getattribute__"=some (some (.builtin "BaseException.__getattribute__")))
    (ghCU:PySem.W.findIn K (.ref CU) "__getattr__"=some none)
    (gcCU:PySem.W.findIn K (.ref CU) "__class__"=some (some (.builtin "object.__class__")))
    (obCU:PySem.W.mroIn K CU (.type "object")=some true)
    (beCU:PySem.W.mroIn K CU (.type "BaseException")=some true)
    (a102:PySem.W.findIn K (.ref CU) "word"=some (some (.ref f102)))
    (i102:PySem.W.isFn K (.ref f102)=true)
    (l102:K.lookup f102=some ⟨oc102,od102,.func (PySem.W.fnOf "word" "Full.word" (defArgs s_Full_word) (defBody s_Full_word) (defScope s_Full_word) .none kV102 dc102 pm102 an102 cd102 ct102),sl102⟩)
    (c102:PySem.W.codeIn K cd102 "Full.word"=true)
    (k102:PySem.W.keepIn K (.ref f102)=true)
    (xfCY:PySem.W.exmOne K (.ref CY) (.ref CF)=some true)
    (keCY:PySem.W.kitOne K (.ref CY) (.ref CE)=some true)
    (kvCY:PySem.W.kitOne K (.ref CY) (.type "ValueError")=some true)
    (kkCYCN:PySem.W.kitOne K (.ref CY) (.ref CN)=some false)
    (kkCYCG:PySem.W.kitOne K (.ref CY) (.ref CG)=some false)
    (kkCYCU:PySem.W.kitOne K (.ref CY) (.ref CU)=some false)
    (kkCYCY:PySem.W.kitOne K (.ref CY) (.ref CY)=some true)
    (kkCYCP:PySem.W.kitOne K (.ref CY) (.ref CP)=some false)
    (kkCYCL:PySem.W.kitOne K (.ref CY) (.ref CL)=some false)
    (gaCY:PySem.W.findIn K (.ref CY) "__getattribute__"=some (some (.builtin "BaseException.__getattribute__")))
    (ghCY:PySem.W.findIn K (.ref CY) "__getattr__"=some none)
    (gcCY:PySem.W.findIn K (.ref CY) "__class__"=some (some (.builtin "object.__class__")))
    (obCY:PySem.W.mroIn K CY (.type "object")=some true)
    (beCY:PySem.W.mroIn K CY (.type "BaseException")=some true)
    (a103:PySem.W.findIn K (.ref CY) "word"=some (some (.ref f103)))
    (i103:PySem.W.isFn K (.ref f103)=true)
    (l103:K.lookup f103=some ⟨oc103,od103,.func (PySem.W.fnOf "word" "Dry.word" (defArgs s_Dry_word) (defBody s_Dry_word) (defScope s_Dry_word) .none kV103 dc103 pm103 an103 cd103 ct103),sl103⟩)
    (c103:PySem.W.codeIn K cd103 "Dry.word"=true)
    (k103:PySem.W.keepIn K (.ref f103)=true)
    (xfCP:PySem.W.exmOne K (.ref CP) (.ref CF)=some true)
    (keCP:PySem.W.kitOne K (.ref CP) (.ref CE)=some true)
    (kvCP:PySem.W.kitOne K (.ref CP) (.type "ValueError")=some true)
    (kkCPCN:PySem.W.kitOne K (.ref CP) (.ref CN)=some false)
    (kkCPCG:PySem.W.kitOne K (.ref CP) (.ref CG)=some false)
    (kkCPCU:PySem.W.kitOne K (.ref CP) (.ref CU)=some false)
    (kkCPCY:PySem.W.kitOne K (.ref CP) (.ref CY)=some false)
    (kkCPCP:PySem.W.kitOne K (.ref CP) (.ref CP)=some true)
    (kkCPCL:PySem.W.kitOne K (.ref CP) (.ref CL)=some false)
    (gaCP:PySem.W.findIn K (.ref CP) "__getattribute__"=some (some (.builtin "BaseException.__getattribute__")))
    (ghCP:PySem.W.findIn K (.ref CP) "__getattr__"=some none)
    (gcCP:PySem.W.findIn K (.ref CP) "__class__"=some (some (.builtin "object.__class__")))
    (obCP:PySem.W.mroIn K CP (.type "object")=some true)
    (beCP:PySem.W.mroIn K CP (.type "BaseException")=some true)
    (a104:PySem.W.findIn K (.ref CP) "word"=some (some (.ref f104)))
    (i104:PySem.W.isFn K (.ref f104)=true)
    (l104:K.lookup f104=some ⟨oc104,od104,.func (PySem.W.fnOf "word" "Span.word" (defArgs s_Span_word) (defBody s_Span_word) (defScope s_Span_word) .none kV104 dc104 pm104 an104 cd104 ct104),sl104⟩)
    (c104:PySem.W.codeIn K cd104 "Span.word"=true)
    (k104:PySem.W.keepIn K (.ref f104)=true)
    (xfCL:PySem.W.exmOne K (.ref CL) (.ref CF)=some true)
    (keCL:PySem.W.kitOne K (.ref CL) (.ref CE)=some true)
    (kvCL:PySem.W.kitOne K (.ref CL) (.type "ValueError")=some true)
    (kkCLCN:PySem.W.kitOne K (.ref CL) (.ref CN)=some false)
    (kkCLCG:PySem.W.kitOne K (.ref CL) (.ref CG)=some false)
    (kkCLCU:PySem.W.kitOne K (.ref CL) (.ref CU)=some false)
    (kkCLCY:PySem.W.kitOne K (.ref CL) (.ref CY)=some false)
    (kkCLCP:PySem.W.kitOne K (.ref CL) (.ref CP)=some false)
    (kkCLCL:PySem.W.kitOne K (.ref CL) (.ref CL)=some true)
    (gaCL:PySem.W.findIn K (.ref CL) "__getattribute__"=some (some (.builtin "BaseException.__getattribute__")))
    (ghCL:PySem.W.findIn K (.ref CL) "__getattr__"=some none)
    (gcCL:PySem.W.findIn K (.ref CL) "__class__"=some (some (.builtin "object.__class__")))
    (obCL:PySem.W.mroIn K CL (.type "object")=some true)
    (beCL:PySem.W.mroIn K CL (.type "BaseException")=some true)
    (a105:PySem.W.findIn K (.ref CL) "word"=some (some (.ref f105)))
    (i105:PySem.W.isFn K (.ref f105)=true)
    (l105:K.lookup f105=some ⟨oc105,od105,.func (PySem.W.fnOf "word" "Late.word" (defArgs s_Late_word) (defBody s_Late_word) (defScope s_Late_word) .none kV105 dc105 pm105 an105 cd105 ct105),sl105⟩)
    (c105:PySem.W.codeIn K cd105 "Late.word"=true)
    (k105:PySem.W.keepIn K (.ref f105)=true)
    (zlen:PySem.W.nsIn K mainGlobals "len"=some none)
    (zabs:PySem.W.nsIn K mainGlobals "abs"=some none)
    (zisinstance:PySem.W.nsIn K mainGlobals "isinstance"=some none)
    (zlist:PySem.W.nsIn K mainGlobals "list"=some none)
    (ztuple:PySem.W.nsIn K mainGlobals "tuple"=some none)
    (zstr:PySem.W.nsIn K mainGlobals "str"=some none)
    (zint:PySem.W.nsIn K mainGlobals "int"=some none)
    (zbool:PySem.W.nsIn K mainGlobals "bool"=some none)
    (zrange:PySem.W.nsIn K mainGlobals "range"=some none)
    (zmax:PySem.W.nsIn K mainGlobals "max"=some none)
    (zdict:PySem.W.nsIn K mainGlobals "dict"=some none)
    (zValueError:PySem.W.nsIn K mainGlobals "ValueError"=some none) :
    ∃ fd:FuncData,(∀ (s:Shared) (v:Value),BindsTo s fd ⟨[v],[]⟩ [("_law_script",v)])∧∀ base:Heap,K.In base→base.Ns mainGlobals mg→FnOk l.prog w K mg base CX0 33 fa fd ["_law_script"] (spLaw K):=by
  have e:=hfa.symm.trans (PySem.W.mg_of X G a29)
  cases e
  have D1:=df_mk (ps:=["formula","state","now","got"]) X G a1 l1 c1 k1 fun _ _ _ _ _ _ us hl=>by obtain ⟨a,b,c,d,rfl⟩:=my_len4 hl; rfl
  have D2:=df_mk (ps:=["formula","state","now","got"]) X G a2 l2 c2 k2 fun _ _ _ _ _ _ us hl=>by obtain ⟨a,b,c,d,rfl⟩:=my_len4 hl; rfl
  have D3:=df_mk (ps:=["kind","first","second"]) X G a3 l3 c3 k3 fun _ _ _ _ _ _ us hl=>by obtain ⟨a,b,c,rfl⟩:=my_len3 hl; rfl
  have D4:=df_mk (ps:=["kind","first","second"]) X G a4 l4 c4 k4 fun _ _ _ _ _ _ us hl=>by obtain ⟨a,b,c,rfl⟩:=my_len3 hl; rfl
  have D5:=df_mk (ps:=["model","state","happening"]) X G a5 l5 c5 k5 fun _ _ _ _ _ _ us hl=>by obtain ⟨a,b,c,rfl⟩:=my_len3 hl; rfl
  have D6:=df_mk (ps:=["model","state","happening"]) X G a6 l6 c6 k6 fun _ _ _ _ _ _ us hl=>by obtain ⟨a,b,c,rfl⟩:=my_len3 hl; rfl
  have D7:=df_mk (ps:=["machine","sign"]) X G a7 l7 c7 k7 fun _ _ _ _ _ _ us hl=>by obtain ⟨a,b,rfl⟩:=my_len2 hl; rfl
  have D8:=df_mk (ps:=["doing"]) X G a8 l8 c8 k8 fun _ _ _ _ _ _ us hl=>by obtain ⟨a,rfl⟩:=my_len1 hl; rfl
  have D9:=df_mk (ps:=["doing","deeds"]) X G a9 l9 c9 k9 fun _ _ _ _ _ _ us hl=>by obtain ⟨a,b,rfl⟩:=my_len2 hl; rfl
  have D10:=df_mk (ps:=["doing","deed"]) X G a10 l10 c10 k10 fun _ _ _ _ _ _ us hl=>by obtain ⟨a,b,rfl⟩:=my_len2 hl; rfl
  have D11:=df_mk (ps:=["doing","name","formula"]) X G a11 l11 c11 k11 fun _ _ _ _ _ _ us hl=>by obtain ⟨a,b,c,rfl⟩:=my_len3 hl; rfl
  have D12:=df_mk (ps:=["doing","name","box","otherwise"]) X G a12 l12 c12 k12 fun _ _ _ _ _ _ us hl=>by obtain ⟨a,b,c,d,rfl⟩:=my_len4 hl; rfl
  have D13:=df_mk (ps:=["doing","box","formula"]) X G a13 l13 c13 k13 fun _ _ _ _ _ _ us hl=>by obtain ⟨a,b,c,rfl⟩:=my_len3 hl; rfl
  have D14:=df_mk (ps:=["doing","deed"]) X G a14 l14 c14 k14 fun _ _ _ _ _ _ us hl=>by obtain ⟨a,b,rfl⟩:=my_len2 hl; rfl
  have D15:=df_mk (ps:=["thing"]) X G a15 l15 c15 k15 fun _ _ _ _ _ _ us hl=>by obtain ⟨a,rfl⟩:=my_len1 hl; rfl
  have D16:=df_mk (ps:=["_law_cell","_law_k"]) X G a16 l16 c16 k16 fun _ _ _ _ _ _ us hl=>by obtain ⟨a,b,rfl⟩:=my_len2 hl; rfl
  have D17:=df_mk (ps:=["_law_script"]) X G a17 l17 c17 k17 fun _ _ _ _ _ _ us hl=>by obtain ⟨a,rfl⟩:=my_len1 hl; rfl
  have D18:=df_mk (ps:=["_law_purse_here","_law_out_of"]) X G a18 l18 c18 k18 fun _ _ _ _ _ _ us hl=>by obtain ⟨a,b,rfl⟩:=my_len2 hl; rfl
  have D19:=df_mk (ps:=["_law_word","_law_one","_law_other"]) X G a19 l19 c19 k19 fun _ _ _ _ _ _ us hl=>by obtain ⟨a,b,c,rfl⟩:=my_len3 hl; rfl
  have D20:=df_mk (ps:=["_law_formula","_law_state","_law_now","_law_got"]) X G a20 l20 c20 k20 fun _ _ _ _ _ _ us hl=>by obtain ⟨a,b,c,d,rfl⟩:=my_len4 hl; rfl
  have D21:=df_mk (ps:=["_law_deed","_law_state","_law_key","_law_at","_law_got","_law_news"]) X G a21 l21 c21 k21 fun _ _ _ _ _ _ us hl=>by obtain ⟨a,b,c,d,e,f,rfl⟩:=my_len6 hl; rfl
  have D22:=df_mk (ps:=["_law_deed","_law_state","_law_number","_law_draws"]) X G a22 l22 c22 k22 fun _ _ _ _ _ _ us hl=>by obtain ⟨a,b,c,d,rfl⟩:=my_len4 hl; rfl
  have D23:=df_mk (ps:=["_law_deed","_law_state","_law_key","_law_at","_law_got","_law_draws","_law_touched","_law_news","_law_work"]) X G a23 l23 c23 k23 fun _ _ _ _ _ _ us hl=>by obtain ⟨a,b,c,d,e,f,g,h,i,rfl⟩:=my_len9 hl; rfl
  have D24:=df_mk (ps:=["_law_state"]) X G a24 l24 c24 k24 fun _ _ _ _ _ _ us hl=>by obtain ⟨a,rfl⟩:=my_len1 hl; rfl
  have D25:=df_mk (ps:=["_law_machines","_law_state","_law_happening"]) X G a25 l25 c25 k25 fun _ _ _ _ _ _ us hl=>by obtain ⟨a,b,c,rfl⟩:=my_len3 hl; rfl
  have D26:=df_mk (ps:=["_law_purse_here"]) X G a26 l26 c26 k26 fun _ _ _ _ _ _ us hl=>by obtain ⟨a,rfl⟩:=my_len1 hl; rfl
  have D27:=df_mk (ps:=["_law_purse_here","_law_deep"]) X G a27 l27 c27 k27 fun _ _ _ _ _ _ us hl=>by obtain ⟨a,b,rfl⟩:=my_len2 hl; rfl
  have D28:=df_mk (ps:=["_law_fault"]) X G a28 l28 c28 k28 fun _ _ _ _ _ _ us hl=>by obtain ⟨a,rfl⟩:=my_len1 hl; rfl
  have D29:=df_mk (ps:=["_law_script"]) X G a29 l29 c29 k29 fun _ _ _ _ _ _ us hl=>by obtain ⟨a,rfl⟩:=my_len1 hl; rfl
  have FMI:=fun_mk (x:="__init__") (qual:="Model.__init__") (st:=s_Model_init) l30 c30 k30
  have bMI:=FMI.binds (ps:=["self","machines"]) fun _ _ _ _ _ _ us hl=>by obtain ⟨a,b,rfl⟩:=my_len2 hl; rfl
  have mMI:Meth K CM "__init__" f30:=⟨a30,i30,k30⟩
  have MCM:Mk K CM f30:=⟨mkCM,a30,i30,kcCM⟩
  have FSI:=fun_mk (x:="__init__") (qual:="State.__init__") (st:=s_State_init) l31 c31 k31
  have bSI:=FSI.binds (ps:=["self","boxes","queues","drawn","sent"]) fun _ _ _ _ _ _ us hl=>by obtain ⟨a,b,c,d,e,rfl⟩:=my_len5 hl; rfl
  have mSI:Meth K CS "__init__" f31:=⟨a31,i31,k31⟩
  have FSC:=fun_mk (x:="copy") (qual:="State.copy") (st:=s_State_copy) l32 c32 k32
  have bSC:=FSC.binds (ps:=["self"]) fun _ _ _ _ _ _ us hl=>by obtain ⟨a,rfl⟩:=my_len1 hl; rfl
  have mSC:Meth K CS "copy" f32:=⟨a32,i32,k32⟩
  have MCS:Mk K CS f31:=⟨mkCS,a31,i31,kcCS⟩
  have FDI:=fun_mk (x:="__init__") (qual:="Doing.__init__") (st:=s_Doing_init) l33 c33 k33
  have bDI:=FDI.binds (ps:=["self","machine","state","happening"]) fun _ _ _ _ _ _ us hl=>by obtain ⟨a,b,c,d,rfl⟩:=my_len4 hl; rfl
  have mDI:Meth K CD "__init__" f33:=⟨a33,i33,k33⟩
  have FDN:=fun_mk (x:="now") (qual:="Doing.now") (st:=s_Doing_now) l34 c34 k34
  have bDN:=FDN.binds (ps:=["self"]) fun _ _ _ _ _ _ us hl=>by obtain ⟨a,rfl⟩:=my_len1 hl; rfl
  have mDN:Meth K CD "now" f34:=⟨a34,i34,k34⟩
  have FDR:=fun_mk (x:="reckon") (qual:="Doing.reckon") (st:=s_Doing_reckon) l35 c35 k35
  have bDR:=FDR.binds (ps:=["self","formula"]) fun _ _ _ _ _ _ us hl=>by obtain ⟨a,b,rfl⟩:=my_len2 hl; rfl
  have mDR:Meth K CD "reckon" f35:=⟨a35,i35,k35⟩
  have FDQ:=fun_mk (x:="queue_of") (qual:="Doing.queue_of") (st:=s_Doing_queue_of) l36 c36 k36
  have bDQ:=FDQ.binds (ps:=["self","name"]) fun _ _ _ _ _ _ us hl=>by obtain ⟨a,b,rfl⟩:=my_len2 hl; rfl
  have mDQ:Meth K CD "queue_of" f36:=⟨a36,i36,k36⟩
  have FDF:=fun_mk (x:="fill") (qual:="Doing.fill") (st:=s_Doing_fill) l37 c37 k37
  have bDF:=FDF.binds (ps:=["self","box","worth"]) fun _ _ _ _ _ _ us hl=>by obtain ⟨a,b,c,rfl⟩:=my_len3 hl; rfl
  have mDF:Meth K CD "fill" f37:=⟨a37,i37,k37⟩
  have MCD:Mk K CD f33:=⟨mkCD,a33,i33,kcCD⟩
  have B:Bl mg:=⟨PySem.W.mg_none_of X G zlen,PySem.W.mg_none_of X G zabs,PySem.W.mg_none_of X G zisinstance,PySem.W.mg_none_of X G zlist,PySem.W.mg_none_of X G ztuple,PySem.W.mg_none_of X G zstr,PySem.W.mg_none_of X G zint,PySem.W.mg_none_of X G zbool,PySem.W.mg_none_of X G zrange,PySem.W.mg_none_of X G zmax,PySem.W.mg_none_of X G zdict⟩
  have TM:MdT K mg CM CS:=⟨⟨pgCM,hdCM,poCM,saCM⟩,⟨pgCS,hdCS,poCS,saCS⟩,nCMmachines,nCSboxes,nCSqueues,nCSdrawn,nCSsent,PySem.W.mg_of X G aCM,PySem.W.mg_of X G aCS⟩
  have TD:DT K mg CD:=⟨⟨pgCD,hdCD,poCD,saCD⟩,nCDmachine,nCDhappening,nCDstate,nCDwritten,nCDoutgoing,nCDends,nCDreckoned,nCDqueued,PySem.W.mg_of X G aCD⟩
  have T6:Fts6 K mg (cfOf CN CG CU CY CP CL):=⟨⟨PySem.W.mg_of X G aCN,PySem.W.mg_of X G aCG,xCN,xCG,enn,egn,egg⟩,PySem.W.mg_of X G aCU,PySem.W.mg_of X G aCY,PySem.W.mg_of X G aCP,PySem.W.mg_of X G aCL,xCU,xCY,xCP,xCL⟩
  have MtN:Mt K CD "now" "Doing.now" s_Doing_now ["self"] _ _:=⟨FDN,bDN,mDN⟩
  have MtR:Mt K CD "reckon" "Doing.reckon" s_Doing_reckon ["self","formula"] _ _:=⟨FDR,bDR,mDR⟩
  have MtQ:Mt K CD "queue_of" "Doing.queue_of" s_Doing_queue_of ["self","name"] _ _:=⟨FDQ,bDQ,mDQ⟩
  have MtF:Mt K CD "fill" "Doing.fill" s_Doing_fill ["self","box","worth"] _ _:=⟨FDF,bDF,mDF⟩
  have MtC:Mt K CS "copy" "State.copy" s_State_copy ["self"] _ _:=⟨FSC,bSC,mSC⟩
  have XN100:XCls K CN:=⟨gaCN,ghCN,gcCN,hcn,hck,obCN,beCN⟩
  have FW100:=fun_mk (x:="word") (qual:="Nought.word") (st:=s_Nought_word) l100 c100 k100
  have bW100:=FW100.binds (ps:=["self"]) fun _ _ _ _ _ _ us hl=>by obtain ⟨a,rfl⟩:=my_len1 hl; rfl
  have mW100:Meth K CN "word" f100:=⟨a100,i100,k100⟩
  have XN101:XCls K CG:=⟨gaCG,ghCG,gcCG,hcn,hck,obCG,beCG⟩
  have FW101:=fun_mk (x:="word") (qual:="Great.word") (st:=s_Great_word) l101 c101 k101
  have bW101:=FW101.binds (ps:=["self"]) fun _ _ _ _ _ _ us hl=>by obtain ⟨a,rfl⟩:=my_len1 hl; rfl
  have mW101:Meth K CG "word" f101:=⟨a101,i101,k101⟩
  have XN102:XCls K CU:=⟨gaCU,ghCU,gcCU,hcn,hck,obCU,beCU⟩
  have FW102:=fun_mk (x:="word") (qual:="Full.word") (st:=s_Full_word) l102 c102 k102
  have bW102:=FW102.binds (ps:=["self"]) fun _ _ _ _ _ _ us hl=>by obtain ⟨a,rfl⟩:=my_len1 hl; rfl
  have mW102:Meth K CU "word" f102:=⟨a102,i102,k102⟩
  have XN103:XCls K CY:=⟨gaCY,ghCY,gcCY,hcn,hck,obCY,beCY⟩
  have FW103:=fun_mk (x:="word") (qual:="Dry.word") (st:=s_Dry_word) l103 c103 k103
  have bW103:=FW103.binds (ps:=["self"]) fun _ _ _ _ _ _ us hl=>by obtain ⟨a,rfl⟩:=my_len1 hl; rfl
  have mW103:Meth K CY "word" f103:=⟨a103,i103,k103⟩
  have XN104:XCls K CP:=⟨gaCP,ghCP,gcCP,hcn,hck,obCP,beCP⟩
  have FW104:=fun_mk (x:="word") (qual:="Span.word") (st:=s_Span_word) l104 c104 k104
  have bW104:=FW104.binds (ps:=["self"]) fun _ _ _ _ _ _ us hl=>by obtain ⟨a,rfl⟩:=my_len1 hl; rfl
  have mW104:Meth K CP "word" f104:=⟨a104,i104,k104⟩
  have XN105:XCls K CL:=⟨gaCL,ghCL,gcCL,hcn,hck,obCL,beCL⟩
  have FW105:=fun_mk (x:="word") (qual:="Late.word") (st:=s_Late_word) l105 c105 k105
  have bW105:=FW105.binds (ps:=["self"]) fun _ _ _ _ _ _ us hl=>by obtain ⟨a,rfl⟩:=my_len1 hl; rfl
  have mW105:Meth K CL "word" f105:=⟨a105,i105,k105⟩
  have mFa:mg "Fault"=some (.ref CF):=PySem.W.mg_of X G aCF
  have MW:∀ e,Meth K ((cfOf CN CG CU CY CP CL) e) "word" ((fltOf f100 f101 f102 f103 f104 f105) e):=fun e=>by cases e <;> assumption
  have XNs:∀ e,XCls K ((cfOf CN CG CU CY CP CL) e):=fun e=>by cases e <;> assumption
  have XFs:∀ e,PySem.W.exmOne K (.ref ((cfOf CN CG CU CY CP CL) e)) (.ref CF)=some true:=fun e=>by cases e <;> assumption
  have BW:∀ e,Binds K (fltOf _ _ _ _ _ _ e) ["self"] []:=flt_all bW100 bW101 bW102 bW103 bW104 bW105
  have X6:Cls6 K mg (cfOf CN CG CU CY CP CL) CE:=⟨⟨PySem.W.mg_of X G aCN,PySem.W.mg_of X G aCG,PySem.W.mg_of X G aCU,PySem.W.mg_of X G aCY,PySem.W.mg_of X G aCP,PySem.W.mg_of X G aCL⟩,PySem.W.mg_of X G aCE,PySem.W.mg_none_of X G zValueError,XNs,fun e e2=>by cases e <;> cases e2 <;> assumption,fun e=>by cases e <;> assumption,fun e=>by cases e <;> assumption⟩
  exact ⟨_,fun s v=>.of_eq rfl,fun base _ _=>ok_law D29 D17 D16 D18 D27 D26 D25 (ok_ld D25 D23 (ok_od D23 D21 D22 D20 D19 B) D24 B) D28 (ok_clAll (fW:=(fltOf f100 f101 f102 f103 f104 f105)) (fdW:=(fltOf _ _ _ _ _ _)) D28 B X6 MW BW (flt_all (ok_vNought FW100) (ok_vGreat FW101) (ok_vFull FW102) (ok_vDry FW103) (ok_vSpan FW104) (ok_vLate FW105))) MCM bMI (ok_MI (n:=29) FMI D15 B TM) MCS bSI (ok_SI FSI TM) D5 (ok_done (n:=3) D5 D6 MCD bDI (ok_DI FDI MtC (ok_copy FSC MCS FSI bSI B TM) TD TM) D9 (ok_deeds D9 D10 MtF MtR (ok_reck (cf:=(cfOf CN CG CU CY CP CL)) MtR MtN D1 D3 D4 D2 TD T6 TM B) D12 D11 (ok_push D11 MtR (ok_reck (cf:=(cfOf CN CG CU CY CP CL)) MtR MtN D1 D3 D4 D2 TD T6 TM B) MtQ TD T6 TM B) D13 (ok_ddraw D13 MtR (ok_reck (cf:=(cfOf CN CG CU CY CP CL)) MtR MtN D1 D3 D4 D2 TD T6 TM B) MtF TD T6 TM B) D14 (ok_send D14 MtR (ok_reck (cf:=(cfOf CN CG CU CY CP CL)) MtR MtN D1 D3 D4 D2 TD T6 TM B) MtN TD T6 TM B) MtQ TD TM 3) D7 D8 TD TM B) mFa XFs kss kts ktt B TM⟩
theorem walk {l:PySem.W.OpenLaw} {q:Program} {loose:List Str} {XP:(Str→Option Value)→Heap→Prop} {YP:World→Heap→Prop} {d:DefRec} {K:Params→PySem.W.Frag} (hn:l.most=some 63) (hdf:d.params.defaults=[])
    (hY:∀ (w:World) (h:Heap),YP w h→(K w.params).In h)
    (F:∀ (w:World) (mg:Str→Option Value) (fa:Addr) (h:Heap),(K w.params).In h→h.Ns mainGlobals mg→mg d.name=some (.ref fa) →
      ∃ fd:FuncData,(∀ (s:Shared) (u:Value),BindsTo s fd ⟨[u],[]⟩ [("_law_script",u)])∧∀ base:Heap,(K w.params).In base→base.Ns mainGlobals mg→FnOk l.prog w (K w.params) mg base CX0 33 fa fd ["_law_script"] (spLaw (K w.params))) :
    PySem.W.WalkO q loose XP YP l.row.toRowW d [] (fun f vs=>PySem.call f vs):=
  L2.walk_ofB (n:=63) (k:=33) (x:="_law_script") (CX:=fun _=>CX0) (sp:=fun w=>spLaw (K w.params)) hn (by decide) hdf ⟨rfl,by decide,by decide⟩ hY F (fun _ _ a ns hl hb hS=>⟨a,ns,rfl,hS,hl,hb,fun _=>rfl⟩) fun _ _ _ _ _ z=>z
end My
def PySem.W.Fast.tw6234152794460473300:Nat:=0
def PySem.W.Fast.tw15953031342177040189:Nat:=0
def PySem.W.Fast.tw7532838867642497073:Nat:=0
def PySem.W.Fast.tw3641565916127691620:Nat:=0
def PySem.W.Fast.tw11153697437518248600:Nat:=0
def PySem.W.Fast.tw13507677130066279799:Nat:=0
def PySem.W.Fast.tw17637887717340722516:Nat:=0
def PySem.W.Fast.tw7945441681737114637:Nat:=0
def PySem.W.Fast.tw6518008629911956423:Nat:=0
def PySem.W.Fast.tw1199447466850210994:Nat:=0
def PySem.W.Fast.tw11287567569586085577:Nat:=0
def PySem.W.Fast.tw10446270525632782383:Nat:=0
def PySem.W.Fast.tw5472042033027706458:Nat:=0
def PySem.W.Fast.tw1061534564910654268:Nat:=0
def PySem.W.Fast.tw17801792919323502767:Nat:=0
def PySem.W.Fast.tw13582074986234235012:Nat:=0
def PySem.W.Fast.tw8486948850023834650:Nat:=0
def PySem.W.Fast.tw18096952421881197628:Nat:=0
def PySem.W.Fast.tw18258369215116955805:Nat:=0
def PySem.W.Fast.tw5084937136628174343:Nat:=0
def PySem.W.Fast.tw17171527518443243698:Nat:=0
def PySem.W.Fast.tw5177469540973998976:Nat:=0
def PySem.W.Fast.tw11448501987161658653:Nat:=0
def PySem.W.Fast.tw12937816617744349666:Nat:=0
def PySem.W.Fast.tw14598155611931177478:Nat:=0
def PySem.W.Fast.tw1921994917978648438:Nat:=0
def PySem.W.Fast.tw4114635144709776430:Nat:=0
def PySem.W.Fast.tw4638188543249904007:Nat:=0
def PySem.W.Fast.tw714248749403042137:Nat:=0
def PySem.W.Fast.tw13327787138458272220:Nat:=0
def PySem.W.Fast.tw13402282183107601:Nat:=0
def PySem.W.Fast.tw221411198734936510:Nat:=0
def PySem.W.Fast.tw3051092932017347439:Nat:=0
def PySem.W.Fast.tw15155845623148240525:Nat:=0
def PySem.W.Fast.tw7376172919027918120:Nat:=0
def PySem.W.Fast.tw7227846793422575608:Nat:=0
def PySem.W.Fast.tw7446350406892266130:Nat:=0
def PySem.W.Fast.tw3566827681445860825:Nat:=0
def PySem.W.Fast.tw11104750219915002778:Nat:=0
def PySem.W.Fast.tw8722491471708885411:Nat:=0
def PySem.W.Fast.tw5528508300352375165:Nat:=0
def PySem.W.Fast.tw10777753999097706011:Nat:=0
def PySem.W.Fast.tw14249533168354653889:Nat:=0
def PySem.W.Fast.tw5370841646457791270:Nat:=0
def PySem.W.Fast.tw4893453343398703601:Nat:=0
def PySem.W.Fast.tw16419233289601690572:Nat:=0
def PySem.W.Fast.tw8795039665385240672:Nat:=0
def PySem.W.Fast.tw16463255228911445923:Nat:=0
def PySem.W.Fast.tw4445401241150128824:Nat:=0
def PySem.W.Fast.tw16412160797822423625:Nat:=0
def PySem.W.Fast.tw13184474628358117313:Nat:=0
def PySem.W.Fast.tw3651806037618194374:Nat:=0
def PySem.W.Fast.tw11709348914104557710:Nat:=0
def PySem.W.Fast.tw15256340251459155190:Nat:=0
def PySem.W.Fast.tw17873094553210819483:Nat:=0
def PySem.W.Fast.tw9222754162728859873:Nat:=0
def PySem.W.Fast.tw17103527523294677180:Nat:=0
def PySem.W.Fast.tw8175862700930935848:Nat:=0
def PySem.W.Fast.tw14109204113021755964:Nat:=0
def PySem.W.Fast.tw11372067377772889037:Nat:=0
def PySem.W.Fast.tw18437664267799112457:Nat:=0
def PySem.W.Fast.tw17910763178611230185:Nat:=0
def PySem.W.Fast.tw4477994507229778619:Nat:=0
def PySem.W.Fast.tw6063519077367433039:Nat:=0
def PySem.W.Fast.tw8266135193620529864:Nat:=0
def PySem.W.Fast.tw7752454396755567402:Nat:=0
def PySem.W.Fast.tw682723433290258583:Nat:=0
def PySem.W.Fast.tw8879267893397379298:Nat:=0
def PySem.W.Fast.tw3656504384372965840:Nat:=0
def PySem.W.Fast.tw1755347007215784718:Nat:=0
def PySem.W.Fast.tw14108880532811789477:Nat:=0
def PySem.W.Fast.tw4109282701297043231:Nat:=0
def PySem.W.Fast.tw1050844012263603403:Nat:=0
def PySem.W.Fast.tw4465195401448165683:Nat:=0
def PySem.W.Fast.tw136033635266758624:Nat:=0
def PySem.W.Fast.tw6016148473472974263:Nat:=0
def PySem.W.Fast.tw9710975867007947784:Nat:=0
def PySem.W.Fast.tw9617723230963057929:Nat:=0
def PySem.W.Fast.tw9393489978910530472:Nat:=0
def PySem.W.Fast.tw4662285113933969724:Nat:=0
def PySem.W.Fast.tw10317145075556698521:Nat:=0
def PySem.W.Fast.tw3406379800068297928:Nat:=0
def PySem.W.Fast.tw10750744992409200559:Nat:=0
def PySem.W.Fast.tw9812281116051575625:Nat:=0
def PySem.W.Fast.tw12562947090205997905:Nat:=0
def PySem.W.Fast.tw9390556250939845753:Nat:=0
def PySem.W.Fast.tw13430206802462884662:Nat:=0
def PySem.W.Fast.tw13922157965491764930:Nat:=0
def PySem.W.Fast.tw15344455389414484394:Nat:=0
def PySem.W.Fast.tw8346926430392752643:Nat:=0
def PySem.W.Fast.tw16793765066631630237:Nat:=0
def PySem.W.Fast.tw6778065049169315937:Nat:=0
def PySem.W.Fast.tw10658384554325593188:Nat:=0
def PySem.W.Fast.tw11923040067231285019:Nat:=0
def PySem.W.Fast.tw16314638653521596468:Nat:=0
def PySem.W.Fast.tw9555660987035397431:Nat:=0
def PySem.W.Fast.tw6506470535936736444:Nat:=0
def PySem.W.Fast.tw2176804813319885571:Nat:=0
def PySem.W.Fast.tw1033112561613286140:Nat:=0
def PySem.W.Fast.tw18391565758093331787:Nat:=0
def PySem.W.Fast.tw959038953899403775:Nat:=0
def PySem.W.Fast.tw606129728906282347:Nat:=0
def PySem.W.Fast.tw20279746175868009:Nat:=0
def PySem.W.Fast.tw1942518517306932185:Nat:=0
def PySem.W.Fast.tw352149229741263400:Nat:=0
def PySem.W.Fast.tw8481467390477377940:Nat:=0
def PySem.W.Fast.tw11516761966872035569:Nat:=0
def PySem.W.Fast.tw17074382154629384763:Nat:=0
def PySem.W.Fast.tw1394362914825572498:Nat:=0
def PySem.W.Fast.tw4192881068360408997:Nat:=0
def PySem.W.Fast.tw1441052801781441541:Nat:=0
def PySem.W.Fast.tw11405438485240320463:Nat:=0
def PySem.W.Fast.tw15823696293701114565:Nat:=0
def PySem.W.Fast.tw10243267379761108138:Nat:=0
def PySem.W.Fast.tw13491096977670694653:Nat:=0
def PySem.W.Fast.tw63386398023893673:Nat:=0
def PySem.W.Fast.tw14519705801518028855:Nat:=0
def PySem.W.Fast.tw581963281414048316:Nat:=0
def PySem.W.Fast.tw4786046178487002524:Nat:=0
def PySem.W.Fast.tw5954889815003105699:Nat:=0
def PySem.W.Fast.tw12996186218568584081:Nat:=0
def PySem.W.Fast.tw2685632550903110228:Nat:=0
def PySem.W.Fast.tw9351015550803529296:Nat:=0
def PySem.W.Fast.tw10278315572929494573:Nat:=0
def PySem.W.Fast.tw8556062650622620119:Nat:=0
def PySem.W.Fast.tw4165016440198783684:Nat:=0
def PySem.W.Fast.tw3548655716630331435:Nat:=0
def PySem.W.Fast.tw15752106181864958400:Nat:=0
def PySem.W.Fast.tw5635495890513727761:Nat:=0
def PySem.W.Fast.tw3990196103251540406:Nat:=0
def PySem.W.Fast.tw3114517886809276027:Nat:=0
def PySem.W.Fast.tw4036853220816882351:Nat:=0
def PySem.W.Fast.tw793035565847667974:Nat:=0
def PySem.W.Fast.tw17518472296533276358:Nat:=0
def PySem.W.Fast.tw3715061271853733807:Nat:=0
def PySem.W.Fast.tw16881108874392302649:Nat:=0
def PySem.W.Fast.tw6119414761902788105:Nat:=0
def PySem.W.Fast.tw10742491526119069097:Nat:=0
def PySem.W.Fast.tw14314720748854452147:Nat:=0
def PySem.W.Fast.tw15494540709459354448:Nat:=0
def PySem.W.Fast.tw13406700063229053138:Nat:=0
def PySem.W.Fast.tw5459685353969090869:Nat:=0
def PySem.W.Fast.tw11901249733707894564:Nat:=0
def PySem.W.Fast.tw2722747964915160228:Nat:=0
def PySem.W.Fast.tw15064815354740965869:Nat:=0
def PySem.W.Fast.tw16921604190780672387:Nat:=0
def PySem.W.Fast.tw4653045664956185665:Nat:=0
def PySem.W.Fast.tw2092231871973616058:Nat:=0
def PySem.W.Fast.tw6883237785256307765:Nat:=0
def PySem.W.Fast.tw10949062528351177600:Nat:=0
def PySem.W.Fast.tw8149498235067242877:Nat:=0
def PySem.W.Fast.tw10630644223061086197:Nat:=0
def PySem.W.Fast.tw10057175817115831379:Nat:=0
def PySem.W.Fast.tw1441898039469090766:Nat:=0
def PySem.W.Fast.tw16784363385359269772:Nat:=0
def PySem.W.Fast.tw16002891982414066687:Nat:=0
def PySem.W.Fast.tw11028562732665335181:Nat:=0
def PySem.W.Fast.tw17896883166461604854:Nat:=0
def PySem.W.Fast.tw13051036513860032248:Nat:=0
def PySem.W.Fast.tw12508721215497823552:Nat:=0
def PySem.W.Fast.tw15795237072540967033:Nat:=0
def PySem.W.Fast.tw5845427306044026214:Nat:=0
def PySem.W.Fast.tw9941062695922192015:Nat:=0
def PySem.W.Fast.tw18401298023348639166:Nat:=0
def PySem.W.Fast.tw13754428307701610472:Nat:=0
def PySem.W.Fast.tw13285565004402134693:Nat:=0
def PySem.W.Fast.tw5990721860957066662:Nat:=0
def PySem.W.Fast.tw3707647962069103913:Nat:=0
def PySem.W.Fast.tw1334217774341632363:Nat:=0
def PySem.W.Fast.tw3524893072367945564:Nat:=0
def PySem.W.Fast.tw3260078564339878333:Nat:=0
def PySem.W.Fast.tw7489818622863432637:Nat:=0
def PySem.W.Fast.tw4440046446644007305:Nat:=0
def PySem.W.Fast.tw16284748028340239280:Nat:=0
def PySem.W.Fast.tw3762072122852097248:Nat:=0
def PySem.W.Fast.tw15012866729978869594:Nat:=0
def PySem.W.Fast.tw6795675591592587608:Nat:=0
def PySem.W.Fast.tw2698295679320237921:Nat:=0
def PySem.W.Fast.tw15072223734079518210:Nat:=0
def PySem.W.Fast.tw13202222095967099979:Nat:=0
def PySem.W.Fast.tw4575319384070955840:Nat:=0
def PySem.W.Fast.tw12744110571251245820:Nat:=0
def PySem.W.Fast.tw13459552524309440226:Nat:=0
def PySem.W.Fast.tw2707915808789014285:Nat:=0
def PySem.W.Fast.tw11547994283951378832:Nat:=0
def PySem.W.Fast.tw2542166946847078950:Nat:=0
def PySem.W.Fast.tw3898456258626586170:Nat:=0
def PySem.W.Fast.tw696509948759434067:Nat:=0
def PySem.W.Fast.tw1795590321380020219:Nat:=0
def PySem.W.Fast.tw16536027688008671035:Nat:=0
def PySem.W.Fast.tw16937333935376640006:Nat:=0
def PySem.W.Fast.tw7446432486882613318:Nat:=0
def PySem.W.Fast.tw195893749525153245:Nat:=0
def PySem.W.Fast.tw18296229380927948726:Nat:=0
def PySem.W.Fast.tw9230337984312386906:Nat:=0
def PySem.W.Fast.tw15238821267587254701:Nat:=0
def PySem.W.Fast.tw16819895175530084753:Nat:=0
def PySem.W.Fast.tw17908225027796481214:Nat:=0
def PySem.W.Fast.tw746351205866618371:Nat:=0
def PySem.W.Fast.tw7368243019084272305:Nat:=0
def PySem.W.Fast.tw11277342970784196381:Nat:=0
def PySem.W.Fast.tw8581143820688455348:Nat:=0
def PySem.W.Fast.tw12468098395216149641:Nat:=0
def PySem.W.Fast.tw17494389461100787117:Nat:=0
def PySem.W.Fast.tw12536026461446637659:Nat:=0
def PySem.W.Fast.tw8197729900143128512:Nat:=0
def PySem.W.Fast.tw4038396715766674252:Nat:=0
def PySem.W.Fast.tw13818511172431296170:Nat:=0
def PySem.W.Fast.tw15538056630199515814:Nat:=0
def PySem.W.Fast.tw17047233537594300146:Nat:=0
def PySem.W.Fast.tw8533186514297894413:Nat:=0
def PySem.W.Fast.tw11370701656719930669:Nat:=0
def PySem.W.Fast.tw10339210362591690792:Nat:=0
def PySem.W.Fast.tw7206518359411247543:Nat:=0
def PySem.W.Fast.tw7614495935825666881:Nat:=0
def PySem.W.Fast.tw17502726587666070303:Nat:=0
def PySem.W.Fast.tw3896890468471508946:Nat:=0
def PySem.W.Fast.tw7097958779370565816:Nat:=0
def PySem.W.Fast.tw5486592830350284586:Nat:=0
def PySem.W.Fast.tw3473853700335243991:Nat:=0
def PySem.W.Fast.tw16251858209520381039:Nat:=0
def PySem.W.Fast.tw13488695959118014562:Nat:=0
def PySem.W.Fast.tw11986255262231797745:Nat:=0
def PySem.W.Fast.tw5672529501458918845:Nat:=0
def PySem.W.Fast.tw12251372643143699356:Nat:=0
def PySem.W.Fast.tw15720509609895012321:Nat:=0
def PySem.W.Fast.tw7231710902859595809:Nat:=0
def PySem.W.Fast.tw18319036759963180585:Nat:=0
def PySem.W.Fast.tw5797355553849061186:Nat:=0
def PySem.W.Fast.tw10857025563996686766:Nat:=0
def PySem.W.Fast.tw2773180735635736521:Nat:=0
def PySem.W.Fast.tw2080024443769018294:Nat:=0
def PySem.W.Fast.tw15615513227315786853:Nat:=0
def PySem.W.Fast.tw9897908643929547861:Nat:=0
def PySem.W.Fast.tw16942082463385158963:Nat:=0
def PySem.W.Fast.tw17989931785148312218:Nat:=0
def PySem.W.Fast.tw17150687288682393689:Nat:=0
def PySem.W.Fast.tw13000978895931944602:Nat:=0
def PySem.W.Fast.tw2617084951512255416:Nat:=0
def PySem.W.Fast.tw16883849482302944510:Nat:=0
def PySem.W.Fast.tw16052314110609439360:Nat:=0
def PySem.W.Fast.tw1371489051862190610:Nat:=0
def PySem.W.Fast.tw13108037436063254139:Nat:=0
def PySem.W.Fast.tw13401317092502980826:Nat:=0
def PySem.W.Fast.tw7585600801591522512:Nat:=0
def PySem.W.Fast.tw1791348184928211535:Nat:=0
def PySem.W.Fast.tw2291511330473245738:Nat:=0
def PySem.W.Fast.tw8292931452417366333:Nat:=0
def PySem.W.Fast.tw3540846936654290058:Nat:=0
def PySem.W.Fast.tw10177543319312879919:Nat:=0
def PySem.W.Fast.tw7282179035382263221:Nat:=0
def PySem.W.Fast.tw1482710942765826573:Nat:=0
def PySem.W.Fast.tw10558191366502641230:Nat:=0
def PySem.W.Fast.tw12956215241546871412:Nat:=0
def PySem.W.Fast.tw3745629459691037608:Nat:=0
def PySem.W.Fast.tw14544969849623198800:Nat:=0
def PySem.W.Fast.tw17116339663420253348:Nat:=0
def PySem.W.Fast.tw14057235562730822899:Nat:=0
def PySem.W.Fast.tw14503520130186731353:Nat:=0
def PySem.W.Fast.tw588467951159857750:Nat:=0
def PySem.W.Fast.tw3397953193186192099:Nat:=0
def PySem.W.Fast.tw5241933039421409418:Nat:=0
def PySem.W.Fast.tw10497330173689911077:Nat:=0
open PySem PySem.W PyProof.Rows
set_option maxRecDepth 100000 in
set_option maxHeartbeats 0 in
theorem PySem.Challenge.cw_momentloom_k11_faults_in_their_order_holds : PySem.Challenge.rw_momentloom_k11_faults_in_their_order.Holds := by
  w_on; o_law; k_head; (case hw=>w_witness2)
  k_fill
  refine My.walk (l:=PySem.Challenge.rw_momentloom_k11_faults_in_their_order) rfl rfl (fun w h Y=>PySem.W.kIn_of Y) ?F
  case F =>
    intro w mg fa h KX G hmg
    refine' My.all_mk KX G hmg ?a1 ?l1 ?c1 ?k1 ?a2 ?l2 ?c2 ?k2 ?a3 ?l3 ?c3 ?k3 ?a4 ?l4 ?c4 ?k4 ?a5 ?l5 ?c5 ?k5 ?a6 ?l6 ?c6 ?k6 ?a7 ?l7 ?c7 ?k7 ?a8 ?l8 ?c8 ?k8 ?a9 ?l9 ?c9 ?k9 ?a10 ?l10 ?c10 ?k10 ?a11 ?l11 ?c11 ?k11 ?a12 ?l12 ?c12 ?k12 ?a13 ?l13 ?c13 ?k13 ?a14 ?l14 ?c14 ?k14 ?a15 ?l15 ?c15 ?k15 ?a16 ?l16 ?c16 ?k16 ?a17 ?l17 ?c17 ?k17 ?a18 ?l18 ?c18 ?k18 ?a19 ?l19 ?c19 ?k19 ?a20 ?l20 ?c20 ?k20 ?a21 ?l21 ?c21 ?k21 ?a22 ?l22 ?c22 ?k22 ?a23 ?l23 ?c23 ?k23 ?a24 ?l24 ?c24 ?k24 ?a25 ?l25 ?c25 ?k25 ?a26 ?l26 ?c26 ?k26 ?a27 ?l27 ?c27 ?k27 ?a28 ?l28 ?c28 ?k28 ?a29 ?l29 ?c29 ?k29 ?aCM ?a30 ?i30 ?l30 ?c30 ?k30 ?pgCM ?hdCM ?poCM ?saCM ?mkCM ?kcCM ?nCMmachines ?aCS ?a31 ?i31 ?l31 ?c31 ?k31 ?a32 ?i32 ?l32 ?c32 ?k32 ?pgCS ?hdCS ?poCS ?saCS ?mkCS ?kcCS ?nCSboxes ?nCSqueues ?nCSdrawn ?nCSsent ?aCD ?a33 ?i33 ?l33 ?c33 ?k33 ?a34 ?i34 ?l34 ?c34 ?k34 ?a35 ?i35 ?l35 ?c35 ?k35 ?a36 ?i36 ?l36 ?c36 ?k36 ?a37 ?i37 ?l37 ?c37 ?k37 ?pgCD ?hdCD ?poCD ?saCD ?mkCD ?kcCD ?nCDmachine ?nCDhappening ?nCDstate ?nCDwritten ?nCDoutgoing ?nCDends ?nCDreckoned ?nCDqueued ?aCN ?xCN ?aCG ?xCG ?aCU ?xCU ?aCY ?xCY ?aCP ?xCP ?aCL ?xCL ?aCF ?xCF ?aCE ?xCE ?enn ?egn ?egg ?hcn ?hck ?kss ?kts ?ktt ?xfCN ?keCN ?kvCN ?kkCNCN ?kkCNCG ?kkCNCU ?kkCNCY ?kkCNCP ?kkCNCL ?gaCN ?ghCN ?gcCN ?obCN ?beCN ?a100 ?i100 ?l100 ?c100 ?k100 ?xfCG ?keCG ?kvCG ?kkCGCN ?kkCGCG ?kkCGCU ?kkCGCY ?kkCGCP ?kkCGCL ?gaCG ?ghCG ?gcCG ?obCG ?beCG ?a101 ?i101 ?l101 ?c101 ?k101 ?xfCU ?keCU ?kvCU ?kkCUCN ?kkCUCG ?kkCUCU ?kkCUCY ?kkCUCP ?kkCUCL ?gaCU ?ghCU ?gcCU ?obCU ?beCU ?a102 ?i102 ?l102 ?c102 ?k102 ?xfCY ?keCY ?kvCY ?kkCYCN ?kkCYCG ?kkCYCU ?kkCYCY ?kkCYCP ?kkCYCL ?gaCY ?ghCY ?gcCY ?obCY ?beCY ?a103 ?i103 ?l103 ?c103 ?k103 ?xfCP ?keCP ?kvCP ?kkCPCN ?kkCPCG ?kkCPCU ?kkCPCY ?kkCPCP ?kkCPCL ?gaCP ?ghCP ?gcCP ?obCP ?beCP ?a104 ?i104 ?l104 ?c104 ?k104 ?xfCL ?keCL ?kvCL ?kkCLCN ?kkCLCG ?kkCLCU ?kkCLCY ?kkCLCP ?kkCLCL ?gaCL ?ghCL ?gcCL ?obCL ?beCL ?a105 ?i105 ?l105 ?c105 ?k105 ?zlen ?zabs ?zisinstance ?zlist ?ztuple ?zstr ?zint ?zbool ?zrange ?zmax ?zdict ?zValueError
    (case a1=>k_is)
    (case l1=>k_is)
    (case c1=>k_is)
    (case k1=>k_is)
    (case a2=>k_is)
    (case l2=>k_is)
    (case c2=>k_is)
    (case k2=>k_is)
    (case a3=>k_is)
    (case l3=>k_is)
    (case c3=>k_is)
    (case k3=>k_is)
    (case a4=>k_is)
    (case l4=>k_is)
    (case c4=>k_is)
    (case k4=>k_is)
    (case a5=>k_is)
    (case l5=>k_is)
    (case c5=>k_is)
    (case k5=>k_is)
    (case a6=>k_is)
    (case l6=>k_is)
    (case c6=>k_is)
    (case k6=>k_is)
    (case a7=>k_is)
    (case l7=>k_is)
    (case c7=>k_is)
    (case k7=>k_is)
    (case a8=>k_is)
    (case l8=>k_is)
    (case c8=>k_is)
    (case k8=>k_is)
    (case a9=>k_is)
    (case l9=>k_is)
    (case c9=>k_is)
    (case k9=>k_is)
    (case a10=>k_is)
    (case l10=>k_is)
    (case c10=>k_is)
    (case k10=>k_is)
    (case a11=>k_is)
    (case l11=>k_is)
    (case c11=>k_is)
    (case k11=>k_is)
    (case a12=>k_is)
    (case l12=>k_is)
    (case c12=>k_is)
    (case k12=>k_is)
    (case a13=>k_is)
    (case l13=>k_is)
    (case c13=>k_is)
    (case k13=>k_is)
    (case a14=>k_is)
    (case l14=>k_is)
    (case c14=>k_is)
    (case k14=>k_is)
    (case a15=>k_is)
    (case l15=>k_is)
    (case c15=>k_is)
    (case k15=>k_is)
    (case a16=>k_is)
    (case l16=>k_is)
    (case c16=>k_is)
    (case k16=>k_is)
    (case a17=>k_is)
    (case l17=>k_is)
    (case c17=>k_is)
    (case k17=>k_is)
    (case a18=>k_is)
    (case l18=>k_is)
    (case c18=>k_is)
    (case k18=>k_is)
    (case a19=>k_is)
    (case l19=>k_is)
    (case c19=>k_is)
    (case k19=>k_is)
    (case a20=>k_is)
    (case l20=>k_is)
    (case c20=>k_is)
    (case k20=>k_is)
    (case a21=>k_is)
    (case l21=>k_is)
    (case c21=>k_is)
    (case k21=>k_is)
    (case a22=>k_is)
    (case l22=>k_is)
    (case c22=>k_is)
    (case k22=>k_is)
    (case a23=>k_is)
    (case l23=>k_is)
    (case c23=>k_is)
    (case k23=>k_is)
    (case a24=>k_is)
    (case l24=>k_is)
    (case c24=>k_is)
    (case k24=>k_is)
    (case a25=>k_is)
    (case l25=>k_is)
    (case c25=>k_is)
    (case k25=>k_is)
    (case a26=>k_is)
    (case l26=>k_is)
    (case c26=>k_is)
    (case k26=>k_is)
    (case a27=>k_is)
    (case l27=>k_is)
    (case c27=>k_is)
    (case k27=>k_is)
    (case a28=>k_is)
    (case l28=>k_is)
    (case c28=>k_is)
    (case k28=>k_is)
    (case a29=>k_is)
    (case l29=>k_is)
    (case c29=>k_is)
    (case k29=>k_is)
    (case aCM=>k_is)
    (case a30=>k_is)
    (case i30=>k_is)
    (case l30=>k_is)
    (case c30=>k_is)
    (case k30=>k_is)
    (case pgCM=>k_is)
    (case hdCM=>k_is)
    (case poCM=>k_is)
    (case saCM=>k_is)
    (case mkCM=>k_is)
    (case kcCM=>k_is)
    (case nCMmachines=>k_is)
    (case aCS=>k_is)
    (case a31=>k_is)
    (case i31=>k_is)
    (case l31=>k_is)
    (case c31=>k_is)
    (case k31=>k_is)
    (case a32=>k_is)
    (case i32=>k_is)
    (case l32=>k_is)
    (case c32=>k_is)
    (case k32=>k_is)
    (case pgCS=>k_is)
    (case hdCS=>k_is)
    (case poCS=>k_is)
    (case saCS=>k_is)
    (case mkCS=>k_is)
    (case kcCS=>k_is)
    (case nCSboxes=>k_is)
    (case nCSqueues=>k_is)
    (case nCSdrawn=>k_is)
    (case nCSsent=>k_is)
    (case aCD=>k_is)
    (case a33=>k_is)
    (case i33=>k_is)
    (case l33=>k_is)
    (case c33=>k_is)
    (case k33=>k_is)
    (case a34=>k_is)
    (case i34=>k_is)
    (case l34=>k_is)
    (case c34=>k_is)
    (case k34=>k_is)
    (case a35=>k_is)
    (case i35=>k_is)
    (case l35=>k_is)
    (case c35=>k_is)
    (case k35=>k_is)
    (case a36=>k_is)
    (case i36=>k_is)
    (case l36=>k_is)
    (case c36=>k_is)
    (case k36=>k_is)
    (case a37=>k_is)
    (case i37=>k_is)
    (case l37=>k_is)
    (case c37=>k_is)
    (case k37=>k_is)
    (case pgCD=>k_is)
    (case hdCD=>k_is)
    (case poCD=>k_is)
    (case saCD=>k_is)
    (case mkCD=>k_is)
    (case kcCD=>k_is)
    (case nCDmachine=>k_is)
    (case nCDhappening=>k_is)
    (case nCDstate=>k_is)
    (case nCDwritten=>k_is)
    (case nCDoutgoing=>k_is)
    (case nCDends=>k_is)
    (case nCDreckoned=>k_is)
    (case nCDqueued=>k_is)
    (case aCN=>k_is)
    (case xCN=>k_exc)
    (case aCG=>k_is)
    (case xCG=>k_exc)
    (case aCU=>k_is)
    (case xCU=>k_exc)
    (case aCY=>k_is)
    (case xCY=>k_exc)
    (case aCP=>k_is)
    (case xCP=>k_exc)
    (case aCL=>k_is)
    (case xCL=>k_exc)
    (case aCF=>k_is)
    (case xCF=>k_exc)
    (case aCE=>k_is)
    (case xCE=>k_exc)
    (case enn=>kts_exm)
    (case egn=>kts_exm)
    (case egg=>kts_exm)
    (case hcn=>k_is)
    (case hck=>k_is)
    (case kss=>kit_is)
    (case kts=>kit_is)
    (case ktt=>kit_is)
    (case xfCN=>kts_exm)
    (case keCN=>kit_is)
    (case kvCN=>kit_is)
    (case kkCNCN=>kit_is)
    (case kkCNCG=>kit_is)
    (case kkCNCU=>kit_is)
    (case kkCNCY=>kit_is)
    (case kkCNCP=>kit_is)
    (case kkCNCL=>kit_is)
    (case gaCN=>k_is)
    (case ghCN=>k_is)
    (case gcCN=>k_is)
    (case obCN=>k_is)
    (case beCN=>k_is)
    (case a100=>k_is)
    (case i100=>k_is)
    (case l100=>k_is)
    (case c100=>k_is)
    (case k100=>k_is)
    (case xfCG=>kts_exm)
    (case keCG=>kit_is)
    (case kvCG=>kit_is)
    (case kkCGCN=>kit_is)
    (case kkCGCG=>kit_is)
    (case kkCGCU=>kit_is)
    (case kkCGCY=>kit_is)
    (case kkCGCP=>kit_is)
    (case kkCGCL=>kit_is)
    (case gaCG=>k_is)
    (case ghCG=>k_is)
    (case gcCG=>k_is)
    (case obCG=>k_is)
    (case beCG=>k_is)
    (case a101=>k_is)
    (case i101=>k_is)
    (case l101=>k_is)
    (case c101=>k_is)
    (case k101=>k_is)
    (case xfCU=>kts_exm)
    (case keCU=>kit_is)
    (case kvCU=>kit_is)
    (case kkCUCN=>kit_is)
    (case kkCUCG=>kit_is)
    (case kkCUCU=>kit_is)
    (case kkCUCY=>kit_is)
    (case kkCUCP=>kit_is)
    (case kkCUCL=>kit_is)
    (case gaCU=>k_is)
    (case ghCU=>k_is)
    (case gcCU=>k_is)
    (case obCU=>k_is)
    (case beCU=>k_is)
    (case a102=>k_is)
    (case i102=>k_is)
    (case l102=>k_is)
    (case c102=>k_is)
    (case k102=>k_is)
    (case xfCY=>kts_exm)
    (case keCY=>kit_is)
    (case kvCY=>kit_is)
    (case kkCYCN=>kit_is)
    (case kkCYCG=>kit_is)
    (case kkCYCU=>kit_is)
    (case kkCYCY=>kit_is)
    (case kkCYCP=>kit_is)
    (case kkCYCL=>kit_is)
    (case gaCY=>k_is)
    (case ghCY=>k_is)
    (case gcCY=>k_is)
    (case obCY=>k_is)
    (case beCY=>k_is)
    (case a103=>k_is)
    (case i103=>k_is)
    (case l103=>k_is)
    (case c103=>k_is)
    (case k103=>k_is)
    (case xfCP=>kts_exm)
    (case keCP=>kit_is)
    (case kvCP=>kit_is)
    (case kkCPCN=>kit_is)
    (case kkCPCG=>kit_is)
    (case kkCPCU=>kit_is)
    (case kkCPCY=>kit_is)
    (case kkCPCP=>kit_is)
    (case kkCPCL=>kit_is)
    (case gaCP=>k_is)
    (case ghCP=>k_is)
    (case gcCP=>k_is)
    (case obCP=>k_is)
    (case beCP=>k_is)
    (case a104=>k_is)
    (case i104=>k_is)
    (case l104=>k_is)
    (case c104=>k_is)
    (case k104=>k_is)
    (case xfCL=>kts_exm)
    (case keCL=>kit_is)
    (case kvCL=>kit_is)
    (case kkCLCN=>kit_is)
    (case kkCLCG=>kit_is)
    (case kkCLCU=>kit_is)
    (case kkCLCY=>kit_is)
    (case kkCLCP=>kit_is)
    (case kkCLCL=>kit_is)
    (case gaCL=>k_is)
    (case ghCL=>k_is)
    (case gcCL=>k_is)
    (case obCL=>k_is)
    (case beCL=>k_is)
    (case a105=>k_is)
    (case i105=>k_is)
    (case l105=>k_is)
    (case c105=>k_is)
    (case k105=>k_is)
    (case zlen=>k_is)
    (case zabs=>k_is)
    (case zisinstance=>k_is)
    (case zlist=>k_is)
    (case ztuple=>k_is)
    (case zstr=>k_is)
    (case zint=>k_is)
    (case zbool=>k_is)
    (case zrange=>k_is)
    (case zmax=>k_is)
    (case zdict=>k_is)
    (case zValueError=>k_is)
