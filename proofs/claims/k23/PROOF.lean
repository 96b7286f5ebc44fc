import PyProof.Rows.All
import Wide.All
import OpenK.AllK
import Wide.FinOn
import Lean
import PyProof.EqAt
import PyProof.EqKinds
import PyProof.TupleCall
import PySem.SetOps
import PyProof.SetKind
import PyProof.CollectWalk
import PyProof.FactsAll.set
import PyProof.ForAny
import PyProof.Rows.SortWalk
import PyProof.Rows.SetFrom
import KE.KSortAsk
import KE.KSortTup
import KE.KDictList
import KE.KMinBuiltin
import PyProof.EnumMake
import PyProof.NsDelKeeps
import PyProof.ExcInit
import PyProof.ExcClass2
import PyProof.WalksMore
import PyProof.TupleOfSeq
import PySem.Challenge.RW_crossracks_k23_what_is_refused
set_option Elab.async false
set_option linter.all false
set_option maxRecDepth 100000
namespace L2
open PySem PySem.Spec PyProof.Rows
abbrev Key:=Sum Int Str
def ap2:Key → Value → Bool
 | .inl k,v=>Value.isInt k v
 | .inr x,v=>Value.isStrOf x v
def bg1 (w:World):Key → Int
 | .inl k=>hashInt k
 | .inr x=>hashStr w x
theorem B6:∀ {k:Key} {v:Value},ap2 k v = true → (∃ i t,k = Sum.inl i ∧ v = Value.int i t) ∨ (∃ x t,k = Sum.inr x ∧ v = Value.str x t)
 | .inl i,v,h=>by
  obtain ⟨t,e⟩:=Value.isInt_shape (k:=i) (v:=v) h
  exact .inl ⟨i,t,rfl,e⟩
 | .inr x,v,h=>by
  obtain ⟨t,e⟩:=Value.isStrOf_shape (x:=x) (v:=v) h
  exact .inr ⟨x,t,rfl,e⟩
theorem aP3 (i:Int) (t:Tok):ap2 (.inl i) (.int i t) = true:=by simp [ap2,Value.isInt]
theorem aN5 (x:Str) (t:Tok):ap2 (.inr x) (.str x t) = true:=by simp [ap2,Value.isStrOf]
theorem ba3 (a b:Int):decide ((Sum.inl a:Key) = Sum.inl b) = (a == b):=by
 by_cases e:a = b
 ·subst e; simp
 ·have h:¬ (Sum.inl a:Key) = Sum.inl b:=fun q=>e (Sum.inl.inj q)
  rw [decide_eq_false h]
  exact (beq_eq_false_iff_ne.mpr e).symm
theorem ba0 (a b:Str):decide ((Sum.inr a:Key) = Sum.inr b) = decide (a = b):=by
 by_cases e:a = b
 ·subst e; simp
 ·have h:¬ (Sum.inr a:Key) = Sum.inr b:=fun q=>e (Sum.inr.inj q)
  rw [decide_eq_false h,decide_eq_false e]
theorem bb8 (a:Int) (b:Str):decide ((Sum.inl a:Key) = Sum.inr b) = false:=decide_eq_false (fun q=>nomatch q)
theorem bb4 (a:Str) (b:Int):decide ((Sum.inr a:Key) = Sum.inl b) = false:=decide_eq_false (fun q=>nomatch q)
def D3 (prog:Program) (w:World):PySem.KeyKind prog w Key where
 is:=ap2
 hash:=bg1 w
 inj:=fun v a b ha hb=>by
  rcases B6 ha with ⟨i,t,rfl,rfl⟩ | ⟨x,t,rfl,rfl⟩
  ·rcases B6 hb with ⟨j,u,rfl,e⟩ | ⟨y,u,rfl,e⟩
   ·injection e with e1 _; rw [e1]
   ·exact nomatch e
  ·rcases B6 hb with ⟨j,u,rfl,e⟩ | ⟨y,u,rfl,e⟩
   ·exact nomatch e
   ·injection e with e1 _; rw [e1]
 byValue:=fun k v h=>by
  rcases B6 h with ⟨i,t,rfl,rfl⟩ | ⟨x,t,rfl,rfl⟩ <;> rfl
 pyHash:=fun hv h=>by
  rcases B6 hv with ⟨i,t,rfl,rfl⟩ | ⟨x,t,rfl,rfl⟩
  ·exact wpAny_pyHash_int h
  ·exact wpAny_pyHash_str h
 eqBool:=fun hu hv h=>by
  rcases B6 hu with ⟨i,t,rfl,rfl⟩ | ⟨x,t,rfl,rfl⟩
  ·rcases B6 hv with ⟨j,u,rfl,rfl⟩ | ⟨y,u,rfl,rfl⟩
   ·rw [ba3] at h; exact wpAny_eqBool_int h
   ·rw [bb8] at h; exact SeqAt.EqAt.int_str i t y u _ _ _ _ h
  ·rcases B6 hv with ⟨j,u,rfl,rfl⟩ | ⟨y,u,rfl,rfl⟩
   ·rw [bb4] at h; exact SeqAt.EqAt.str_int x t j u _ _ _ _ h
   ·rw [ba0] at h; exact wpAny_eqBool_str h
 «strs»:=fun k x t v h=>by
  rcases B6 h with ⟨i,u,rfl,e⟩ | ⟨y,u,rfl,e⟩
  ·exact nomatch e
  ·injection e with e1 _
   subst e1
   cases v <;> rfl
theorem aw6 (prog:Program) (w:World) (i:Int) (t:Tok):(D3 prog w).is (.inl i) (.int i t) = true:=aP3 i t
theorem aB8 (prog:Program) (w:World) (x:Str) (t:Tok):(D3 prog w).is (.inr x) (.str x t) = true:=aN5 x t
end L2
namespace L2
open PySem PySem.Spec PyProof.Rows
inductive V where
 | non | bl (b:Bool) | int (i:Int) | str (x:Str) | byt (b:Array UInt8) | flt (b:UInt64) | ref (a:Addr) | ty (n:String)
 deriving DecidableEq
def x8:V → Value → Prop
 | .non,u=>u = Value.none
 | .bl b,u=>u = Value.bool b
 | .int i,u=>∃ t,u = Value.int i t
 | .str x,u=>∃ t,u = Value.str x t
 | .byt b,u=>∃ t,u = Value.bytes b t
 | .flt b,u=>∃ t,u = Value.float b t
 | .ref a,u=>u = Value.ref a
 | .ty n,u=>u = Value.type n
abbrev u0:List V → List Value → Prop:=Paired x8
theorem u0.length {xs:List V} {us:List Value} (r:u0 xs us):xs.length = us.length:=Paired.length r
theorem u0.get:∀ {xs:List V} {us:List Value} {i:Nat} {x:V},u0 xs us → xs[i]? = some x → ∃ u,us[i]? = some u ∧ x8 x u
 | _,_,_,_,.nil,e=>by simp at e
 | _,_,0,_,.cons r _,e=>by simp at e; subst e; exact ⟨_,rfl,r⟩
 | _,_,i + 1,x,.cons _ t,e=>by
  obtain ⟨u,h1,h2⟩:=u0.get (i:=i) (x:=x) t (by simpa using e)
  exact ⟨u,by simpa using h1,h2⟩
theorem u0.set {x:V} {u:Value} (r:x8 x u):∀ {xs:List V} {us:List Value} (i:Nat),u0 xs us → u0 (xs.set i x) (us.set i u)
 | _,_,_,.nil=>.nil
 | _,_,0,.cons _ t=>.cons r t
 | _,_,i + 1,.cons q t=>.cons q (u0.set r i t)
theorem u0.append:∀ {xs ys:List V} {us ws:List Value},u0 xs us → u0 ys ws → u0 (xs ++ ys) (us ++ ws)
 | _,_,_,_,.nil,s=>s
 | _,_,_,_,.cons r t,s=>.cons r (u0.append t s)
theorem u0.take:∀ {xs:List V} {us:List Value} (n:Nat),u0 xs us → u0 (xs.take n) (us.take n)
 | _,_,0,_=>.nil
 | _,_,_ + 1,.nil=>.nil
 | _,_,n + 1,.cons r t=>.cons r (u0.take n t)
theorem u0.drop:∀ {xs:List V} {us:List Value} (n:Nat),u0 xs us → u0 (xs.drop n) (us.drop n)
 | _,_,0,r=>r
 | _,_,_ + 1,.nil=>.nil
 | _,_,n + 1,.cons _ t=>u0.drop n t
def U4:Option V → Option Value → Prop
 | some v,some u=>x8 v u
 | none,none=>True
 | _,_=>False
def KV {κ:Type}:List (κ × V) → List (κ × Value) → Prop:=Paired fun (p:κ × V) (q:κ × Value)=>p.1 = q.1 ∧ x8 p.2 q.2
def kV:Key → V
 | .inl i=>.int i
 | .inr x=>.str x
inductive HO where
 /-- a list -/
 | lst (xs:List V)
 /-- a tuple (never changes) -/
 | tup (xs:List V)
 /-- a dict whose keys are ints and texts; one whose keys are tuples of ints and texts (the empty one is both) -/
 | dK (kvs:List (Key × V)) | dT (kvs:List (List Key × V))
 /-- a set of ints: its members,its size -/
 | set (S:Int → Bool) (n:Nat)
 /-- an instance of the class at C,its dict at dx,its attributes -/
 | ins (C dx:Addr) (fs:List (Str × V))
 /-- the dict of the instance at x -/
 | own (x:Addr)
 /-- the dict of an exception -/
 | xd (fs:List (Str × V))
 /-- a bound method,f of x -/
 | met (f x:Addr)
 /-- a range object lo,lo + 1,.. below hi -/
 | rng (lo hi:Int)
 /-- a thing that is known to the object (the script; a dict while a loop walks it): read,never written while it is so -/
 | frz (o:Obj) (u:HO)
 /-- a code object's table -/
 | tbl (ps:Array Value)
 /-- any other thing,by what is true of its one object (a def of one's own: aw7 a S n:=HO.ext fun h=>..) -/
 | ext (φ:Heap → Prop)
abbrev Hp:=Addr → Option HO
def upd (H:Hp) (a:Addr) (o:HO):Hp:=fun b=>if b = a then some o else H b
theorem i3 {H:Hp} {a:Addr} {o:HO}:upd H a o a = some o:=by unfold upd; rw [if_pos rfl]
theorem j4 {H:Hp} {a b:Addr} {o:HO} (h:b ≠ a):upd H a o b = H b:=by unfold upd; rw [if_neg h]
theorem bd5 {H:Hp} {a b:Addr} {o u:HO} (h:H a = some o) (h':H b = some u) (d:o ≠ u):a ≠ b:=by
 intro e; subst e; rw [h] at h'; exact d (Option.some.inj h')
theorem o4 {H:Hp} {a b:Addr} {o:HO} (h:H a = some o) (h':H b = none):a ≠ b:=by
 intro e; subst e; rw [h] at h'; cases h'
section
variable (P:Program) (w:World)
def w6 (H:Hp) (h:Heap) (a:Addr):HO → Prop
 | .lst xs=>xs.length ≤ sizeLine ∧ ∃ (its:List Value) (n:Nat),u0 xs its ∧ h.get? a = some { cls:=.type "list",data:=.seq its.toArray n }
 | .tup xs=>xs.length ≤ sizeLine ∧ ∃ its:List Value,u0 xs its ∧ IsTup h a its.toArray
 | .dK kvs=>kvs.length ≤ sizeLine ∧ (a == sysModules) = false ∧ ∃ vs,KV kvs vs ∧ h.DictOf (D3 P w) a vs
 | .dT kvs=>kvs.length ≤ sizeLine ∧ (a == sysModules) = false ∧ ∃ xs:List (List Key × Addr × Value),
   Paired (fun (p:List Key × V) (q:List Key × Addr × Value)=>p.1 = q.1 ∧ H q.2.1 = some (.tup (p.1.map kV)) ∧ x8 p.2 q.2.2) kvs xs ∧
   ∃ o es ep,h.get? a = some o ∧ o.ExactDict ∧ o.data = .dict es ep ∧ es.toList = xs.map (entryOfKey (tupleKind (D3 P w))) ∧ (xs.map (·.1)).Nodup
 | .set S n=>h.SetOf (intKind P w) a S n
 | .ins C dx fs=>H dx = some (.own a) ∧ fs.length ≤ 1000 ∧ dx ≠ a ∧ h.get? a = some (PySem.W.instObj C dx) ∧
   ∃ mA,h.Ns1 dx mA ∧ (∀ f,U4 (fs.lookup f) (mA f)) ∧ PySem.Within mA (fs.map (·.1))
 | .own _=>∃ o,h.get? a = some o
 | .xd fs=>∃ mA,h.Ns1 a mA ∧ ∀ f,U4 (fs.lookup f) (mA f)
 | .rng lo hi=>∃ t u v,h.get? a = some { cls:=.type "range",data:=.fields #[.int lo t,.int hi u,.int 1 v] }
 | .frz o u=>h.get? a = some o ∧ w6 H h a u
 | .tbl ps=>h.get? a = some { cls:=.none,data:=.fields ps }
 | .met f x=>h.get? a = some (PySem.W.methodObj (.ref f) (.ref x))
 | .ext φ=>φ h ∧ (∃ o,h.get? a = some o) ∧ ∀ h1 h2:Heap,φ h1 → (∀ o,h1.get? a = some o → h2.get? a = some o) → φ h2
def HOk (H:Hp) (h:Heap):Prop:=∀ a o,H a = some o → w6 P w H h a o
end
section
variable {P:Program} {w:World} {H H':Hp} {h h':Heap} {a:Addr} {o:HO}
theorem w6.lt (x:w6 P w H h a o):a < h.objs.size:=by
 cases o with
 | lst xs=>obtain ⟨_,_,_,_,e⟩:=x; exact Heap.lt_size e
 | tup xs=>obtain ⟨_,_,_,p⟩:=x; exact p.lt
 | dK kvs=>obtain ⟨_,_,_,_,o,_,_,e,_⟩:=x; exact Heap.lt_size e
 | dT kvs=>obtain ⟨_,_,_,_,o,_,_,e,_⟩:=x; exact Heap.lt_size e
 | set S n=>obtain ⟨o,_,_,_,e,_⟩:=x; exact Heap.lt_size e
 | ins C dx fs=>obtain ⟨_,_,_,e,_⟩:=x; exact Heap.lt_size e
 | own y=>obtain ⟨_,e⟩:=x; exact Heap.lt_size e
 | xd fs=>obtain ⟨_,⟨_,_,_,e,_⟩,_⟩:=x; exact Heap.lt_size e
 | rng lo hi=>obtain ⟨_,_,_,e⟩:=x; exact Heap.lt_size e
 | frz ob u=>obtain ⟨e,_⟩:=x; exact Heap.lt_size e
 | tbl ps=>exact Heap.lt_size (show h.get? a = some _ from x)
 | met f y=>exact Heap.lt_size (show h.get? a = some _ from x)
 | ext φ=>obtain ⟨_,⟨_,e⟩,_⟩:=x; exact Heap.lt_size e
theorem Paired.mapP {α β:Type} {F G:α → β → Prop}:∀ {l₁:List α} {l₂:List β},Paired F l₁ l₂ → (∀ a b,F a b → G a b) → Paired G l₁ l₂
 | _,_,.nil,_=>.nil
 | _,_,.cons r t,f=>.cons (f _ _ r) (Paired.mapP t f)
theorem w6.stay (x:w6 P w H h a o) (k:∀ b u,(b = a ∨ H b = some (.own a)) → h.get? b = some u → h'.get? b = some u)
  (ho:∀ b,H b = some (.own a) → H' b = some (.own a)) (ht:∀ b xs,H b = some (.tup xs) → H' b = some (.tup xs)):w6 P w H' h' a o:=by
 induction o with
 | lst xs=>obtain ⟨z,its,n,r,e⟩:=x; exact ⟨z,its,n,r,k _ _ (.inl rfl) e⟩
 | tup xs=>obtain ⟨z,its,r,ob,e,c⟩:=x; exact ⟨z,its,r,ob,k _ _ (.inl rfl) e,c⟩
 | dK kvs=>obtain ⟨z,y,vs,r,ob,es,ep,e,c⟩:=x; exact ⟨z,y,vs,r,ob,es,ep,k _ _ (.inl rfl) e,c⟩
 | dT kvs =>
  obtain ⟨z,y,xs,r,ob,es,ep,e,c⟩:=x
  exact ⟨z,y,xs,Paired.mapP r fun p q z=>⟨z.1,ht _ _ z.2.1,z.2.2⟩,ob,es,ep,k _ _ (.inl rfl) e,c⟩
 | set S n=>obtain ⟨ob,es,ep,t,e,c⟩:=x; exact ⟨ob,es,ep,t,k _ _ (.inl rfl) e,c⟩
 | ins C dx fs =>
  obtain ⟨d,z,ne,e,mA,⟨od,es,ep,e2,c⟩,r⟩:=x
  exact ⟨ho _ d,z,ne,k _ _ (.inl rfl) e,mA,⟨od,es,ep,k _ _ (.inr d) e2,c⟩,r⟩
 | own y=>obtain ⟨ob,e⟩:=x; exact ⟨ob,k _ _ (.inl rfl) e⟩
 | xd fs=>obtain ⟨mA,⟨od,es,ep,e,c⟩,r⟩:=x; exact ⟨mA,⟨od,es,ep,k _ _ (.inl rfl) e,c⟩,r⟩
 | rng lo hi=>obtain ⟨t,u,v,e⟩:=x; exact ⟨t,u,v,k _ _ (.inl rfl) e⟩
 | frz ob u ih=>obtain ⟨e,q⟩:=x; exact ⟨k _ _ (.inl rfl) e,ih q⟩
 | tbl ps =>
  have e:h.get? a = some { cls:=.none,data:=.fields ps }:=x
  show h'.get? a = some { cls:=.none,data:=.fields ps }
  exact k a _ (.inl rfl) e
 | met f y =>
  have e:h.get? a = some (PySem.W.methodObj (.ref f) (.ref y)):=x
  show h'.get? a = some (PySem.W.methodObj (.ref f) (.ref y))
  exact k a _ (.inl rfl) e
 | ext φ=>obtain ⟨p,⟨o,e⟩,st⟩:=x; exact ⟨st _ _ p fun o q=>k _ _ (.inl rfl) q,⟨o,k _ _ (.inl rfl) e⟩,st⟩
theorem HOk.lt (x:HOk P w H h) (e:H a = some o):a < h.objs.size:=(x a o e).lt
theorem HOk.fresh (x:HOk P w H h) (e:h.objs.size ≤ a):H a = none:=by
 cases q:H a with
 | none=>rfl
 | some u=>exact absurd (Nat.lt_of_lt_of_le (x.lt q) e) (Nat.lt_irrefl _)
theorem HOk.kept (x:HOk P w H h) (k:∀ b u,h.get? b = some u → h'.get? b = some u):HOk P w H h':=fun a o e =>
 (x a o e).stay (fun b u _ q=>k b u q) (fun _ q=>q) fun _ _ q=>q
theorem HOk.laid (x:HOk P w H h) (k:∀ b u,h.get? b = some u → h'.get? b = some u) (hp:h.objs.size ≤ a) (new:w6 P w (upd H a o) h' a o):HOk P w (upd H a o) h':=fun b u e=>by
 have hn:=x.fresh hp
 by_cases hb:b = a
 ·subst hb; rw [i3] at e; cases e; exact new
 ·rw [j4 hb] at e
  exact (x b u e).stay (fun c v _ q=>k c v q) (fun c q=>by rw [j4 (o4 q hn)]; exact q) fun c xs q=>by rw [j4 (o4 q hn)]; exact q
end
def Rd (H:Hp) (a:Addr) (u:HO):Prop:=H a = some u ∨ ∃ o,H a = some (.frz o u)
theorem Rd.ok {P:Program} {w:World} {H:Hp} {h:Heap} {a:Addr} {u:HO} (r:Rd H a u) (x:HOk P w H h):w6 P w H h a u:=by
 rcases r with r | ⟨o,r⟩
 ·exact x a u r
 ·obtain ⟨_,q⟩:=x a _ r
  exact q
def Mut:Option HO → Prop
 | some (.lst _)=>True
 | some (.dK _)=>True
 | some (.dT _)=>True
 | some (.set _ _)=>True
 | some (.ins _ _ _)=>True
 | some (.ext _)=>True
 | _=>False
section
variable {P:Program} {w:World} {H:Hp} {h h':Heap} {x e:Addr} {o':HO}
theorem HOk.write (ok:HOk P w H h) (mu:Mut (H x)) (he:e = x ∨ H e = some (.own x)) (k:∀ b u,b ≠ e → h.get? b = some u → h'.get? b = some u) (heo:∃ u,h'.get? e = some u)
  (new:w6 P w (upd H x o') h' x o'):HOk P w (upd H x o') h':=fun b u q=>by
 have nown:∀ c y,H c = some (.own y) → c ≠ x:=fun c y r z=>by subst z; rw [r] at mu; exact mu
 have ntup:∀ c xs,H c = some (.tup xs) → c ≠ x:=fun c xs r z=>by subst z; rw [r] at mu; exact mu
 by_cases hb:b = x
 ·subst hb; rw [i3] at q; cases q; exact new
 ·rw [j4 hb] at q
  by_cases hbe:b = e
  ·have q':H b = some (.own x):=by
    rcases he with z | z
    ·exact absurd (hbe.trans z) hb
    ·rw [hbe]; exact z
   rw [q] at q'; cases q'
   obtain ⟨v,hv⟩:=heo
   exact ⟨v,by rw [hbe]; exact hv⟩
  ·refine (ok b u q).stay (fun c v hc r=>k c v ?_ r) (fun c r=>by rw [j4 (nown c b r)]; exact r) fun c xs r=>by rw [j4 (ntup c xs r)]; exact r
   rcases hc with rfl | hc
   ·exact hbe
   ·rintro rfl
    rcases he with z | z
    ·exact nown c b hc z
    ·rw [hc] at z; cases z; exact hb rfl
end
structure Un (fs ex:List Addr) (H H':Hp) (h h':Heap):Prop where
 keep:∀ b o,h.get? b = some o → H b = none → b ∉ fs → b ∉ ex → h'.get? b = some o
 slot:∀ b o,h.get? b = some o → H b = none → b ∈ fs → b ∉ ex → ∃ sl,h'.get? b = some { o with slots:=sl }
 free:∀ b o,h.get? b = some o → H b = none → b ∉ ex → H' b = none
 there:∀ b o,h.get? b = some o → b ∉ ex → ∃ o',h'.get? b = some o'
 tups:∀ b xs,H b = some (.tup xs) → H' b = some (.tup xs)
 frzs:∀ b o u,H b = some (.frz o u) → H' b = some (.frz o u)
 tbls:∀ b ps,H b = some (.tbl ps) → ∃ more,H' b = some (.tbl (ps ++ more))
section
variable {fs fs' ex ex':List Addr} {H H1 H2:Hp} {h h1 h2 h':Heap} {a x e:Addr} {o:HO}
theorem Un.any (u:Un fs ex H H1 h h1) {b:Addr} {ob:Obj} (q:h.get? b = some ob) (n:H b = none) (hx:b ∉ ex):∃ sl,h1.get? b = some { ob with slots:=sl }:=by
 by_cases hb:b ∈ fs
 ·exact u.slot b ob q n hb hx
 ·exact ⟨ob.slots,u.keep b ob q n hb hx⟩
theorem Un.kept (k:∀ b u,h.get? b = some u → h'.get? b = some u):Un fs ex H H h h' :=
 ⟨fun b ob q _ _ _=>k b ob q,fun b ob q _ _ _=>⟨ob.slots,k b ob q⟩,fun _ _ _ n _=>n,fun b ob q _=>⟨ob,k b ob q⟩,fun _ _ q=>q,fun _ _ _ q=>q,fun _ ps q=>⟨#[],by rw [q]; simp⟩⟩
theorem Un.refl:Un fs ex H H h h:=Un.kept fun _ _ q=>q
theorem Un.laid (k:∀ b u,h.get? b = some u → h'.get? b = some u) (hp:h.objs.size ≤ a) (hn:H a = none):Un fs ex H (upd H a o) h h' where
 keep:=fun b u q _ _ _=>k b u q
 slot:=fun b u q _ _ _=>⟨u.slots,k b u q⟩
 free:=fun b u q n _=>by rw [j4 (Nat.ne_of_lt (Nat.lt_of_lt_of_le (Heap.lt_size q) hp))]; exact n
 there:=fun b u q _=>⟨u,k b u q⟩
 tups:=fun b xs q=>by rw [j4 (o4 q hn)]; exact q
 frzs:=fun b u xs q=>by rw [j4 (o4 q hn)]; exact q
 tbls:=fun b ps q=>⟨#[],by rw [j4 (o4 q hn),q]; simp⟩
theorem Un.write (mu:Mut (H x)) (he:e = x ∨ H e = some (.own x)) (k:∀ b u,b ≠ e → h.get? b = some u → h'.get? b = some u) (heo:∃ u,h'.get? e = some u):Un fs ex H (upd H x o) h h':=by
 have hx:∀ b,H b = none → b ≠ x:=fun b n z=>by subst z; rw [n] at mu; exact mu
 have hb:∀ b,H b = none → b ≠ e:=fun b n z=>by
  subst z
  rcases he with r | r
  ·exact hx b n r
  ·rw [n] at r; cases r
 have hm:∀ b u,H b = some u → ¬ Mut (some u) → b ≠ x:=fun b u q nm z=>by subst z; rw [q] at mu; exact nm mu
 refine ⟨fun b u q n _ _=>k b u (hb b n) q,fun b u q n _ _=>⟨u.slots,k b u (hb b n) q⟩,fun b u q n _=>by rw [j4 (hx b n)]; exact n,fun b u q _=>?_,
  fun b xs q=>by rw [j4 (hm b _ q fun z=>z)]; exact q,fun b u xs q=>by rw [j4 (hm b _ q fun z=>z)]; exact q,fun b ps q=>⟨#[],by rw [j4 (hm b _ q fun z=>z),q]; simp⟩⟩
 by_cases hbe:b = e
 ·subst hbe; exact heo
 ·exact ⟨u,k b u hbe q⟩
end
def trk (h:Heap) (H:Hp):List Addr:=(List.range h.objs.size).filter fun a=>(H a).isSome
def as5 (h:Heap) (H:Hp):Heap:=PySem.W.hideAll h (trk h H)
theorem aP2 (h:Heap) (H:Hp):(as5 h H).objs.size = h.objs.size:=PySem.W.hideAll_size _ _
theorem aT7 {h:Heap} {H:Hp} {b:Addr} {o:Obj} (e:h.get? b = some o) (n:H b = none):(as5 h H).get? b = some o :=
 PySem.W.hideAll_get _ e fun hm=>by
  have q:(H b).isSome = true:=(List.mem_filter.mp hm).2
  rw [n] at q; simp at q
theorem aX8 {h:Heap} {H:Hp} {b:Addr} {o:Obj} (e:(as5 h H).get? b = some o):h.get? b = some o ∧ H b = none:=by
 have e':h.get? b = some o:=PySem.W.of_hideAll (trk h H) e
 refine ⟨e',?_⟩
 cases q:H b with
 | none=>rfl
 | some x =>
  have hm:b ∈ trk h H:=List.mem_filter.mpr ⟨List.mem_range.mpr (Heap.lt_size e'),by simp [q]⟩
  have z:(as5 h H).get? b = none:=PySem.W.hideAll_none (trk h H) hm
  rw [z] at e; cases e
end L2
namespace L2
open PySem PySem.Spec PyProof.Rows
structure Mod (K:PySem.W.Frag) (mg:Str → Option Value) (base:Heap):Prop where
 kin:K.In base
 glob:base.Ns mainGlobals mg
 blt:∃ mb,base.Ns builtinsNs mb ∧ ∀ x:Str,x ≠ "__name__" → mb x = bootBuiltins x
 nolimit:base.NoLimit
structure Cx where
 prog:Program
 w:World
 K:PySem.W.Frag
 mg:Str → Option Value
 base:Heap
 A:Around
 N:List Str
 s₀:Shared
 H₀:Hp
 env:Env
 outer:List Env
 stack:List Env
 ex:List Addr
 fn:Str → Bool
 calm:Bool
 pn:List (Addr × Obj)
 xe:Value → Shared → Prop
def frs (l:List Env):List Addr:=l.filterMap (·.frame)
abbrev Cx.fs (X:Cx):List Addr:=frs X.outer
def Vis (sc:Scope) (x:Str):Prop:=sc.names.lookup x = some .local ∨ sc.names.lookup x = some .cell ∨ sc.names.lookup x = some .free
def Loc (sc:Scope) (x:Str):Prop:=sc.names.lookup x = some .local ∨ sc.names.lookup x = some .cell
def bi0 (env:Env) (h:Heap) (m:Str → Option Value) (x:Str) (u:Value):Prop :=
 (env.kindOf x = some .local ∧ m x = some u) ∨ ((env.kindOf x = some .cell ∨ env.kindOf x = some .free) ∧ ∃ c,env.cells.lookup x = some c ∧ h.IsCell c (some u))
structure Cx.Ok (X:Cx):Prop where
 mod:Mod X.K X.mg X.base
 kind:X.env.scope.kind = .function
 glob:X.env.globals = mainGlobals
 blt:X.env.builtins = builtinsNs
 above:X.s₀.heap.objs.size ≤ X.env.locals
 inj:∀ x y c,X.env.cells.lookup x = some c → X.env.cells.lookup y = some c → x = y
 has:∀ x,(X.env.kindOf x = some .cell ∨ X.env.kindOf x = some .free) → ∃ c,X.env.cells.lookup x = some c
 cab:∀ x c,X.fn x = true → X.env.cells.lookup x = some c → X.s₀.heap.objs.size ≤ c
 hd:X.calm = true → X.A.handled = none
 frames:X.A.frames = some X.stack
 stk:X.stack = X.outer ∨ (X.stack = X.env :: X.outer ∧ X.env.frame = some X.env.locals)
 exf:∀ b ∈ X.ex,b ≠ X.env.locals ∧ ∀ x c,X.env.cells.lookup x = some c → c ≠ b
 bs:∀ b o,X.base.get? b = some o → X.s₀.heap.get? b = some o ∧ X.H₀ b = none
 bsz:X.base.objs.size ≤ X.s₀.heap.objs.size
 noex:∀ b o,X.base.get? b = some o → b ∉ X.ex
 exfs:∀ b ∈ X.ex,b ∉ X.fs
 funs:X.s₀.heap.FunFrames X.base X.outer
 frf:∀ b ∈ X.fs,X.H₀ b = none
structure Inv (X:Cx) (pins:List (Addr × Obj)) (σ:List (Option V)) (H:Hp) (s:Shared):Prop where
 ok:X.Ok
 os:s.os = X.s₀.os
 bare:AllBare s.gens
 base:Un X.fs X.ex X.H₀ H X.s₀.heap s.heap
 loc:∃ m,s.heap.Ns X.env.locals m ∧ ∀ (i:Nat) (x:Str) (v:V),X.N[i]? = some x → σ[i]? = some (some v) → Vis X.env.scope x → ∃ u,x8 v u ∧ bi0 X.env s.heap m x u
 cell:∀ x c,X.env.cells.lookup x = some c → ∃ v,s.heap.IsCell c v
 free:H X.env.locals = none
 freeC:∀ x c,X.env.cells.lookup x = some c → H c = none
 pin:∀ p ∈ X.pn ++ pins,s.heap.get? p.1 = some p.2 ∧ H p.1 = none ∧ p.1 ≠ X.env.locals ∧ p.1 ∉ X.fs ∧ ∀ v,p.2.data ≠ .cell v
 hok:HOk X.prog X.w H s.heap
 len:σ.length = X.N.length
section
variable {X:Cx} {pins:List (Addr × Obj)} {σ:List (Option V)} {H H':Hp} {s:Shared} {h':Heap}
theorem Cx.Ok.nofr (ok:X.Ok) {b:Addr} {o:Obj} (e:X.base.get? b = some o):b ∉ X.fs:=fun hb=>by
 have:=(ok.funs.mem hb).1
 rw [e] at this; cases this
theorem Inv.bs (I:Inv X pins σ H s):∀ b o,X.base.get? b = some o → s.heap.get? b = some o ∧ H b = none:=fun b o e =>
 ⟨I.base.keep b o (I.ok.bs b o e).1 (I.ok.bs b o e).2 (I.ok.nofr e) (I.ok.noex b o e),I.base.free b o (I.ok.bs b o e).1 (I.ok.bs b o e).2 (I.ok.noex b o e)⟩
theorem Inv.bk (I:Inv X pins σ H s):∀ b o,X.base.get? b = some o → s.heap.get? b = some o:=fun b o e=>(I.bs b o e).1
theorem Inv.mod (I:Inv X pins σ H s):Mod X.K X.mg X.base:=I.ok.mod
theorem Inv.kIn (I:Inv X pins σ H s):X.K.In s.heap:=I.ok.mod.kin.keeps I.bk
theorem Inv.lt (I:Inv X pins σ H s):X.env.locals < s.heap.objs.size:=let ⟨_,hn,_⟩:=I.loc; hn.lt
theorem Inv.sz (I:Inv X pins σ H s):X.s₀.heap.objs.size ≤ s.heap.objs.size:=Nat.le_trans I.ok.above (Nat.le_of_lt I.lt)
theorem Inv.nofs (I:Inv X pins σ H s) {a:Addr} (h:s.heap.objs.size ≤ a):a ∉ X.fs:=fun hb=>by
 obtain ⟨_,o,ho,_⟩:=I.ok.funs.mem hb
 exact absurd (Nat.lt_of_lt_of_le (Heap.lt_size ho) (Nat.le_trans I.sz h)) (Nat.lt_irrefl _)
theorem Inv.cne (I:Inv X pins σ H s):∀ x c,X.env.cells.lookup x = some c → c ≠ X.env.locals:=fun x c e z=>by
 obtain ⟨v,o,ho,hd⟩:=I.cell x c e
 obtain ⟨m,⟨o',es,ep,ho',hd',_⟩,_⟩:=I.loc
 rw [z,ho'] at ho; cases ho; rw [hd'] at hd; cases hd
theorem Inv.funs (I:Inv X pins σ H s):s.heap.FunFrames X.base X.outer:=by
 have all:∀ (l:List Env),(∀ b ∈ frs l,b ∈ X.fs) → X.s₀.heap.FunFrames X.base l → s.heap.FunFrames X.base l:=by
  intro l
  induction l with
  | nil=>intro _ _; trivial
  | cons env r ih =>
   intro hs hl
   obtain ⟨hk,⟨L,o,hf,hn,ho,hd⟩,hr⟩:=hl
   have hL:L ∈ X.fs:=hs L (by unfold frs; rw [List.filterMap_cons,hf]; exact List.mem_cons_self)
   obtain ⟨sl,e⟩:=I.base.slot L o ho (I.ok.frf L hL) hL fun z=>I.ok.exfs L z hL
   exact ⟨hk,⟨L,_,hf,hn,e,hd⟩,ih (fun b hb=>hs b (by unfold frs; rw [List.filterMap_cons,hf]; exact List.mem_cons_of_mem _ hb)) hr⟩
 exact all X.outer (fun _ hb=>hb) I.ok.funs
theorem Inv.stack (I:Inv X pins σ H s):s.heap.FunFrames X.base X.stack:=by
 rcases I.ok.stk with e | ⟨e,hf⟩
 ·rw [e]; exact I.funs
 ·rw [e]
  obtain ⟨m,hn,_⟩:=I.loc
  refine .cons (by rw [I.ok.kind]; decide) hf hn ?_ I.funs
  exact Heap.get?_none_of_le (Nat.le_trans I.ok.bsz I.ok.above)
theorem Inv.stkSub (I:Inv X pins σ H s):∀ b ∈ frs X.stack,b ∈ X.env.locals :: X.fs:=fun b hb=>by
 rcases I.ok.stk with e | ⟨e,hf⟩
 ·rw [e] at hb; exact List.mem_cons_of_mem _ hb
 ·rw [e] at hb
  unfold frs at hb
  rw [List.filterMap_cons,hf] at hb
  exact hb
theorem Inv.stkFree (I:Inv X pins σ H s):∀ b ∈ frs X.stack,H b = none:=fun b hb=>by
 rcases List.mem_cons.mp (I.stkSub b hb) with e | hb
 ·rw [e]; exact I.free
 ·obtain ⟨_,o,ho,_⟩:=I.ok.funs.mem hb
  exact I.base.free b o ho (I.ok.frf b hb) fun z=>I.ok.exfs b z hb
theorem Inv.step {g':Array GenState} {t':Nat} {d':Drawn} {ch:List Addr} (I:Inv X pins σ H s)
  (hch:∀ b ∈ ch,(b ∈ X.ex ∨ X.s₀.heap.objs.size ≤ b) ∧ b ≠ X.env.locals ∧ (∀ x c,X.env.cells.lookup x = some c → c ≠ b) ∧ ∀ p ∈ X.pn ++ pins,p.1 ≠ b)
  (keep:∀ b o,b ≠ X.env.locals → b ∉ X.fs → b ∉ ch → s.heap.get? b = some o → H b = none → h'.get? b = some o)
  (slot:∀ b o,b ≠ X.env.locals → b ∈ X.fs → b ∉ ch → s.heap.get? b = some o → H b = none → ∃ sl,h'.get? b = some { o with slots:=sl }) (free:∀ b o,b ∉ ch → s.heap.get? b = some o → H b = none → H' b = none)
  (there:∀ b o,b ∉ ch → s.heap.get? b = some o → ∃ o',h'.get? b = some o')
  (tups:∀ b xs,H b = some (.tup xs) → H' b = some (.tup xs)) (frzs:∀ b o u,H b = some (.frz o u) → H' b = some (.frz o u)) (tbls:∀ b ps,H b = some (.tbl ps) → ∃ more,H' b = some (.tbl (ps ++ more)))
  (ns:∀ m,s.heap.Ns X.env.locals m → h'.Ns X.env.locals m) (hok:HOk X.prog X.w H' h') (hg:AllBare g') :
  Inv X pins σ H' { s with heap:=h',gens:=g',drawn:=d',toks:=t' }:=by
 have neL:∀ b o,X.s₀.heap.get? b = some o → b ≠ X.env.locals:=fun b o e=>Nat.ne_of_lt (Nat.lt_of_lt_of_le (Heap.lt_size e) I.ok.above)
 have neC:∀ b o,X.s₀.heap.get? b = some o → b ∉ X.ex → b ∉ ch:=fun b o e hx hb=>by
  rcases (hch b hb).1 with z | z
  ·exact hx z
  ·exact absurd (Nat.lt_of_lt_of_le (Heap.lt_size e) z) (Nat.lt_irrefl _)
 have cellK:∀ x c,X.env.cells.lookup x = some c → ∀ v,s.heap.IsCell c v → h'.IsCell c v:=fun x c e v ⟨o,ho,hd⟩=>by
  have nch:c ∉ ch:=fun z=>(hch c z).2.2.1 x c e rfl
  by_cases hc:c ∈ X.fs
  ·obtain ⟨sl,q⟩:=slot c o (I.cne x c e) hc nch ho (I.freeC x c e)
   exact ⟨_,q,hd⟩
  ·exact ⟨o,keep c o (I.cne x c e) hc nch ho (I.freeC x c e),hd⟩
 refine ⟨I.ok,I.os,hg,⟨fun b o e n hb hx=>?_,fun b o e n hb hx=>?_,fun b o e n hx=>?_,fun b o e hx=>?_,fun b xs e=>tups b xs (I.base.tups b xs e),fun b o xs e=>frzs b o xs (I.base.frzs b o xs e),fun b ps e=>?_⟩,?_,fun x c e=>?_,?_,fun x c e=>?_,fun p hp=>?_,hok,I.len⟩
 ·exact keep b o (neL b o e) hb (neC b o e hx) (I.base.keep b o e n hb hx) (I.base.free b o e n hx)
 ·obtain ⟨sl,e1⟩:=I.base.slot b o e n hb hx
  obtain ⟨sl',e2⟩:=slot b _ (neL b o e) hb (neC b o e hx) e1 (I.base.free b o e n hx)
  exact ⟨sl',e2⟩
 ·obtain ⟨o',e1⟩:=I.base.there b o e hx
  exact free b o' (neC b o e hx) e1 (I.base.free b o e n hx)
 ·obtain ⟨o',e1⟩:=I.base.there b o e hx
  exact there b o' (neC b o e hx) e1
 ·obtain ⟨m1,e1⟩:=I.base.tbls b ps e
  obtain ⟨m2,e2⟩:=tbls b _ e1
  exact ⟨m1 ++ m2,by rw [e2,Array.append_assoc]⟩
 ·obtain ⟨m,hn,hl⟩:=I.loc
  refine ⟨m,ns m hn,fun i x v e1 e2 e3=>?_⟩
  obtain ⟨u,r,l⟩:=hl i x v e1 e2 e3
  refine ⟨u,r,?_⟩
  rcases l with l | ⟨k,c,e,z⟩
  ·exact .inl l
  ·exact .inr ⟨k,c,e,cellK x c e _ z⟩
 ·obtain ⟨v,z⟩:=I.cell x c e
  exact ⟨v,cellK x c e v z⟩
 ·obtain ⟨m,⟨o,_,_,ho,_⟩,_⟩:=I.loc
  exact free _ o (fun z=>(hch _ z).2.1 rfl) ho I.free
 ·obtain ⟨v,o,ho,hd⟩:=I.cell x c e
  exact free c o (fun z=>(hch c z).2.2.1 x c e rfl) ho (I.freeC x c e)
 ·obtain ⟨e,n,ne,nf,d⟩:=I.pin p hp
  have nch:p.1 ∉ ch:=fun z=>(hch p.1 z).2.2.2 p hp rfl
  exact ⟨keep p.1 p.2 ne nf nch e n,free p.1 p.2 nch e n,ne,nf,d⟩
theorem Inv.un {t':Nat} (I:Inv X pins σ H s) (u:Un X.fs [] H H' s.heap h') (hok:HOk X.prog X.w H' h'):Inv X pins σ H' { s with heap:=h',toks:=t' }:=by
 obtain ⟨m,⟨o,es,ep,ho,r⟩,_⟩:=id I.loc
 obtain ⟨sl,hL⟩:=u.any ho I.free (by simp)
 exact I.step (g':=s.gens) (d':=s.drawn) (ch:=[]) (fun _ z=>nomatch z) (fun b o _ hb _ e n=>u.keep b o e n hb (by simp)) (fun b o _ hb _ e n=>u.slot b o e n hb (by simp)) (fun b o _ e n=>u.free b o e n (by simp)) (fun b o _ e=>u.there b o e (by simp)) u.tups u.frzs u.tbls (fun m' hm=>by
  obtain ⟨o',es',ep',ho',r'⟩:=hm
  rw [ho] at ho'; cases ho'
  exact ⟨_,es',ep',hL,r'⟩) hok I.bare
theorem Inv.call {g':Array GenState} {t':Nat} {d':Drawn} {ch:List Addr} (I:Inv X pins σ H s) (u:Un (frs X.stack) ch H H' s.heap h') (hok:HOk X.prog X.w H' h') (hg:AllBare g')
  (hch:∀ b ∈ ch,(b ∈ X.ex ∨ X.s₀.heap.objs.size ≤ b) ∧ b ≠ X.env.locals ∧ (∀ x c,X.env.cells.lookup x = some c → c ≠ b) ∧ ∀ p ∈ X.pn ++ pins,p.1 ≠ b) :
  Inv X pins σ H' { s with heap:=h',gens:=g',drawn:=d',toks:=t' }:=by
 obtain ⟨m,⟨o,es,ep,ho,r⟩,_⟩:=id I.loc
 obtain ⟨sl,hL⟩:=u.any ho I.free fun z=>(hch _ z).2.1 rfl
 exact I.step (ch:=ch) hch (fun b o hL hb hc e n=>u.keep b o e n (fun z=>(List.mem_cons.mp (I.stkSub b z)).elim hL hb) hc) (fun b o _ _ hc e n=>u.any e n hc) (fun b o hc e n=>u.free b o e n hc) (fun b o hc e=>u.there b o e hc) u.tups u.frzs u.tbls (fun m' hm=>by
  obtain ⟨o',es',ep',ho',r'⟩:=hm
  rw [ho] at ho'; cases ho'
  exact ⟨_,es',ep',hL,r'⟩) hok hg
theorem Inv.turned {t':Nat} {it:Addr} (I:Inv X pins σ H s) (k:∀ b o,b ≠ it → s.heap.get? b = some o → h'.get? b = some o) (hn:H it = none) (hL:it ≠ X.env.locals)
  (h1:it ∈ X.ex ∨ X.s₀.heap.objs.size ≤ it) (h2:∀ x c,X.env.cells.lookup x = some c → c ≠ it) (h3:∀ p ∈ X.pn ++ pins,p.1 ≠ it):Inv X pins σ H { s with heap:=h',toks:=t' }:=by
 have nit:∀ b u,H b = some u → b ≠ it:=fun b u e z=>by rw [z,hn] at e; cases e
 refine I.step (g':=s.gens) (d':=s.drawn) (ch:=[it]) (fun b hb=>?_) (fun b o _ _ hc e _=>k b o (fun z=>hc (by simp [z])) e) (fun b o _ _ hc e _=>⟨o.slots,k b o (fun z=>hc (by simp [z])) e⟩) (fun _ _ _ _ n=>n)
  (fun b o hc e=>⟨o,k b o (fun z=>hc (by simp [z])) e⟩) (fun _ _ e=>e) (fun _ _ _ e=>e) (fun b ps e=>⟨#[],by rw [e]; simp⟩) (fun m hm=>?_) (fun b u e=>?_) I.bare
 ·have e:b = it:=by simpa using hb
  subst e
  exact ⟨h1,hL,h2,h3⟩
 ·obtain ⟨o,es,ep,ho,r⟩:=hm
  exact ⟨o,es,ep,k _ o (Ne.symm hL) ho,r⟩
 ·refine (I.hok b u e).stay (fun c v hc q=>k c v ?_ q) (fun _ q=>q) fun _ _ q=>q
  rcases hc with z | z
  ·rw [z]; exact nit b u e
  ·exact nit c _ z
theorem Inv.tok (I:Inv X pins σ H s) (t:Nat):Inv X pins σ H { s with toks:=t }:=I.un (h':=s.heap) (t':=t) Un.refl I.hok
theorem Inv.kept {t':Nat} (I:Inv X pins σ H s) (k:∀ b u,s.heap.get? b = some u → h'.get? b = some u):Inv X pins σ H { s with heap:=h',toks:=t' }:=I.un (Un.kept k) (I.hok.kept k)
theorem Inv.laid {a:Addr} {o:HO} {t':Nat} (I:Inv X pins σ H s) (k:∀ b u,s.heap.get? b = some u → h'.get? b = some u) (hp:s.heap.objs.size ≤ a) (new:w6 X.prog X.w (upd H a o) h' a o) :
  Inv X pins σ (upd H a o) { s with heap:=h',toks:=t' }:=I.un (Un.laid k hp (I.hok.fresh hp)) (I.hok.laid k hp new)
theorem Inv.write {x e:Addr} {o:HO} {t':Nat} (I:Inv X pins σ H s) (mu:Mut (H x)) (he:e = x ∨ H e = some (.own x)) (k:∀ b u,b ≠ e → s.heap.get? b = some u → h'.get? b = some u) (heo:∃ u,h'.get? e = some u)
  (new:w6 X.prog X.w (upd H x o) h' x o):Inv X pins σ (upd H x o) { s with heap:=h',toks:=t' }:=I.un (Un.write mu he k heo) (I.hok.write mu he k heo new)
theorem Inv.pins_of {pins':List (Addr × Obj)} (I:Inv X pins σ H s) (h:∀ p ∈ pins',s.heap.get? p.1 = some p.2 ∧ H p.1 = none ∧ p.1 ≠ X.env.locals ∧ p.1 ∉ X.fs ∧ ∀ v,p.2.data ≠ .cell v):Inv X pins' σ H s :=
 ⟨I.ok,I.os,I.bare,I.base,I.loc,I.cell,I.free,I.freeC,fun p hp=>(List.mem_append.mp hp).elim (fun z=>I.pin p (List.mem_append_left _ z)) (h p),I.hok,I.len⟩
theorem ah2 {N:List Str} (hN:N.Nodup) {i j:Nat} {x:Str} (a:N[i]? = some x) (b:N[j]? = some x):i = j:=by
 obtain ⟨h1,e1⟩:=List.getElem?_eq_some_iff.mp a
 obtain ⟨h2,e2⟩:=List.getElem?_eq_some_iff.mp b
 exact (List.getElem_inj hN).mp (e1.trans e2.symm)
theorem am4 {M:Model} {A:Around} {E:Value → Shared → Prop} {i:Nat} {x:Str} {v:V} {u:Value} {Q:Unit → Shared → Prop} (I:Inv X pins σ H s) (hN:X.N.Nodup) (hi:X.N[i]? = some x) (hx:Loc X.env.scope x) (r:x8 v u)
  (h:∀ s',Inv X pins (σ.set i (some v)) H s' → (∃ a,Heap.SameBut a s.heap s'.heap ∧ (a = X.env.locals ∨ X.env.cells.lookup x = some a)) → Q () s') (hf:X.fn x = true ∨ X.env.scope.names.lookup x = some .local:=by first | exact .inl rfl | exact .inr rfl | assumption):wpAny M A (storeName X.env x u) Q E s:=by
 obtain ⟨m,hn,hl⟩:=id I.loc
 have hcls:(X.env.scope.kind == .class || (X.env.scope.kind == .module && X.env.locals != X.env.globals)) = false:=by rw [I.ok.kind]; rfl
 have hiσ:i < σ.length:=by rw [I.len]; exact (List.getElem?_eq_some_iff.mp hi).1
 have cne:=I.cne
 have tracked:∀ {a:Addr} {h':Heap},(∃ o,s.heap.get? a = some o ∧ H a = none) → Heap.SameBut a s.heap h' → HOk X.prog X.w H h':=fun {a h'} ha hs b ob e=>by
  obtain ⟨_,_,hfree⟩:=ha
  refine (I.hok b ob e).stay (fun c w' hc q=>(hs.2 c ?_).trans q) (fun _ q=>q) fun _ _ q=>q
  rintro rfl
  rcases hc with rfl | hc
  ·rw [hfree] at e; cases e
  ·rw [hfree] at hc; cases hc
 rcases hx with hk | hk
 ·refine wpAny_storeName_local hk hn (fun h' hn' hs=>?_) hcls
  obtain ⟨oL,_,_,hoL,_⟩:=id hn
  refine h _ ⟨I.ok,I.os,I.bare,⟨fun b o e n hb hx=>?_,fun b o e n hb hx=>?_,I.base.free,fun b o e hx=>?_,I.base.tups,I.base.frzs,I.base.tbls⟩,⟨_,hn',fun j y v' e1 e2 e3=>?_⟩,fun y c e=>?_,I.free,I.freeC,fun p hp=>?_,tracked ⟨oL,hoL,I.free⟩ hs,by simpa using I.len⟩ ⟨_,hs,.inl rfl⟩
  ·exact (hs.2 b (Nat.ne_of_lt (Nat.lt_of_lt_of_le (Heap.lt_size e) I.ok.above))).trans (I.base.keep b o e n hb hx)
  ·obtain ⟨sl,e1⟩:=I.base.slot b o e n hb hx
   exact ⟨sl,(hs.2 b (Nat.ne_of_lt (Nat.lt_of_lt_of_le (Heap.lt_size e) I.ok.above))).trans e1⟩
  ·obtain ⟨o',e1⟩:=I.base.there b o e hx
   exact ⟨o',(hs.2 b (Nat.ne_of_lt (Nat.lt_of_lt_of_le (Heap.lt_size e) I.ok.above))).trans e1⟩
  ·by_cases hj:j = i
   ·subst hj
    rw [hi] at e1; cases e1
    rw [List.getElem?_set_self hiσ] at e2
    cases e2
    exact ⟨u,r,.inl ⟨hk,by simp⟩⟩
   ·rw [List.getElem?_set_ne (Ne.symm hj)] at e2
    obtain ⟨u',r',q⟩:=hl j y v' e1 e2 e3
    refine ⟨u',r',?_⟩
    rcases q with ⟨k,e⟩ | ⟨k,c,e,z⟩
    ·refine .inl ⟨k,?_⟩
     have:y ≠ x:=fun e=>hj (ah2 hN e1 (e ▸ hi))
     simp [this,e]
    ·exact .inr ⟨k,c,e,z.sameBut hs (cne y c e)⟩
  ·obtain ⟨w',z⟩:=I.cell y c e
   exact ⟨w',z.sameBut hs (cne y c e)⟩
  ·obtain ⟨e,n,ne,nf,d⟩:=I.pin p hp
   exact ⟨(hs.2 p.1 ne).trans e,n,ne,nf,d⟩
 ·have hfn:X.fn x = true:=by
   rcases hf with z | z
   ·exact z
   ·rw [z] at hk; cases hk
  obtain ⟨c,hc⟩:=I.ok.has x (.inl hk)
  obtain ⟨w',z⟩:=I.cell x c hc
  refine wpAny_storeName_cell I.ok.kind hk hc z (fun h' hc' hs=>?_)
  obtain ⟨oc,hoc,hocd⟩:=id z
  refine h { s with heap:=h' } ⟨I.ok,I.os,I.bare,⟨fun b o e n hb hx=>?_,fun b o e n hb hx=>?_,I.base.free,fun b o e hx=>?_,I.base.tups,I.base.frzs,I.base.tbls⟩,⟨m,hn.sameBut hs (Ne.symm (cne x c hc)),fun j y v' e1 e2 e3=>?_⟩,fun y c' e=>?_,I.free,I.freeC,fun p hp=>?_,tracked ⟨oc,hoc,I.freeC x c hc⟩ hs,by simpa using I.len⟩ ⟨c,hs,.inr hc⟩
  ·exact (hs.2 b (Nat.ne_of_lt (Nat.lt_of_lt_of_le (Heap.lt_size e) (I.ok.cab x c hfn hc)))).trans (I.base.keep b o e n hb hx)
  ·obtain ⟨sl,e1⟩:=I.base.slot b o e n hb hx
   exact ⟨sl,(hs.2 b (Nat.ne_of_lt (Nat.lt_of_lt_of_le (Heap.lt_size e) (I.ok.cab x c hfn hc)))).trans e1⟩
  ·obtain ⟨o',e1⟩:=I.base.there b o e hx
   exact ⟨o',(hs.2 b (Nat.ne_of_lt (Nat.lt_of_lt_of_le (Heap.lt_size e) (I.ok.cab x c hfn hc)))).trans e1⟩
  ·by_cases hj:j = i
   ·subst hj
    rw [hi] at e1; cases e1
    rw [List.getElem?_set_self hiσ] at e2
    cases e2
    exact ⟨u,r,.inr ⟨.inl hk,c,hc,hc'⟩⟩
   ·rw [List.getElem?_set_ne (Ne.symm hj)] at e2
    obtain ⟨u',r',q⟩:=hl j y v' e1 e2 e3
    refine ⟨u',r',?_⟩
    rcases q with q | ⟨k,c',e,z'⟩
    ·exact .inl q
    ·refine .inr ⟨k,c',e,z'.sameBut hs ?_⟩
     rintro rfl
     exact hj (ah2 hN e1 (I.ok.inj _ _ _ e hc ▸ hi))
  ·by_cases hcc:c' = c
   ·subst hcc; exact ⟨_,hc'⟩
   ·obtain ⟨w2,z2⟩:=I.cell y c' e
    exact ⟨w2,z2.sameBut hs hcc⟩
  ·obtain ⟨e,n,ne,nf,d⟩:=I.pin p hp
   refine ⟨(hs.2 p.1 ?_).trans e,n,ne,nf,d⟩
   intro q
   rw [q,hoc] at e
   have q':oc = p.2:=Option.some.inj e
   exact d w' (by rw [← q']; exact hocd)
theorem ag8 {M:Model} {A:Around} {E:Value → Shared → Prop} {i:Nat} {x:Str} {v:V} {u:Value} {Q:Unit → Shared → Prop} (I:Inv X pins σ H s) (hN:X.N.Nodup) (hi:X.N[i]? = some x) (hx:Loc X.env.scope x) (r:x8 v u)
  (h:∀ s',Inv X pins (σ.set i (some v)) H s' → Q () s') (hf:X.fn x = true ∨ X.env.scope.names.lookup x = some .local:=by first | exact .inl rfl | exact .inr rfl | assumption):wpAny M A (storeName X.env x u) Q E s :=
 am4 I hN hi hx r (fun s' I' _=>h s' I') hf
theorem Inv.call' {s':Shared} {ch:List Addr} (I:Inv X pins σ H s) (ho:s'.os = s.os) (u:Un (frs X.stack) ch H H' s.heap s'.heap) (hok:HOk X.prog X.w H' s'.heap) (hg:AllBare s'.gens)
  (hch:∀ b ∈ ch,(b ∈ X.ex ∨ X.s₀.heap.objs.size ≤ b) ∧ b ≠ X.env.locals ∧ (∀ x c,X.env.cells.lookup x = some c → c ≠ b) ∧ ∀ p ∈ X.pn ++ pins,p.1 ≠ b):Inv X pins σ H' s':=by
 obtain ⟨h',g',d',t',o'⟩:=s'
 have e:o' = s.os:=ho
 subst e
 exact I.call (g':=g') (t':=t') (d':=d') u hok hg hch
end
abbrev XK:=Value → Option Addr → Hp → Prop
abbrev St:=List (Option V)
abbrev VK:=V → Hp → Prop
abbrev TE:=St → Hp → VK → Prop
abbrev TT:=St → Hp → (Bool → Hp → Prop) → Prop
abbrev TA:=St → Hp → (List V → Hp → Prop) → Prop
structure Ends where
 nx:St → Hp → Prop
 rt:VK
 bk:St → Hp → Prop:=fun _ _=>False
 ct:St → Hp → Prop:=fun _ _=>False
abbrev TS:=Ends → St → Hp → Prop
def EP (X:Cx) (pins:List (Addr × Obj)) (σ:St) (Q:VK) (u:Value) (s':Shared):Prop:=∃ v H',Inv X pins σ H' s' ∧ x8 v u ∧ Q v H'
def TP (X:Cx) (pins:List (Addr × Obj)) (σ:St) (Q:Bool → Hp → Prop) (b:Bool) (s':Shared):Prop:=∃ H',Inv X pins σ H' s' ∧ Q b H'
def AP (X:Cx) (pins:List (Addr × Obj)) (σ:St) (Q:List V → Hp → Prop) (us:List Value) (s':Shared):Prop:=∃ vs H',Inv X pins σ H' s' ∧ u0 vs us ∧ Q vs H'
def SP (X:Cx) (pins:List (Addr × Obj)) (D:Ends) (f:Flow) (s':Shared):Prop :=
 match f with
 | .next=>∃ σ' H',Inv X pins σ' H' s' ∧ D.nx σ' H'
 | .brk=>∃ σ' H',Inv X pins σ' H' s' ∧ D.bk σ' H'
 | .cont=>∃ σ' H',Inv X pins σ' H' s' ∧ D.ct σ' H'
 | .ret u=>∃ v σ' H',Inv X pins σ' H' s' ∧ x8 v u ∧ D.rt v H'
def PE (X:Cx) (e:Expr) (t:TE):Prop :=
 ∀ (pins:List (Addr × Obj)) (s:Shared) (σ:St) (H:Hp) (Q:VK),Inv X pins σ H s → t σ H Q → wpAny (model X.prog X.w) X.A (eval e X.env) (EP X pins σ Q) X.xe s
def PT (X:Cx) (e:Expr) (t:TT):Prop :=
 ∀ (pins:List (Addr × Obj)) (s:Shared) (σ:St) (H:Hp) (Q:Bool → Hp → Prop),Inv X pins σ H s → t σ H Q → wpAny (model X.prog X.w) X.A (isTrue e X.env (eval e X.env)) (TP X pins σ Q) X.xe s
def PW (X:Cx) (e:Expr) (t:TT):Prop :=
 ∀ (whole:Sem Value) (pins:List (Addr × Obj)) (s:Shared) (σ:St) (H:Hp) (Q:Bool → Hp → Prop),Inv X pins σ H s → t σ H Q → wpAny (model X.prog X.w) X.A (isTrue e X.env whole) (TP X pins σ Q) X.xe s
theorem PW.pt {X:Cx} {e:Expr} {t:TT} (h:PW X e t):PT X e t:=h _
def PA (X:Cx) (es:List Expr) (t:TA):Prop :=
 ∀ (pos:Pos) (pins:List (Addr × Obj)) (s:Shared) (σ:St) (H:Hp) (Q:List V → Hp → Prop),Inv X pins σ H s → t σ H Q → wpAny (model X.prog X.w) X.A (spliced (backTo pos (starEach es X.env))) (AP X pins σ Q) X.xe s
def PS (X:Cx) (st:Stmt) (t:TS):Prop :=
 ∀ (pins:List (Addr × Obj)) (s:Shared) (σ:St) (H:Hp) (D:Ends),Inv X pins σ H s → t D σ H → wpAny (model X.prog X.w) X.A (exec st X.env) (SP X pins D) X.xe s
def PSs (X:Cx) (st:List Stmt) (t:TS):Prop :=
 ∀ (pins:List (Addr × Obj)) (s:Shared) (σ:St) (H:Hp) (D:Ends),Inv X pins σ H s → t D σ H → wpAny (model X.prog X.w) X.A (execs st X.env) (SP X pins D) X.xe s
theorem thn {α:Type} {t:Sem α} {Q Q':α → Shared → Prop} {M:Model} {A:Around} {E:Value → Shared → Prop} {s:Shared} (h:wpAny M A t Q E s) (hQ:∀ a s,Q a s → Q' a s):wpAny M A t Q' E s:=wpAny_mono h hQ fun _ _ x=>x
end L2
namespace L2
open PySem PySem.Spec PyProof.Rows
section
variable {X:Cx}
theorem bin {a b:Expr} {ta tb:TE} (ha:PE X a ta) (hb:PE X b tb) {pins:List (Addr × Obj)} {s:Shared} {σ:St} {H:Hp} {R:V → V → Hp → Prop} (I:Inv X pins σ H s) (h:ta σ H fun x H1=>tb σ H1 fun y H2=>R x y H2)
  {α:Type} {Q:α → Shared → Prop} {f:Value → Value → Sem α}
  (hf:∀ v u s2 x y H2,Inv X pins σ H2 s2 → x8 x v → x8 y u → R x y H2 → wpAny (model X.prog X.w) X.A (f v u) Q X.xe s2) :
  wpAny (model X.prog X.w) X.A (eval a X.env) (fun v s₁=>wpAny (model X.prog X.w) X.A (eval b X.env) (fun u s₂=>wpAny (model X.prog X.w) X.A (f v u) Q X.xe s₂) X.xe s₁) X.xe s:=by
 refine thn (ha pins s σ H _ I h) fun v s1 ⟨x,H1,I1,r1,q1⟩=>?_
 refine thn (hb pins s1 σ H1 _ I1 q1) fun u s2 ⟨y,H2,I2,r2,q2⟩=>?_
 exact hf v u s2 x y H2 I2 r1 r2 q2
def be7 (i:Nat):TE:=fun σ H Q=>∃ v,σ[i]? = some (some v) ∧ Q v H
def tC (v:V):TE:=fun _ H Q=>Q v H
theorem a94 {i:Nat} {x:Str} {pos:Pos} (hN:X.N[i]? = some x) (hv:Vis X.env.scope x) (hd:(x == ("__debug__":Str)) = false:=by decide) (hcd:(x == ("__classdict__":Str)) = false:=by decide):PE X (.Name x pos) (be7 i):=by
 intro pins s σ H Q I h
 obtain ⟨v,e,h⟩:=h
 obtain ⟨m,hn,hl⟩:=I.loc
 obtain ⟨u,r,l⟩:=hl i x v hN e hv
 have fin:EP X pins σ Q u s:=⟨v,H,I,r,h⟩
 rcases l with ⟨hk,hm⟩ | ⟨hk,c,hc,hcell⟩
 ·exact wpAny_Name (wpAny_loadName_local I.ok.kind hk hn hm fin) hd
 ·rcases hk with hk | hk
  ·exact wpAny_Name (wpAny_loadName_cell I.ok.kind hk hc hcell fin) hd
  ·exact wpAny_Name (wpAny_loadName_free I.ok.kind hk hc hcell fin hcd) hd
theorem i0 {i j pos}:PE X (.Constant (.int i) j pos) (tC (.int i)):=fun _ _ _ H _ I h=>wpAny_Constant_int ⟨.int i,H,I.tok _,⟨_,rfl⟩,h⟩
theorem z5 {b j pos}:PE X (.Constant (.bool b) j pos) (tC (.bl b)):=fun _ _ _ H _ I h=>Constant_bool ⟨.bl b,H,I,rfl,h⟩
theorem y6 {j pos}:PE X (.Constant .none j pos) (tC .non):=fun _ _ _ H _ I h=>Constant_none ⟨.non,H,I,rfl,h⟩
theorem O6 {x j pos}:PE X (.Constant (.str x) j pos) (tC (.str x)):=fun _ _ _ H _ I h=>Calls.Constant_str ⟨.str x,H,I.tok _,⟨_,rfl⟩,h⟩
def Gl (X:Cx) (x:Str):Prop:=X.env.kindOf x = some .globalImplicit
theorem P5 {E:Value → Shared → Prop} {pins:List (Addr × Obj)} {s:Shared} {σ:St} {H:Hp} {x:Str} {u:Value} {pos:Pos} {Q:Value → Shared → Prop} (I:Inv X pins σ H s) (hg:Gl X x) (hm:X.mg x = some u) (h:Q u s)
  (hd:(x == ("__debug__":Str)) = false:=by decide):wpAny (model X.prog X.w) X.A (eval (.Name x pos) X.env) Q E s :=
 Calls.Name_function_global I.ok.kind hg (Calls.loadGlobal_global (by rw [I.ok.glob]; exact I.mod.glob.keeps I.bk) hm h) hd
theorem ab9 {E:Value → Shared → Prop} {pins:List (Addr × Obj)} {s:Shared} {σ:St} {H:Hp} {x:Str} {u:Value} {pos:Pos} {Q:Value → Shared → Prop} (I:Inv X pins σ H s) (hg:Gl X x) (hm:X.mg x = none) (hv:bootBuiltins x = some u) (h:Q u s)
  (hn:x ≠ "__name__":=by decide) (hd:(x == ("__debug__":Str)) = false:=by decide):wpAny (model X.prog X.w) X.A (eval (.Name x pos) X.env) Q E s:=by
 obtain ⟨mb,h1,h2⟩:=I.mod.blt
 exact Calls.Name_function_global I.ok.kind hg (Calls.loadGlobal_builtin (by rw [I.ok.glob]; exact I.mod.glob.keeps I.bk) hm (by rw [I.ok.blt]; exact h1.keeps I.bk) ((h2 x hn).trans hv) h) hd
theorem N5 {x:Str} {v:V} {u:Value} {pos:Pos} (hg:Gl X x) (hm:X.mg x = some u) (r:x8 v u) (hd:(x == ("__debug__":Str)) = false:=by decide):PE X (.Name x pos) (tC v) :=
 fun _ _ _ H _ I h=>P5 I hg hm ⟨v,H,I,r,h⟩ hd
theorem n6 {x:Str} {v:V} {u:Value} {pos:Pos} (hg:Gl X x) (hm:X.mg x = none) (hv:bootBuiltins x = some u) (r:x8 v u) (hn:x ≠ "__name__":=by decide) (hd:(x == ("__debug__":Str)) = false:=by decide):PE X (.Name x pos) (tC v) :=
 fun _ _ _ H _ I h=>ab9 I hg hm hv ⟨v,H,I,r,h⟩ hn hd
variable {a b:Expr} {ta tb:TE} {pos:Pos}
def PC (X:Cx) (op:CmpOp) (a b:Expr) (t:TE):Prop :=
 ∀ (pins:List (Addr × Obj)) (s:Shared) (σ:St) (H:Hp) (Q:VK),Inv X pins σ H s → t σ H Q →
  wpAny (model X.prog X.w) X.A (eval a X.env) (fun v s₁=>wpAny (model X.prog X.w) X.A (eval b X.env) (fun u s₂=>wpAny (model X.prog X.w) X.A (compareOp op v u) (EP X pins σ Q) X.xe s₂) X.xe s₁) X.xe s
def tB (t:TE):TT:=fun σ H Q=>t σ H fun x H1=>∃ c,x = .bl c ∧ Q c H1
theorem a_9 {op:CmpOp} {t:TE} (h:PC X op a b t) (h1:behindInMarks op b = false:=by first | exact nobehind _ (by decide) (by decide) | rfl):PT X (.Compare a [op] [b] pos) (tB t):=by
 intro pins s σ H Q I hw
 refine wpAny_isTrue_Compare1 (thn (h pins s σ H _ I hw) fun v s1 h1=>thn h1 fun u s2 h2=>thn h2 fun c s3 ⟨x,H1,I1,r1,q1⟩=>?_) h1
 obtain ⟨d,rfl,q⟩:=q1
 cases r1
 exact wpAny_truthy_bool ⟨H1,I1,q⟩
variable {tA tB':TT} {rest:List Expr}
def bh8 (t u:TT):TT:=fun σ H Q=>t σ H fun c H1=>if c = true then u σ H1 Q else Q false H1
def tOr (t u:TT):TT:=fun σ H Q=>t σ H fun c H1=>if c = true then Q true H1 else u σ H1 Q
def bg8 (t:TT):TT:=fun σ H Q=>t σ H fun c H1=>Q (!c) H1
theorem af0 (ha:PT X a tA):PW X (.BoolOp .And [a] pos) tA:=by
 intro wh pins s σ H Q I h
 refine isTrue_and (thn (ha pins s σ H Q I h) fun c s1 e=>?_)
 cases c with
 | true=>exact isTrue_and_nil e
 | false=>exact e
theorem D6 (ha:PT X a tA):PW X (.BoolOp .Or [a] pos) tA:=by
 intro wh pins s σ H Q I h
 refine isTrue_or (thn (ha pins s σ H Q I h) fun c s1 e=>?_)
 cases c with
 | false=>exact isTrue_or_nil e
 | true=>exact e
theorem as9 (ha:PT X a tA) (hb:PW X (.BoolOp .And (b :: rest) pos) tB'):PW X (.BoolOp .And (a :: b :: rest) pos) (bh8 tA tB'):=by
 intro wh pins s σ H Q I h
 refine isTrue_and (thn (ha pins s σ H _ I h) fun c s1 ⟨H1,I1,q1⟩=>?_)
 cases c with
 | true=>exact hb wh pins s1 σ H1 Q I1 q1
 | false=>exact ⟨H1,I1,q1⟩
theorem E7 (ha:PT X a tA) (hb:PW X (.BoolOp .Or (b :: rest) pos) tB'):PW X (.BoolOp .Or (a :: b :: rest) pos) (tOr tA tB'):=by
 intro wh pins s σ H Q I h
 refine isTrue_or (thn (ha pins s σ H _ I h) fun c s1 ⟨H1,I1,q1⟩=>?_)
 cases c with
 | true=>exact ⟨H1,I1,q1⟩
 | false=>exact hb wh pins s1 σ H1 Q I1 q1
theorem y0 (ha:PT X a tA):PT X (.UnaryOp .Not a pos) (bg8 tA):=by
 intro pins s σ H Q I h
 exact isTrue_not (ha pins s σ H (fun c H1=>Q (!c) H1) I h)
def bc4 (ta tb:TE):TE:=fun σ H Q=>ta σ H fun x H1=>∃ c,x = .bl c ∧ if c = true then tb σ H1 Q else Q (.bl false) H1
def bc3 (ta:TE):TE:=fun σ H Q=>ta σ H fun x H1=>∃ c,x = .bl c ∧ Q (.bl (!c)) H1
theorem X6 {op} {t:TE} (h:PE X a t):PE X (.BoolOp op [a] pos) t:=fun pins s σ H Q I hw=>BoolOp_one (h pins s σ H Q I hw)
theorem P9 (ha:PE X a ta) (hb:PE X (.BoolOp .And (b :: rest) pos) tb):PE X (.BoolOp .And (a :: b :: rest) pos) (bc4 ta tb):=by
 intro pins s σ H Q I h
 refine BoolOp_and (thn (ha pins s σ H _ I h) fun v s1 ⟨x,H1,I1,r1,q1⟩=>?_)
 obtain ⟨c,rfl,q1⟩:=q1
 cases r1
 refine wpAny_truthy_bool ?_
 cases c with
 | true=>exact hb pins s1 σ H1 Q I1 q1
 | false=>exact ⟨.bl false,H1,I1,rfl,q1⟩
theorem Y4 (ha:PE X a ta):PE X (.UnaryOp .Not a pos) (bc3 ta):=by
 intro pins s σ H Q I h
 refine UnaryOp_ (thn (ha pins s σ H _ I h) fun v s1 ⟨x,H1,I1,r1,q1⟩=>?_)
 obtain ⟨c,rfl,q1⟩:=q1
 cases r1
 exact not_of (wpAny_truthy_bool ⟨.bl (!c),H1,I1,rfl,q1⟩)
def tIf (t:TT) (ta tb:TE):TE:=fun σ H Q=>t σ H fun c H1=>if c = true then ta σ H1 Q else tb σ H1 Q
theorem ah7 {c:Expr} (hc:PT X c tA) (ha:PE X a ta) (hb:PE X b tb):PE X (.IfExp c a b pos) (tIf tA ta tb):=by
 intro pins s σ H Q I h
 refine wpAny_IfExp (thn (hc pins s σ H _ I h) fun d s1 ⟨H1,I1,q1⟩=>?_)
 cases d with
 | true=>exact ha pins s1 σ H1 Q I1 q1
 | false=>exact hb pins s1 σ H1 Q I1 q1
end
end L2
namespace L2
open PySem PySem.Spec PyProof.Rows
def SqL (K:PySem.W.Frag) (H:Hp) (a:Addr) (xs:List V):Prop :=
 Rd H a (.lst xs) ∨
  ∃ (o:Obj) (its:Array Value) (n:Nat),K.lookup a = some o ∧ o.cls = .type "list" ∧ o.dict = none ∧ o.data = .seq its n ∧ its.size ≤ sizeLine ∧ u0 xs its.toList
def SqT (K:PySem.W.Frag) (H:Hp) (a:Addr) (xs:List V):Prop :=
 Rd H a (.tup xs) ∨
  ∃ (o:Obj) (its:Array Value) (n:Nat),K.lookup a = some o ∧ o.cls = .type "tuple" ∧ o.data = .seq its n ∧ its.size ≤ sizeLine ∧ u0 xs its.toList
def bg5:Value → Option V
 | .none=>some .non
 | .bool b=>some (.bl b)
 | .int i _=>some (.int i)
 | .str x _=>some (.str x)
 | .bytes b _=>some (.byt b)
 | .float b _=>some (.flt b)
 | .ref a=>some (.ref a)
 | .type n=>some (.ty n)
 | _=>none
theorem x8.abs {x:V} {u:Value} (r:x8 x u):bg5 u = some x:=by
 cases x with
 | non=>cases r; rfl
 | bl _=>cases r; rfl
 | int _=>obtain ⟨t,rfl⟩:=r; rfl
 | str _=>obtain ⟨t,rfl⟩:=r; rfl
 | byt _=>obtain ⟨t,rfl⟩:=r; rfl
 | flt _=>obtain ⟨t,rfl⟩:=r; rfl
 | ref _=>cases r; rfl
 | ty _=>cases r; rfl
theorem x8.inj {x y:V} {u:Value} (r:x8 x u) (q:x8 y u):x = y:=Option.some.inj (r.abs.symm.trans q.abs)
theorem u0.inj:∀ {xs ys:List V} {us:List Value},u0 xs us → u0 ys us → xs = ys
 | _,_,_,.nil,.nil=>rfl
 | _,_,_,.cons r t,.cons r' t'=>by rw [r.inj r',u0.inj t t']
section
variable {X:Cx} {pins:List (Addr × Obj)} {σ:St} {H:Hp} {s:Shared} {a:Addr} {xs ys:List V}
theorem SqL.of {K:PySem.W.Frag} (h:H a = some (.lst xs)):SqL K H a xs:=.inl (.inl h)
theorem SqT.of {K:PySem.W.Frag} (h:H a = some (.tup xs)):SqT K H a xs:=.inl (.inl h)
theorem Inv.list (I:Inv X pins σ H s) (h:SqL X.K H a xs):∃ its:List Value,u0 xs its ∧ PlainL s.heap a its.toArray ∧ xs.length ≤ sizeLine:=by
 rcases h with h | ⟨o,its,n,hk,hc,hd,hs,hz,r⟩
 ·obtain ⟨z,its,n,r,e⟩:=h.ok I.hok
  exact ⟨its,r,⟨_,n,e,rfl,rfl,rfl⟩,z⟩
 ·refine ⟨its.toList,r,⟨o,n,I.kIn a o hk,hc,hd,by simpa using hs⟩,?_⟩
  have e:=r.length
  simp only [Array.length_toList] at e
  lia
theorem Inv.tuple (I:Inv X pins σ H s) (h:SqT X.K H a xs):∃ its:List Value,u0 xs its ∧ IsTup s.heap a its.toArray ∧ xs.length ≤ sizeLine:=by
 rcases h with h | ⟨o,its,n,hk,hc,hs,hz,r⟩
 ·obtain ⟨z,its,r,p⟩:=h.ok I.hok
  exact ⟨its,r,p,z⟩
 ·refine ⟨its.toList,r,⟨o,I.kIn a o hk,hc,n,by simpa using hs⟩,?_⟩
  have e:=r.length
  simp only [Array.length_toList] at e
  lia
theorem Inv.list_inj (I:Inv X pins σ H s) (h:SqL X.K H a xs) (h':SqL X.K H a ys):xs = ys:=by
 obtain ⟨its,r,⟨o,n,e,_,_,d⟩,_⟩:=I.list h
 obtain ⟨its',r',⟨o',n',e',_,_,d'⟩,_⟩:=I.list h'
 rw [e] at e'; cases e'
 rw [d] at d'
 injection d' with d1 _
 have:its = its':=by simpa using congrArg Array.toList d1
 subst this
 exact r.inj r'
theorem Inv.tuple_inj (I:Inv X pins σ H s) (h:SqT X.K H a xs) (h':SqT X.K H a ys):xs = ys:=by
 obtain ⟨its,r,⟨o,e,_,n,d⟩,_⟩:=I.tuple h
 obtain ⟨its',r',⟨o',e',_,n',d'⟩,_⟩:=I.tuple h'
 rw [e] at e'; cases e'
 rw [d] at d'
 injection d' with d1 _
 have:its = its':=by simpa using congrArg Array.toList d1
 subst this
 exact r.inj r'
end
abbrev Cx.wish (X:Cx) (E:Value → Shared → Prop):Cx:={ X with xe:=E }
abbrev Cx.nox (X:Cx):Cx:=X.wish fun _ _=>False
theorem Cx.Ok.wish {X:Cx} (ok:X.Ok) (E:Value → Shared → Prop):(X.wish E).Ok :=
 ⟨ok.mod,ok.kind,ok.glob,ok.blt,ok.above,ok.inj,ok.has,ok.cab,ok.hd,ok.frames,ok.stk,ok.exf,ok.bs,ok.bsz,ok.noex,ok.exfs,ok.funs,ok.frf⟩
theorem Cx.Ok.unwish {X:Cx} {E:Value → Shared → Prop} (ok:(X.wish E).Ok):X.Ok :=
 ⟨ok.mod,ok.kind,ok.glob,ok.blt,ok.above,ok.inj,ok.has,ok.cab,ok.hd,ok.frames,ok.stk,ok.exf,ok.bs,ok.bsz,ok.noex,ok.exfs,ok.funs,ok.frf⟩
section
variable {X:Cx} {pins:List (Addr × Obj)} {σ:St} {H:Hp} {s:Shared} {E:Value → Shared → Prop}
theorem Inv.wish (I:Inv X pins σ H s) (E:Value → Shared → Prop):Inv (X.wish E) pins σ H s:=⟨I.ok.wish E,I.os,I.bare,I.base,I.loc,I.cell,I.free,I.freeC,I.pin,I.hok,I.len⟩
theorem Inv.unwish (I:Inv (X.wish E) pins σ H s):Inv X pins σ H s:=⟨I.ok.unwish,I.os,I.bare,I.base,I.loc,I.cell,I.free,I.freeC,I.pin,I.hok,I.len⟩
theorem SP.unwish {D:Ends} {f:Flow} {s':Shared} (h:SP (X.wish E) pins D f s'):SP X pins D f s':=by
 cases f with
 | next=>obtain ⟨σ',H',I,q⟩:=h; exact ⟨σ',H',I.unwish,q⟩
 | brk=>obtain ⟨σ',H',I,q⟩:=h; exact ⟨σ',H',I.unwish,q⟩
 | cont=>obtain ⟨σ',H',I,q⟩:=h; exact ⟨σ',H',I.unwish,q⟩
 | ret u=>obtain ⟨v,σ',H',I,r,q⟩:=h; exact ⟨v,σ',H',I.unwish,r,q⟩
theorem PSs.nox {st:List Stmt} {t:TS} (h:PSs X.nox st t):PSs X st t:=fun pins s σ H D I hw =>
 wpAny_mono (h pins s σ H D (I.wish _) hw) (fun _ _ q=>q.unwish) fun _ _ z=>False.elim z
end
section
variable {X:Cx} {st:Stmt} {rest:List Stmt} {t u:TS} {e:Expr} {te:TE} {pos:Pos}
def aS0:TS:=fun D σ H=>D.nx σ H
def bh5 (t u:TS):TS:=fun D σ H=>t { D with nx:=u D } σ H
theorem j1:PSs X [] aS0:=fun _ _ σ H _ I h=>wpAny_execs_nil ⟨σ,H,I,h⟩
theorem i4 (h1:PS X st t) (h2:PSs X rest u):PSs X (st :: rest) (bh5 t u):=by
 intro pins s σ H D I h
 refine wpAny_execs_cons (thn (h1 pins s σ H { D with nx:=u D } I h) fun f s1 q=>?_)
 cases f with
 | next =>
  obtain ⟨σ',H',I',q⟩:=q
  exact h2 pins s1 σ' H' D I' q
 | ret v=>exact q
 | brk=>exact q
 | cont=>exact q
theorem i5 (h1:PS X st t):PSs X [st] t:=by
 intro pins s σ H D I h
 refine wpAny_execs_cons (thn (h1 pins s σ H D I h) fun f s1 q=>?_)
 cases f with
 | next=>exact wpAny_execs_nil q
 | ret v=>exact q
 | brk=>exact q
 | cont=>exact q
theorem Inv.quiet {pins:List (Addr × Obj)} {σ:St} {H:Hp} {s:Shared} (I:Inv X pins σ H s):interactive X.env = false:=by simp [interactive,I.ok.kind]
def bc2 (te:TE):TS:=fun D σ H=>te σ H fun _ H1=>D.nx σ H1
theorem D2 (he:PE X e te) (hs:swapsWith e none pos.line X.env = pure false:=by rfl):PS X (.Expr e pos) (bc2 te):=by
 intro pins s σ H D I h
 exact wpAny_Expr_any (thn (he pins s σ H _ I h) fun v s1 ⟨x,H1,I1,r1,q1⟩=>⟨σ,H1,I1,q1⟩) I.quiet hs
def bh2 (te:TE):TS:=fun D σ H=>te σ H D.rt
theorem i9 (he:PE X e te):PS X (.Return (some e) pos) (bh2 te):=by
 intro pins s σ H D I h
 exact wpAny_Return_some (thn (he pins s σ H _ I h) fun v s1 ⟨x,H1,I1,r1,q1⟩=>⟨x,σ,H1,I1,r1,q1⟩)
def bh3 (c:TT) (t u:TS):TS:=fun D σ H=>c σ H fun b H1=>if b = true then t D σ H1 else u D σ H1
theorem m8 {c:Expr} {a b:List Stmt} {tc:TT} (hc:PT X c tc) (ha:PSs X a t) (hb:PSs X b u):PS X (.If c a b pos) (bh3 tc t u):=by
 intro pins s σ H D I h
 refine wpAny_If (thn (hc pins s σ H _ I h) fun d s1 ⟨H1,I1,q1⟩=>?_)
 cases d with
 | true=>exact ha pins s1 σ H1 D I1 q1
 | false=>exact hb pins s1 σ H1 D I1 q1
end
abbrev TG:=V → St → Hp → (St → Hp → Prop) → Prop
def PG (X:Cx) (target:Expr) (t:TG):Prop :=
 ∀ (pins:List (Addr × Obj)) (s:Shared) (σ:St) (H:Hp) (v:V) (u:Value) (Q:St → Hp → Prop),Inv X pins σ H s → x8 v u → t v σ H Q →
  wpAny (model X.prog X.w) X.A (assign target X.env u) (fun _ s'=>∃ σ' H',Inv X pins σ' H' s' ∧ Q σ' H') X.xe s
abbrev a85:=V → V → V → Hp → (Hp → Prop) → Prop
def a98 (X:Cx) (t:a85):Prop :=
 ∀ (pins:List (Addr × Obj)) (s:Shared) (σ:St) (H:Hp) (o i v:V) (ov iv u:Value) (Q:Hp → Prop),Inv X pins σ H s → x8 o ov → x8 i iv → x8 v u → t o i v H Q →
  wpAny (model X.prog X.w) X.A (setItem ov iv u) (fun _ s'=>∃ H',Inv X pins σ H' s' ∧ Q H') X.xe s
section
variable {X:Cx} {pos:Pos}
def aK2 (i:Nat):TG:=fun v σ H Q=>Q (σ.set i (some v)) H
theorem o5 {i:Nat} {x:Str} (hN:X.N.Nodup) (hi:X.N[i]? = some x) (hx:Loc X.env.scope x) (hf:X.fn x = true ∨ X.env.scope.names.lookup x = some .local:=by first | exact .inl rfl | exact .inr rfl | assumption):PG X (.Name x pos) (aK2 i):=by
 intro pins s σ H v u Q I r h
 exact wpAny_assign_Name (ag8 I hN hi hx r (fun s' I'=>⟨_,H,I',h⟩) hf)
def bg0 (to ti:TE) (t:a85):TG:=fun v σ H Q=>to σ H fun o H1=>ti σ H1 fun i H2=>t o i v H2 fun H3=>Q σ H3
theorem a96 {o i:Expr} {to ti:TE} {t:a85} (ho:PE X o to) (hi:PE X i ti) (hs:a98 X t)
  (ha:∀ v,assign (.Subscript o i pos) X.env v = (do
   let ov ← holding [v] (eval o X.env)
   let iv ← holding [v,ov] (eval i X.env)
   standAt pos
   holding [v,ov,iv] (setItem ov iv v)
   release [v,ov,iv] []):=by intro _; rfl):PG X (.Subscript o i pos) (bg0 to ti t):=by
 intro pins s σ H v u Q I r h
 rw [ha]
 refine wpAny_bind (wpAny_holding (thn (ho pins s σ H _ I h) fun ov s1 ⟨x,H1,I1,r1,q1⟩=>?_))
 refine wpAny_bind (wpAny_holding (thn (hi pins s1 σ H1 _ I1 q1) fun iv s2 ⟨y,H2,I2,r2,q2⟩=>?_))
 refine wpAny_bind (wpAny_standAt (wpAny_bind (wpAny_holding (thn (hs pins s2 σ H2 x y v ov iv u _ I2 r1 r2 r q2) fun _ s3 ⟨H3,I3,q3⟩=>?_))))
 exact wpAny_release ⟨σ,H3,I3,q3⟩
def a_5 (te:TE) (g:TG):TS:=fun D σ H=>te σ H fun x H1=>g x σ H1 D.nx
theorem bb2 {tg e:Expr} {te:TE} {g:TG} (he:PE X e te) (hg:PG X tg g) (hs:swapsWithSole [tg] e pos.line X.env = pure false:=by rfl) (hw:swappedStores [tg] e X.env = pure none:=by rfl)
  (h1:(assignEach [tg] X.env).map (·.2) = [assign tg X.env]:=by rfl):PS X (.Assign [tg] e pos) (a_5 te g):=by
 intro pins s σ H D I h
 refine wpAny_Assign_stores (thn (he pins s σ H _ I h) fun v s1 ⟨x,H1,I1,r1,q1⟩=>?_) hs hw
 rw [h1]
 exact thn (hg pins s1 σ H1 x v _ I1 r1 q1) fun _ s2 q=>q
theorem j7 {i:Nat} {x:Str} {e:Expr} {te:TE} {pos':Pos} (hN:X.N.Nodup) (hi:X.N[i]? = some x) (hx:Loc X.env.scope x) (he:PE X e te) (hs:swapsWith e (some (.Name x pos')) pos.line X.env = pure false:=by rfl) (hf:X.fn x = true ∨ X.env.scope.names.lookup x = some .local:=by first | exact .inl rfl | exact .inr rfl | assumption) :
  PS X (.Assign [.Name x pos'] e pos) (a_5 te (aK2 i)):=by
 intro pins s σ H D I h
 refine wpAny_Assign_Name (thn (he pins s σ H _ I h) fun v s1 ⟨y,H1,I1,r1,q1⟩=>?_) hs
 exact ag8 I1 hN hi hx r1 (fun s2 I2=>⟨_,H1,I2,q1⟩) hf
end
structure It where
 go:Nat → Hp → Prop
 yld:Nat → Hp → V → Hp → Prop
 stop:Nat → Hp → Prop
def as0 (X:Cx) (pins:List (Addr × Obj)) (H:Hp) (b:Addr):Prop :=
 H b = none ∧ b ≠ X.env.locals ∧ b ∉ X.fs ∧ (b ∈ X.ex ∨ X.s₀.heap.objs.size ≤ b) ∧ (∀ x c,X.env.cells.lookup x = some c → c ≠ b) ∧ ∀ p ∈ X.pn ++ pins,p.1 ≠ b
theorem Inv.fpOk {X:Cx} {pins:List (Addr × Obj)} {σ:St} {H H':Hp} {s:Shared} {b:Addr} (I:Inv X pins σ H s) (hb:s.heap.objs.size ≤ b) (hn:H' b = none):as0 X pins H' b:=by
 refine ⟨hn,Nat.ne_of_gt (Nat.lt_of_lt_of_le I.lt hb),I.nofs hb,.inr (Nat.le_trans I.sz hb),fun x c e z=>?_,fun p hp z=>?_⟩
 ·obtain ⟨v,q⟩:=I.cell x c e
  exact absurd (Nat.lt_of_lt_of_le q.lt (by rw [z]; exact hb)) (Nat.lt_irrefl _)
 ·exact absurd (Nat.lt_of_lt_of_le (Heap.lt_size (I.pin p hp).1) (by rw [z]; exact hb)) (Nat.lt_irrefl _)
structure Turn (P:Program) (w:World) (K:PySem.W.Frag) (tg:Expr) (J:It) (fp:List Addr) (it:Addr) (tn:Nat → Heap → Prop):Prop where
 mem:it ∈ fp
 obj:∀ i h,tn i h → ∀ b ∈ fp,∃ o,h.get? b = some o ∧ ∀ v,o.data ≠ .cell v
 keep:∀ i h h',tn i h → (∀ b ∈ fp,∀ o,h.get? b = some o → h'.get? b = some o) → tn i h'
 item:∀ (X:Cx),X.prog = P → X.w = w → X.K = K → X.calm = true → ∀ (i:Nat) (pins:List (Addr × Obj)) (s:Shared) (σ:St) (H:Hp) (E:Value → Shared → Prop),Inv X pins σ H s → (∀ b ∈ fp,as0 X pins H b) → tn i s.heap → J.go i H →
  wpAny (model P w) X.A (pyNext (.ref it)) (fun r s1=>∃ u,r = some u ∧
   wpAny (model P w) X.A (letOwnedTupleGo tg (.ref it) u) (fun _ s2=>∃ x H',Inv X pins σ H' s2 ∧ x8 x u ∧ J.yld i H x H' ∧ tn (i + 1) s2.heap ∧ ∀ b ∈ fp,H' b = none) E s1) E s
 done:∀ (X:Cx),X.prog = P → X.w = w → X.K = K → X.calm = true → ∀ (i:Nat) (pins:List (Addr × Obj)) (s:Shared) (σ:St) (H:Hp) (E:Value → Shared → Prop),Inv X pins σ H s → (∀ b ∈ fp,as0 X pins H b) → tn i s.heap → J.stop i H →
  wpAny (model P w) X.A (pyNext (.ref it)) (fun r s1=>r = none ∧ Inv X pins σ H s1) E s
 self:∀ (A:Around) (i:Nat) (s:Shared) (Q:Value → Shared → Prop) (E:Value → Shared → Prop),tn i s.heap → Q (.ref it) s → wpAny (model P w) A (pyIter (.ref it)) Q E s
abbrev TI:=St → Hp → (It → Hp → Prop) → Prop
def PIE (X:Cx) (pins:List (Addr × Obj)) (σ:St) (tg:Expr) (R:It → Hp → Prop) (itv:Value) (s2:Shared):Prop :=
 ∃ (it:Addr) (fp:List Addr) (tn:Nat → Heap → Prop) (J:It) (H':Hp),itv = .ref it ∧ Inv X pins σ H' s2 ∧ Turn X.prog X.w X.K tg J fp it tn ∧ tn 0 s2.heap ∧ (∀ b ∈ fp,as0 X pins H' b) ∧ R J H'
def PI (X:Cx) (tg iter:Expr) (wi:TI):Prop :=
 ∀ (pins:List (Addr × Obj)) (s:Shared) (σ:St) (H:Hp) (R:It → Hp → Prop),Inv X pins σ H s → wi σ H R →
  wpAny (model X.prog X.w) X.A (eval iter X.env) (fun v s1=>wpAny (model X.prog X.w) X.A (pyIter v) (PIE X pins σ tg R) X.xe s1) X.xe s
theorem aR4 {M:Model} {A:Around} {E:Value → Shared → Prop} {s:Shared} {tg:Expr} {it:Addr} {u:Value} {o:Obj} {n:String} {vs:Array Value} {Q:Unit → Shared → Prop} (ho:s.heap.get? it = some o) (hc:o.cls = .type n) (hd:o.data = .fields vs)
    (hn:["enumerate","zip","dict_itemiterator","dict_reverseitemiterator","odict_iterator","itertools.zip_longest","itertools.pairwise"].contains n = false) (hQ:Q () s):wpAny M A (letOwnedTupleGo tg (.ref it) u) Q E s:=by
  unfold letOwnedTupleGo
  cases tg <;> first
    | exact wpAny_pure hQ
    | (cases u <;> first
        | exact wpAny_pure hQ
        | (refine wpAny_bind (wpAny_load ho ?_)
           rw [hc,hd]
           show wpAny M A (if (["enumerate","zip","dict_itemiterator","dict_reverseitemiterator","odict_iterator","itertools.zip_longest","itertools.pairwise"].contains n && vs[0]? == some (rawInt _)) = true then _ else _) Q E s
           rw [if_neg (by intro h; rw [hn,Bool.false_and] at h; cases h)]
           exact wpAny_pure hQ))
def Itl (K:PySem.W.Frag) (a:Addr):It :=
 ⟨fun i H=>∃ xs x,SqL K H a xs ∧ xs[i]? = some x,fun i H x H'=>H' = H ∧ ∀ xs,SqL K H a xs → xs[i]? = some x,fun i H=>∃ xs,SqL K H a xs ∧ xs.length ≤ i⟩
def Itt (K:PySem.W.Frag) (a:Addr):It :=
 ⟨fun i H=>∃ xs x,SqT K H a xs ∧ xs[i]? = some x,fun i H x H'=>H' = H ∧ ∀ xs,SqT K H a xs → xs[i]? = some x,fun i H=>∃ xs,SqT K H a xs ∧ xs.length ≤ i⟩
def Itr (lo:Int) (n:Nat):It:=⟨fun i _=>i < n,fun i H x H'=>H' = H ∧ x = .int (lo + i),fun i _=>n ≤ i⟩
theorem aP4 {P:Program} {w:World} {K:PySem.W.Frag} {tg:Expr} (a it:Addr):Turn P w K tg (Itl K a) [it] it (fun i h=>h.IsListIter it a i) where
 mem:=by simp
 obj:=fun i h st b hb=>by
  have e:b = it:=by simpa using hb
  subst e
  obtain ⟨o,e,c,d⟩:=st
  exact ⟨o,e,fun v z=>by rw [d] at z; cases z⟩
 keep:=fun i h h' st k=>st.at fun o e=>k it (by simp) o e
 item:=by
  intro X hP hw hK hc i pins s σ H E I hf st hg
  subst hP hw hK
  obtain ⟨xs,x,hq,hx⟩:=hg
  obtain ⟨its,rv,p,hz⟩:=I.list hq
  obtain ⟨u,hu,ru⟩:=rv.get hx
  obtain ⟨f0,f1,f2,f3,f4,f5⟩:=hf it (by simp)
  refine wpAny_pyNext_list_item st p.isList (x:=u) (by simpa using hu) fun h' st' sb=>?_
  have I1:Inv X pins σ H { s with heap:=h' }:=I.turned (t':=s.toks) (fun b o hb e=>(sb.2 b hb).trans e) f0 f1 f3 f4 f5
  obtain ⟨o,e,c,d⟩:=id st'
  exact ⟨u,rfl,aR4 (s:={ s with heap:=h' }) e c d (by decide) ⟨x,H,I1,ru,⟨rfl,fun ys hy=>by rw [I.list_inj hy hq]; exact hx⟩,st',fun b hb=>(hf b hb).1⟩⟩
 done:=by
  intro X hP hw hK hc i pins s σ H E I hf st hg
  subst hP hw hK
  obtain ⟨xs,hq,hx⟩:=hg
  obtain ⟨its,rv,p,hz⟩:=I.list hq
  obtain ⟨f0,f1,f2,f3,f4,f5⟩:=hf it (by simp)
  have hl:=rv.length
  exact wpAny_pyNext_list_end (I.ok.hd hc) st p.isList (by simp; lia) fun h' eb=>⟨rfl,I.turned (t':=s.toks) (fun b o hb e=>eb b o hb e) f0 f1 f3 f4 f5⟩
 self:=fun _ _ _ _ _ st h=>wpAny_pyIter_listiter st h
theorem aD4 {P:Program} {w:World} {K:PySem.W.Frag} {tg:Expr} (a it:Addr):Turn P w K tg (Itt K a) [it] it (fun i h=>h.IsTupleIter it a i) where
 mem:=by simp
 obj:=fun i h st b hb=>by
  have e:b = it:=by simpa using hb
  subst e
  obtain ⟨o,e,c,d⟩:=st
  exact ⟨o,e,fun v z=>by rw [d] at z; cases z⟩
 keep:=fun i h h' st k=>st.at fun o e=>k it (by simp) o e
 item:=by
  intro X hP hw hK hc i pins s σ H E I hf st hg
  subst hP hw hK
  obtain ⟨xs,x,hq,hx⟩:=hg
  obtain ⟨its,rv,p,hz⟩:=I.tuple hq
  obtain ⟨u,hu,ru⟩:=rv.get hx
  obtain ⟨f0,f1,f2,f3,f4,f5⟩:=hf it (by simp)
  refine wpAny_pyNext_tuple_item st (show s.heap.IsTuple a its.toArray from p) (x:=u) (by simpa using hu) fun h' st' sb=>?_
  have I1:Inv X pins σ H { s with heap:=h' }:=I.turned (t':=s.toks) (fun b o hb e=>(sb.2 b hb).trans e) f0 f1 f3 f4 f5
  obtain ⟨o,e,c,d⟩:=id st'
  exact ⟨u,rfl,aR4 (s:={ s with heap:=h' }) e c d (by decide) ⟨x,H,I1,ru,⟨rfl,fun ys hy=>by rw [I.tuple_inj hy hq]; exact hx⟩,st',fun b hb=>(hf b hb).1⟩⟩
 done:=by
  intro X hP hw hK hc i pins s σ H E I hf st hg
  subst hP hw hK
  obtain ⟨xs,hq,hx⟩:=hg
  obtain ⟨its,rv,p,hz⟩:=I.tuple hq
  obtain ⟨f0,f1,f2,f3,f4,f5⟩:=hf it (by simp)
  have hl:=rv.length
  exact wpAny_pyNext_tuple_end (I.ok.hd hc) st (show s.heap.IsTuple a its.toArray from p) (by simp; lia) fun h' eb=>⟨rfl,I.turned (t':=s.toks) (fun b o hb e=>eb b o hb e) f0 f1 f3 f4 f5⟩
 self:=fun _ _ _ _ _ st h=>wpAny_pyIter_tupleiter st h
theorem aF9 {P:Program} {w:World} {K:PySem.W.Frag} {tg:Expr} (it:Addr) (lo:Int) (n:Nat):Turn P w K tg (Itr lo n) [it] it (fun i h=>IsRangeIter h it (lo + (i:Nat) * 1) ((n:Int) - (i:Nat)) 1) where
 mem:=by simp
 obj:=fun i h st b hb=>by
  have e:b = it:=by simpa using hb
  subst e
  exact ⟨_,st,fun v z=>by
   have z':Data.fields _ = Data.cell v:=z
   cases z'⟩
 keep:=fun i h h' st k=>k it (by simp) _ st
 item:=by
  intro X hP hw hK hc i pins s σ H E I hf st hg
  subst hP hw hK
  obtain ⟨f0,f1,f2,f3,f4,f5⟩:=hf it (by simp)
  have W:=Walks.range (prog:=X.prog) (w:=X.w) (I.ok.hd hc) it lo 1 n
  refine W.item i s _ _ hg st fun v h' tk hv st' kk=>?_
  obtain ⟨t,rfl⟩:=hv
  have I1:Inv X pins σ H { s with heap:=h',toks:=tk }:=I.turned (fun b o hb e=>kk b o (by simpa using hb) e) f0 f1 f3 f4 f5
  refine ⟨_,rfl,aR4 (s:={ s with heap:=h',toks:=tk }) (n:="range_iterator") st' rfl rfl (by decide) ⟨.int (lo + i),H,I1,⟨t,?_⟩,⟨rfl,rfl⟩,st',fun b hb=>(hf b hb).1⟩⟩
  rw [Int.mul_one]
 done:=by
  intro X hP hw hK hc i pins s σ H E I hf st hg
  subst hP hw hK
  obtain ⟨f0,f1,f2,f3,f4,f5⟩:=hf it (by simp)
  exact wpAny_pyNext_range_end (I.ok.hd hc) st (by have:n ≤ i:=hg; lia) fun h' eb=>⟨rfl,I.turned (t':=s.toks) (fun b o hb e=>eb b o hb e) f0 f1 f3 f4 f5⟩
 self:=fun _ _ _ _ _ st h=>wpAny_pyIter_rangeiter st h
end L2
namespace L2
open PySem PySem.Spec PyProof.Rows
section
variable {X:Cx} {tg:Expr}
def a61 (K:PySem.W.Frag) (tl:TE):TI:=fun σ H R=>tl σ H fun x H1=>∃ a,x = .ref a ∧ (∃ xs,SqL K H1 a xs) ∧ R (Itl K a) H1
def bd3 (K:PySem.W.Frag) (tl:TE):TI:=fun σ H R=>tl σ H fun x H1=>∃ a,x = .ref a ∧ (∃ xs,SqT K H1 a xs) ∧ R (Itt K a) H1
theorem aY2 {l:Expr} {tl:TE} (hl:PE X l tl):PI X tg l (a61 X.K tl):=by
 intro pins s σ H R I h
 refine thn (hl pins s σ H _ I h) fun v s1 ⟨x,H1,I1,r1,q1⟩=>?_
 obtain ⟨a,e,⟨xs,hq⟩,q⟩:=q1
 subst e
 cases r1
 obtain ⟨its,rv,p,hz⟩:=I1.list hq
 refine wpAny_pyIter_list p.isList ?_
 refine ⟨s1.heap.objs.size,[s1.heap.objs.size],_,_,H1,rfl,I1.kept (t':=s1.toks) fun b o e=>Heap.get?_push_of_some _ e,aP4 a _,⟨_,Heap.get?_push_size _ rfl,rfl,rfl⟩,fun b hb=>?_,q⟩
 have e:b = s1.heap.objs.size:=by simpa using hb
 subst e
 exact I1.fpOk (Nat.le_refl _) (I1.hok.fresh (Nat.le_refl _))
theorem ba6 {l:Expr} {tl:TE} (hl:PE X l tl):PI X tg l (bd3 X.K tl):=by
 intro pins s σ H R I h
 refine thn (hl pins s σ H _ I h) fun v s1 ⟨x,H1,I1,r1,q1⟩=>?_
 obtain ⟨a,e,⟨xs,hq⟩,q⟩:=q1
 subst e
 cases r1
 obtain ⟨its,rv,p,hz⟩:=I1.tuple hq
 refine wpAny_pyIter_tuple (show s1.heap.IsTuple a its.toArray from p) ?_
 refine ⟨s1.heap.objs.size,[s1.heap.objs.size],_,_,H1,rfl,I1.kept (t':=s1.toks) fun b o e=>Heap.get?_push_of_some _ e,aD4 a _,⟨_,Heap.get?_push_size _ rfl,rfl,rfl⟩,fun b hb=>?_,q⟩
 have e:b = s1.heap.objs.size:=by simpa using hb
 subst e
 exact I1.fpOk (Nat.le_refl _) (I1.hok.fresh (Nat.le_refl _))
theorem aT3 {pins:List (Addr × Obj)} {σ:St} {H:Hp} {s:Shared} {R:It → Hp → Prop} {E:Value → Shared → Prop} {lo hi:Int} {t u v:Tok} {tk:Nat} (I:Inv X pins σ H s) (h1:-(2 ^ 62) ≤ lo) (h2:lo < 2 ^ 62) (h3:-(2 ^ 62) ≤ hi) (h4:hi < 2 ^ 62)
  (q:R (Itr lo (hi - lo).toNat) H):wpAny (model X.prog X.w) X.A (pyIter (.ref s.heap.objs.size)) (PIE X pins σ tg R) E { s with heap:=s.heap.push { cls:=.type "range",data:=.fields #[.int lo t,.int hi u,.int 1 v] },toks:=tk }:=by
 refine wpAny_pyIter_range (IsRange.new ..) (small_one h1 h2 h3 h4) ?_
 have I1:Inv X pins σ H { s with heap:=s.heap.push { cls:=.type "range",data:=.fields #[.int lo t,.int hi u,.int 1 v] },toks:=tk }:=I.kept fun b o e=>Heap.get?_push_of_some _ e
 refine ⟨(s.heap.push { cls:=.type "range",data:=.fields #[.int lo t,.int hi u,.int 1 v] }).objs.size,[(s.heap.push { cls:=.type "range",data:=.fields #[.int lo t,.int hi u,.int 1 v] }).objs.size],_,_,H,rfl,
  I1.kept (t':=tk) fun b o e=>Heap.get?_push_of_some _ e,aF9 _ lo (hi - lo).toNat,?_,fun b hb=>?_,q⟩
 ·have e1:lo + ((0:Nat):Int) * 1 = lo:=by simp
  have e2:(((hi - lo).toNat:Nat):Int) - ((0:Nat):Int) = Builtin.Range.rangeSize lo hi 1:=by rw [rangeSize_one]; split <;> lia
  show IsRangeIter _ _ (lo + ((0:Nat):Int) * 1) ((((hi - lo).toNat:Nat):Int) - ((0:Nat):Int)) 1
  rw [e1,e2]
  exact Heap.get?_push_size _ rfl
 ·have e:b = (s.heap.push { cls:=.type "range",data:=.fields #[.int lo t,.int hi u,.int 1 v] }).objs.size:=by simpa using hb
  subst e
  exact I1.fpOk (Nat.le_refl _) (I1.hok.fresh (Nat.le_refl _))
def bc9 (ta:TA):TI:=fun σ H R=>ta σ H fun vs H1=>∃ j:Int,vs = [.int j] ∧ -(2 ^ 62) ≤ j ∧ j < 2 ^ 62 ∧ R (Itr 0 j.toNat) H1
theorem z9 {a:Expr} {ta:TA} {p pos:Pos} (hg:Gl X "range") (hm:X.mg "range" = none) (ha:PA X [a] ta) (hs:starEach [a] X.env = [(false,eval a X.env)]:=by rfl):PI X tg (.Call (.Name "range" p) [a] [] pos) (bc9 ta):=by
 intro pins s σ H R I h
 refine Call_ (ab9 I hg hm boot_range (PyProof.Rows.callWith_type1 (thn (ha pos pins s σ H _ I h) fun us s1 ⟨vs,H1,I1,r1,q1⟩=>?_) hs rfl))
 obtain ⟨j,e,q1,q2,q⟩:=q1
 subst e
 cases r1 with
 | cons r rr =>
  cases rr
  obtain ⟨t,rfl⟩:=r
  exact call_range_1 (aT3 I1 (by lia) (by lia) q1 q2 (by simpa using q))
def bi1 (wi:TI) (g:TG) (tb:TS):TS:=fun D σ H=>wi σ H fun J H1=>∃ W:Nat → Nat → St → Hp → Prop,(∃ m,W 0 m σ H1) ∧ ∀ i m σ H,W i m σ H →
 (J.stop i H ∧ D.nx σ H) ∨ (J.go i H ∧ ∃ N:St → Hp → Prop,(∀ σ' H',N σ' H' → ∃ m',m' < m ∧ W (i + 1) m' σ' H') ∧ ∀ x H',J.yld i H x H' → g x σ H' fun σ2 H2=>tb { D with nx:=N,ct:=N,bk:=D.nx } σ2 H2)
def T5 (fp:List Addr) (h:Heap):List (Addr × Obj):=fp.filterMap fun b=>(h.get? b).map fun o=>(b,o)
theorem S0 {fp:List Addr} {h:Heap} {b:Addr} {o:Obj} (hb:b ∈ fp) (e:h.get? b = some o):(b,o) ∈ T5 fp h:=List.mem_filterMap.mpr ⟨b,hb,by rw [e]; rfl⟩
theorem ao0 {fp:List Addr} {h:Heap} {p:Addr × Obj} (hp:p ∈ T5 fp h):p.1 ∈ fp ∧ h.get? p.1 = some p.2:=by
 obtain ⟨b,hb,e⟩:=List.mem_filterMap.mp hp
 cases q:h.get? b with
 | none=>rw [q] at e; cases e
 | some o =>
  rw [q] at e
  have e':(b,o) = p:=Option.some.inj e
  subst e'
  exact ⟨hb,q⟩
theorem Inv.pinned {pins:List (Addr × Obj)} {σ:St} {H:Hp} {s:Shared} {fp:List Addr} (I:Inv X pins σ H s) (hf:∀ b ∈ fp,as0 X pins H b) (ho:∀ b ∈ fp,∃ o,s.heap.get? b = some o ∧ ∀ v,o.data ≠ .cell v):Inv X (pins ++ T5 fp s.heap) σ H s :=
 I.pins_of fun p hp=>(List.mem_append.mp hp).elim (fun z=>I.pin p (List.mem_append_right _ z)) fun z=>by
  obtain ⟨hb,e⟩:=ao0 z
  obtain ⟨f0,f1,f2,_⟩:=hf p.1 hb
  obtain ⟨o,e',d⟩:=ho p.1 hb
  rw [e] at e'; cases e'
  exact ⟨e,f0,f1,f2,d⟩
theorem Inv.unpinned {pins pl:List (Addr × Obj)} {σ:St} {H:Hp} {s:Shared} (I:Inv X (pins ++ pl) σ H s):Inv X pins σ H s:=I.pins_of fun p hp=>I.pin p (List.mem_append_right _ (List.mem_append_left _ hp))
theorem A3 {iter:Expr} {body:List Stmt} {wi:TI} {g:TG} {tb:TS} {pos:Pos} (hp:PassesOwn (model X.prog X.w) X.A X.env X.xe) (hc:X.calm = true) (hi:PI X tg iter wi) (hg:PG X tg g) (hb:PSs X body tb)
  (hs:∀ x,foldedSetIterable iter X.env x = pure x:=by intro _; rfl):PS X (.For tg iter body [] pos) (bi1 wi g tb):=by
 intro pins s σ H D I h
 refine wpAny_For (thn (hi pins s σ H _ I h) fun v s1 h1=>thn h1 fun itv s2 h2=>?_) hs
 obtain ⟨it,fp,tn,J,H2,e,I2,T,st2,f2,W,⟨m0,w0⟩,turn⟩:=h2
 subst e
 have stat:∀ {H':Hp},(∀ b ∈ fp,H' b = none) → ∀ b ∈ fp,as0 X pins H' b:=fun hn b hb=>⟨hn b hb,(f2 b hb).2⟩
 refine codeAny_forLoop_any (fun n s'=>∃ i σ' H',Inv X pins σ' H' s' ∧ tn i s'.heap ∧ (∀ b ∈ fp,H' b = none) ∧ W i n σ' H') ?_ m0 ⟨0,σ,H2,I2,st2,fun b hb=>(f2 b hb).1,w0⟩
 rintro n s3 ⟨i,σ3,H3,I3,st3,fr3,w3⟩
 rcases turn i n σ3 H3 w3 with ⟨stop,qn⟩ | ⟨go,N,hN,step⟩
 ·refine wpAny_passesOwn hp (thn (T.done X rfl rfl rfl hc i pins s3 σ3 H3 X.xe I3 (stat fr3) st3 stop) fun r s4 ⟨hr,I4⟩=>?_)
  subst hr
  exact wpAny_execs_nil ⟨σ3,H3,I4,qn⟩
 ·refine wpAny_passesOwn hp (thn (T.item X rfl rfl rfl hc i pins s3 σ3 H3 X.xe I3 (stat fr3) st3 go) fun r s4 ⟨u,hr,h4⟩=>?_)
  subst hr
  refine wpAny_passesOwn hp (thn h4 fun _ s5 ⟨x,H5,I5,r5,y5,st5,fr5⟩=>?_)
  have I5':=I5.pinned (stat fr5) (T.obj _ _ st5)
  refine wpAny_passesOwn hp (thn (hg _ s5 σ3 H5 x u _ I5' r5 (step x H5 y5)) fun _ s6 ⟨σ6,H6,I6,q6⟩=>?_)
  refine wpAny_passesOwn hp (thn (hb _ s6 σ6 H6 _ I6 q6) fun f s7 q7=>?_)
  have again:∀ {σ7:St} {H7:Hp},Inv X (pins ++ T5 fp s5.heap) σ7 H7 s7 → N σ7 H7 → ∃ m,m < n ∧ ∃ i σ' H',Inv X pins σ' H' s7 ∧ tn i s7.heap ∧ (∀ b ∈ fp,H' b = none) ∧ W i m σ' H':=fun {σ7 H7} I7 n7=>by
   obtain ⟨m',hm,w7⟩:=hN σ7 H7 n7
   refine ⟨m',hm,i + 1,σ7,H7,I7.unpinned,T.keep _ _ _ st5 fun b hb o e=>(I7.pin (b,o) (List.mem_append_right _ (List.mem_append_right _ (S0 hb e)))).1,fun b hb=>?_,w7⟩
   obtain ⟨o,e,d⟩:=T.obj _ _ st5 b hb
   exact (I7.pin (b,o) (List.mem_append_right _ (List.mem_append_right _ (S0 hb e)))).2.1
  cases f with
  | next=>obtain ⟨σ7,H7,I7,n7⟩:=q7; exact again I7 n7
  | cont=>obtain ⟨σ7,H7,I7,n7⟩:=q7; exact again I7 n7
  | brk=>obtain ⟨σ7,H7,I7,q7⟩:=q7; exact ⟨σ7,H7,I7.unpinned,q7⟩
  | ret v=>obtain ⟨x7,σ7,H7,I7,r7,q7⟩:=q7; exact ⟨x7,σ7,H7,I7.unpinned,r7,q7⟩
end
theorem D8 {K:PySem.W.Frag} {a:Addr} {xs:List V} {g:TG} {tb:TS} {D:Ends} {σ:St} {H:Hp} (Pv:Nat → St → Hp → Prop) (h0:Pv 0 σ H) (hl:∀ i σ H,i ≤ xs.length → Pv i σ H → SqL K H a xs)
  (hs:∀ i x σ H,xs[i]? = some x → Pv i σ H → g x σ H fun σ2 H2=>tb { D with nx:=Pv (i + 1),ct:=Pv (i + 1),bk:=D.nx } σ2 H2) (hd:∀ σ H,Pv xs.length σ H → D.nx σ H) :
  ∃ W:Nat → Nat → St → Hp → Prop,(∃ m,W 0 m σ H) ∧ ∀ i m σ H,W i m σ H →
   ((Itl K a).stop i H ∧ D.nx σ H) ∨ ((Itl K a).go i H ∧ ∃ N:St → Hp → Prop,(∀ σ' H',N σ' H' → ∃ m',m' < m ∧ W (i + 1) m' σ' H') ∧ ∀ x H',(Itl K a).yld i H x H' → g x σ H' fun σ2 H2=>tb { D with nx:=N,ct:=N,bk:=D.nx } σ2 H2):=by
 refine ⟨fun i m σ H=>m = xs.length - i ∧ i ≤ xs.length ∧ Pv i σ H,⟨xs.length,by simp,Nat.zero_le _,h0⟩,?_⟩
 rintro i m σ H ⟨rfl,hi,p⟩
 have q:=hl i σ H hi p
 by_cases hlt:i < xs.length
 ·refine .inr ⟨⟨xs,xs[i],q,by simp [hlt]⟩,Pv (i + 1),fun σ' H' p'=>⟨xs.length - (i + 1),by lia,rfl,hlt,p'⟩,fun x H' y=>?_⟩
  obtain ⟨e,y⟩:=y
  subst e
  exact hs i x σ _ (y xs q) p
 ·have e:i = xs.length:=by lia
  subst e
  exact .inl ⟨⟨xs,q,Nat.le_refl _⟩,hd σ H p⟩
theorem a01 {K:PySem.W.Frag} {a:Addr} {xs:List V} {g:TG} {tb:TS} {D:Ends} {σ:St} {H:Hp} (Pv:Nat → St → Hp → Prop) (h0:Pv 0 σ H) (hl:∀ i σ H,i ≤ xs.length → Pv i σ H → SqT K H a xs)
  (hs:∀ i x σ H,xs[i]? = some x → Pv i σ H → g x σ H fun σ2 H2=>tb { D with nx:=Pv (i + 1),ct:=Pv (i + 1),bk:=D.nx } σ2 H2) (hd:∀ σ H,Pv xs.length σ H → D.nx σ H) :
  ∃ W:Nat → Nat → St → Hp → Prop,(∃ m,W 0 m σ H) ∧ ∀ i m σ H,W i m σ H →
   ((Itt K a).stop i H ∧ D.nx σ H) ∨ ((Itt K a).go i H ∧ ∃ N:St → Hp → Prop,(∀ σ' H',N σ' H' → ∃ m',m' < m ∧ W (i + 1) m' σ' H') ∧ ∀ x H',(Itt K a).yld i H x H' → g x σ H' fun σ2 H2=>tb { D with nx:=N,ct:=N,bk:=D.nx } σ2 H2):=by
 refine ⟨fun i m σ H=>m = xs.length - i ∧ i ≤ xs.length ∧ Pv i σ H,⟨xs.length,by simp,Nat.zero_le _,h0⟩,?_⟩
 rintro i m σ H ⟨rfl,hi,p⟩
 have q:=hl i σ H hi p
 by_cases hlt:i < xs.length
 ·refine .inr ⟨⟨xs,xs[i],q,by simp [hlt]⟩,Pv (i + 1),fun σ' H' p'=>⟨xs.length - (i + 1),by lia,rfl,hlt,p'⟩,fun x H' y=>?_⟩
  obtain ⟨e,y⟩:=y
  subst e
  exact hs i x σ _ (y xs q) p
 ·have e:i = xs.length:=by lia
  subst e
  exact .inl ⟨⟨xs,q,Nat.le_refl _⟩,hd σ H p⟩
theorem A4 {lo:Int} {n:Nat} {g:TG} {tb:TS} {D:Ends} {σ:St} {H:Hp} (Pv:Nat → St → Hp → Prop) (h0:Pv 0 σ H)
  (hs:∀ i σ H,i < n → Pv i σ H → g (.int (lo + i)) σ H fun σ2 H2=>tb { D with nx:=Pv (i + 1),ct:=Pv (i + 1),bk:=D.nx } σ2 H2) (hd:∀ σ H,Pv n σ H → D.nx σ H) :
  ∃ W:Nat → Nat → St → Hp → Prop,(∃ m,W 0 m σ H) ∧ ∀ i m σ H,W i m σ H →
   ((Itr lo n).stop i H ∧ D.nx σ H) ∨ ((Itr lo n).go i H ∧ ∃ N:St → Hp → Prop,(∀ σ' H',N σ' H' → ∃ m',m' < m ∧ W (i + 1) m' σ' H') ∧ ∀ x H',(Itr lo n).yld i H x H' → g x σ H' fun σ2 H2=>tb { D with nx:=N,ct:=N,bk:=D.nx } σ2 H2):=by
 refine ⟨fun i m σ H=>m = n - i ∧ i ≤ n ∧ Pv i σ H,⟨n,by simp,Nat.zero_le _,h0⟩,?_⟩
 rintro i m σ H ⟨rfl,hi,p⟩
 by_cases hlt:i < n
 ·refine .inr ⟨hlt,Pv (i + 1),fun σ' H' p'=>⟨n - (i + 1),by lia,rfl,hlt,p'⟩,fun x H' y=>?_⟩
  obtain ⟨e,y⟩:=y
  subst e y
  exact hs i σ _ hlt p
 ·have e:i = n:=by lia
  subst e
  exact .inl ⟨Nat.le_refl _,hd σ H p⟩
end L2
namespace L2
open PySem PySem.Spec PyProof.Rows
abbrev R2:=V → V → Hp → VK → Prop
def OpR (X:Cx) (f:Value → Value → Sem Value) (r:R2):Prop :=
 ∀ (pins:List (Addr × Obj)) (s:Shared) (σ:St) (H:Hp) (x y:V) (v u:Value) (Q:VK),Inv X pins σ H s → x8 x v → x8 y u → r x y H Q →
  wpAny (model X.prog X.w) X.A (f v u) (EP X pins σ Q) X.xe s
def UnR (X:Cx) (f:Value → Sem Value) (r:V → Hp → VK → Prop):Prop :=
 ∀ (pins:List (Addr × Obj)) (s:Shared) (σ:St) (H:Hp) (x:V) (v:Value) (Q:VK),Inv X pins σ H s → x8 x v → r x H Q →
  wpAny (model X.prog X.w) X.A (f v) (EP X pins σ Q) X.xe s
def B0 (X:Cx) (f:Value) (r:List V → Hp → VK → Prop):Prop :=
 ∀ (pins:List (Addr × Obj)) (s:Shared) (σ:St) (H:Hp) (xs:List V) (us:List Value) (Q:VK),Inv X pins σ H s → u0 xs us → r xs H Q →
  wpAny (model X.prog X.w) X.A (call f us) (EP X pins σ Q) X.xe s
def bd8 (X:Cx) (r:V → Hp → (Bool → Hp → Prop) → Prop):Prop :=
 ∀ (pins:List (Addr × Obj)) (s:Shared) (σ:St) (H:Hp) (x:V) (v:Value) (Q:Bool → Hp → Prop),Inv X pins σ H s → x8 x v → r x H Q →
  wpAny (model X.prog X.w) X.A (truthy v) (TP X pins σ Q) X.xe s
def tOp (r:R2) (ta tb:TE):TE:=fun σ H Q=>ta σ H fun x H1=>tb σ H1 fun y H2=>r x y H2 Q
def tUn (r:V → Hp → VK → Prop) (ta:TE):TE:=fun σ H Q=>ta σ H fun x H1=>r x H1 Q
def rI (C:Int → Int → Prop) (g:Int → Int → V):R2:=fun x y H Q=>∃ i j,x = .int i ∧ y = .int j ∧ C i j ∧ Q (g i j) H
def rI0 (g:Int → Int → V):R2:=fun x y H Q=>∃ i j,x = .int i ∧ y = .int j ∧ Q (g i j) H
def rU (g:Int → V):V → Hp → VK → Prop:=fun x H Q=>∃ i,x = .int i ∧ Q (g i) H
section
variable {X:Cx} {a b c:Expr} {ta tb tc:TE} {pos:Pos}
theorem bb7 (ha:PE X a ta) (hb:PE X b tb) {pins:List (Addr × Obj)} {s:Shared} {σ:St} {H:Hp} {R:V → V → Hp → Prop} (I:Inv X pins σ H s)
  (h:ta σ H fun x H1=>tb σ H1 fun y H2=>R x y H2) {Q:Value → Shared → Prop} {f:Value → Value → Sem Value}
  (hf:∀ v u s2 x y H2,Inv X pins σ H2 s2 → x8 x v → x8 y u → R x y H2 → wpAny (model X.prog X.w) X.A (f v u) Q X.xe s2) :
  wpAny (model X.prog X.w) X.A (eval a X.env) (fun v s₁=>wpAny (model X.prog X.w) X.A (eval b X.env) (fun u s₂=>wpAny (model X.prog X.w) X.A (f v u) Q X.xe s₂) X.xe s₁) X.xe s:=by
 refine thn (ha pins s σ H _ I h) fun v s1 ⟨x,H1,I1,r1,q1⟩=>?_
 refine thn (hb pins s1 σ H1 _ I1 q1) fun u s2 ⟨y,H2,I2,r2,q2⟩=>?_
 exact hf v u s2 x y H2 I2 r1 r2 q2
theorem j2 {op:Operator} {r:R2} (ho:OpR X (binaryOp op) r) (ha:PE X a ta) (hb:PE X b tb):PE X (.BinOp a op b pos) (tOp r ta tb):=by
 intro pins s σ H Q I h
 exact wpAny_BinOp (bb7 ha hb I h fun v u s2 x y H2 I2 rx ry q=>ho pins s2 σ H2 x y v u Q I2 rx ry q)
theorem ao7 {op:UnaryOp} {r:V → Hp → VK → Prop} (ho:UnR X (unaryOp op) r) (ha:PE X a ta):PE X (.UnaryOp op a pos) (tUn r ta):=by
 intro pins s σ H Q I h
 exact UnaryOp_ (thn (ha pins s σ H _ I h) fun v s1 ⟨x,H1,I1,r1,q1⟩=>ho pins s1 σ H1 x v Q I1 r1 q1)
theorem opI {f:Value → Value → Sem Value} {C:Int → Int → Prop} {g:Int → Int → Int}
  (rule:∀ (i j:Int) (t u:Tok) (s:Shared) (Q:Value → Shared → Prop) (E:Value → Shared → Prop),C i j → Q (.int (g i j) s.toks) { s with toks:=s.toks + 1 } → wpAny (model X.prog X.w) X.A (f (.int i t) (.int j u)) Q E s) :
  OpR X f (rI C fun i j=>.int (g i j)):=by
 intro pins s σ H x y v u Q I rx ry h
 obtain ⟨i,j,rfl,rfl,hc,q⟩:=h
 obtain ⟨t,rfl⟩:=rx
 obtain ⟨t',rfl⟩:=ry
 exact rule i j t t' s _ _ hc ⟨.int (g i j),H,I.tok _,⟨_,rfl⟩,q⟩
theorem a95 {f:Value → Value → Sem Value} {g:Int → Int → Int}
  (rule:∀ (i j:Int) (t u:Tok) (s:Shared) (Q:Value → Shared → Prop) (E:Value → Shared → Prop),Q (.int (g i j) s.toks) { s with toks:=s.toks + 1 } → wpAny (model X.prog X.w) X.A (f (.int i t) (.int j u)) Q E s) :
  OpR X f (rI0 fun i j=>.int (g i j)):=by
 intro pins s σ H x y v u Q I rx ry h
 obtain ⟨i,j,rfl,rfl,q⟩:=h
 obtain ⟨t,rfl⟩:=rx
 obtain ⟨t',rfl⟩:=ry
 exact rule i j t t' s _ _ ⟨.int (g i j),H,I.tok _,⟨_,rfl⟩,q⟩
theorem a84 {f:Value → Value → Sem Value} {g:Int → Int → Bool}
  (rule:∀ (i j:Int) (t u:Tok) (s:Shared) (Q:Value → Shared → Prop) (E:Value → Shared → Prop),Q (.bool (g i j)) s → wpAny (model X.prog X.w) X.A (f (.int i t) (.int j u)) Q E s) :
  OpR X f (rI0 fun i j=>.bl (g i j)):=by
 intro pins s σ H x y v u Q I rx ry h
 obtain ⟨i,j,rfl,rfl,q⟩:=h
 obtain ⟨t,rfl⟩:=rx
 obtain ⟨t',rfl⟩:=ry
 exact rule i j t t' s _ _ ⟨.bl (g i j),H,I,rfl,q⟩
def bc6 (i j:Int):Prop:=0 < j ∧ j < 1073741824
def bd0 (i j:Int):Prop:=0 ≤ j ∧ j ≤ 1000000 ∧ i.natAbs < 2 ^ 64
def a88 (i j:Int):Prop:=(-(2 ^ 64) < i ∧ i < 2 ^ 64) ∨ (-(2 ^ 64) < j ∧ j < 2 ^ 64)
theorem a88.ok {i j:Int} (h:a88 i j):IntMulOk i j:=by
 rcases h with ⟨h1,h2⟩ | ⟨h1,h2⟩
 ·exact .of_left (intBits_le_64 h1 h2)
 ·exact .of_right (intBits_le_64 h1 h2)
theorem aG4 (k:Nat):(0:Int) ≤ 2 ^ k:=by
 rw [two_pow_cast]
 exact Int.natCast_nonneg _
theorem K2:OpR X (binaryOp .Add) (rI0 fun i j=>.int (i + j)):=a95 fun _ _ _ _ _ _ _ q=>add_int q
theorem ar8:OpR X (binaryOp .Sub) (rI0 fun i j=>.int (i - j)):=a95 fun _ _ _ _ _ _ _ q=>sub_int q
theorem o9:OpR X (binaryOp .Mult) (rI a88 fun i j=>.int (i * j)):=opI fun _ _ _ _ _ _ _ hc q=>mul_int q hc.ok
theorem Y6:OpR X (binaryOp .FloorDiv) (rI bc6 fun i j=>.int (i / j)):=opI fun i j _ _ _ _ _ hc q=>by
 have h1:(0:Int) < j:=hc.1
 have h2:j < 1073741824:=hc.2
 exact floordiv_int (by lia) (by rw [Int.fdiv_eq_ediv_of_nonneg i (by lia)]; exact q) (.inl (PyProof.noPylong_small (by lia)))
theorem u6:OpR X (binaryOp .Mod) (rI (fun _ j=>0 < j) fun i j=>.int (i % j)):=opI fun i j _ _ _ _ _ hc q=>by
 have h1:(0:Int) < j:=hc
 exact mod_int' (by lia) (by rw [Int.fmod_eq_emod_of_nonneg i (by lia)]; exact q)
theorem aC5:OpR X (binaryOp .Pow) (rI bd0 fun i j=>.int (i ^ j.toNat)):=opI fun _ _ _ _ _ _ _ hc q=>pow_int_small hc.1 hc.2.1 hc.2.2 q
theorem aU2:OpR X (binaryOp .LShift) (rI bd0 fun i j=>.int (i * 2 ^ j.toNat)):=opI fun _ _ _ _ _ _ _ hc q=>lshift_int_small hc.1 hc.2.1 hc.2.2 q
theorem aC2:OpR X (binaryOp .RShift) (rI (fun _ j=>0 ≤ j) fun i j=>.int (i / 2 ^ j.toNat)):=opI fun i j _ _ _ _ _ hc q =>
 rshift_int hc (by rw [Int.fdiv_eq_ediv_of_nonneg i (aG4 _)]; exact q)
theorem aC7:OpR X (binaryOp .BitAnd) (rI0 fun i j=>.int (Builtin.bitAnd i j)):=a95 fun _ _ _ _ _ _ _ q=>and_int q
theorem unI {f:Value → Sem Value} {g:Int → Int}
  (rule:∀ (i:Int) (t:Tok) (s:Shared) (Q:Value → Shared → Prop) (E:Value → Shared → Prop),Q (.int (g i) s.toks) { s with toks:=s.toks + 1 } → wpAny (model X.prog X.w) X.A (f (.int i t)) Q E s) :
  UnR X f (rU fun i=>.int (g i)):=by
 intro pins s σ H x v Q I rx h
 obtain ⟨i,rfl,q⟩:=h
 obtain ⟨t,rfl⟩:=rx
 exact rule i t s _ _ ⟨.int (g i),H,I.tok _,⟨_,rfl⟩,q⟩
theorem ab1:UnR X (unaryOp .USub) (rU fun i=>.int (-i)):=unI fun _ _ _ _ _ q=>neg_int q
end
def bc1:V → V → Bool
 | .non,.non=>true | .non,.int _=>true | .int _,.non=>true | .non,.bl _=>true | .bl _,.non=>true | .non,.str _=>true | .str _,.non=>true
 | .int _,.int _=>true | .bl _,.bl _=>true | .str _,.str _=>true | .byt _,.byt _=>true
 | .int _,.str _=>true | .str _,.int _=>true | .bl _,.str _=>true | .str _,.bl _=>true
 | _,_=>false
def rEq:R2:=fun x y H Q=>bc1 x y = true ∧ Q (.bl (decide (x = y))) H
def rNe:R2:=fun x y H Q=>bc1 x y = true ∧ Q (.bl (!decide (x = y))) H
theorem aK5 {i j:Int}:decide (V.int i = V.int j) = (i == j):=by
 rw [Bool.eq_iff_iff]
 simp
theorem aS9 {i j:Bool}:decide (V.bl i = V.bl j) = (i == j):=by
 rw [Bool.eq_iff_iff]
 simp
theorem aK3 {i j:Str}:decide (V.str i = V.str j) = (i == j):=by
 rw [Bool.eq_iff_iff]
 simp
theorem aI2 {i j:Array UInt8}:decide (V.byt i = V.byt j) = (i.toList == j.toList):=by
 rw [Bool.eq_iff_iff]
 cases i
 cases j
 simp
section
variable {X:Cx} {a b c:Expr} {ta tb tc:TE} {pos:Pos}
theorem y7 {pins:List (Addr × Obj)} {σ:St} {H:Hp} {s:Shared} {Q:VK} {k k':Bool} (I:Inv X pins σ H s) (q:Q (.bl k) H) (e:k = k'):EP X pins σ Q (.bool k') s:=by
 subst e
 exact ⟨.bl k,H,I,rfl,q⟩
theorem C4:OpR X (compareOp .Eq) rEq:=by
 intro pins s σ H x y v u Q I rx ry h
 obtain ⟨hs,q⟩:=h
 cases x with
 | non =>
  cases rx
  cases y with
  | non=>cases ry; exact PySem.EqNone.eq_none_none (y7 I q (by simp))
  | bl j=>cases ry; exact PySem.EqNone.eq_none_bool (y7 I q (by simp))
  | int j=>obtain ⟨t',rfl⟩:=ry; exact PySem.EqNone.eq_none_int (y7 I q (by simp))
  | str j=>obtain ⟨t',rfl⟩:=ry; exact PySem.EqNone.eq_none_str (y7 I q (by simp))
  | _=>exact absurd (show false = true from hs) Bool.false_ne_true
 | bl i =>
  cases rx
  cases y with
  | non=>cases ry; exact PySem.EqNone.eq_bool_none (y7 I q (by simp))
  | bl j=>cases ry; exact eq_bool (y7 I q aS9)
  | str j=>obtain ⟨t',rfl⟩:=ry; exact PySem.EqMixed.eq_bool_str (y7 I q (by simp))
  | _=>exact absurd (show false = true from hs) Bool.false_ne_true
 | int i =>
  obtain ⟨t,rfl⟩:=rx
  cases y with
  | non=>cases ry; exact PySem.EqNone.eq_int_none (y7 I q (by simp))
  | int j=>obtain ⟨t',rfl⟩:=ry; exact eq_int (y7 I q aK5)
  | str j=>obtain ⟨t',rfl⟩:=ry; exact PySem.EqMixed.eq_int_str (y7 I q (by simp))
  | _=>exact absurd (show false = true from hs) Bool.false_ne_true
 | str i =>
  obtain ⟨t,rfl⟩:=rx
  cases y with
  | non=>cases ry; exact PySem.EqNone.eq_str_none (y7 I q (by simp))
  | bl j=>cases ry; exact PySem.EqMixed.eq_str_bool (y7 I q (by simp))
  | int j=>obtain ⟨t',rfl⟩:=ry; exact PySem.EqMixed.eq_str_int (y7 I q (by simp))
  | str j=>obtain ⟨t',rfl⟩:=ry; exact eq_str (y7 I q aK3)
  | _=>exact absurd (show false = true from hs) Bool.false_ne_true
 | byt i =>
  obtain ⟨t,rfl⟩:=rx
  cases y with
  | byt j=>obtain ⟨t',rfl⟩:=ry; exact PySem.W.eq_bytes (y7 I q aI2)
  | _=>exact absurd (show false = true from hs) Bool.false_ne_true
 | _=>cases y <;> exact absurd (show false = true from hs) Bool.false_ne_true
theorem al9:OpR X (compareOp .NotEq) rNe:=by
 intro pins s σ H x y v u Q I rx ry h
 obtain ⟨hs,q⟩:=h
 cases x with
 | non =>
  cases rx
  cases y with
  | non=>cases ry; exact PySem.EqNone.ne_none_none (y7 I q (by simp))
  | bl j=>cases ry; exact PySem.EqNone.ne_none_bool (y7 I q (by simp))
  | int j=>obtain ⟨t',rfl⟩:=ry; exact PySem.EqNone.ne_none_int (y7 I q (by simp))
  | str j=>obtain ⟨t',rfl⟩:=ry; exact PySem.EqNone.ne_none_str (y7 I q (by simp))
  | _=>exact absurd (show false = true from hs) Bool.false_ne_true
 | bl i =>
  cases rx
  cases y with
  | non=>cases ry; exact PySem.EqNone.ne_bool_none (y7 I q (by simp))
  | bl j=>cases ry; exact ne_bool (y7 I q (congrArg not aS9))
  | str j=>obtain ⟨t',rfl⟩:=ry; exact PySem.EqMixed.ne_bool_str (y7 I q (by simp))
  | _=>exact absurd (show false = true from hs) Bool.false_ne_true
 | int i =>
  obtain ⟨t,rfl⟩:=rx
  cases y with
  | non=>cases ry; exact PySem.EqNone.ne_int_none (y7 I q (by simp))
  | int j=>obtain ⟨t',rfl⟩:=ry; exact ne_int (y7 I q (congrArg not aK5))
  | str j=>obtain ⟨t',rfl⟩:=ry; exact PySem.EqMixed.ne_int_str (y7 I q (by simp))
  | _=>exact absurd (show false = true from hs) Bool.false_ne_true
 | str i =>
  obtain ⟨t,rfl⟩:=rx
  cases y with
  | non=>cases ry; exact PySem.EqNone.ne_str_none (y7 I q (by simp))
  | bl j=>cases ry; exact PySem.EqMixed.ne_str_bool (y7 I q (by simp))
  | int j=>obtain ⟨t',rfl⟩:=ry; exact PySem.EqMixed.ne_str_int (y7 I q (by simp))
  | str j=>obtain ⟨t',rfl⟩:=ry; exact ne_str (y7 I q (congrArg not aK3))
  | _=>exact absurd (show false = true from hs) Bool.false_ne_true
 | byt i =>
  obtain ⟨t,rfl⟩:=rx
  cases y with
  | byt j=>obtain ⟨t',rfl⟩:=ry; exact PySem.W.ne_bytes (y7 I q (congrArg not aI2))
  | _=>exact absurd (show false = true from hs) Bool.false_ne_true
 | _=>cases y <;> exact absurd (show false = true from hs) Bool.false_ne_true
theorem S2:OpR X (compareOp .Lt) (rI0 fun i j=>.bl (decide (i < j))):=a84 fun _ _ _ _ _ _ _ q=>lt_int q
theorem W4:OpR X (compareOp .LtE) (rI0 fun i j=>.bl (decide (i ≤ j))):=a84 fun _ _ _ _ _ _ _ q=>le_int q
theorem a62:OpR X (compareOp .GtE) (rI0 fun i j=>.bl (decide (j ≤ i))):=a84 fun _ _ _ _ _ _ _ q=>ge_int q
theorem Q7:OpR X (compareOp .Is) (fun x y H Q=>y = .non ∧ Q (.bl (decide (x = .non))) H):=by
 intro pins s σ H x y v u Q I rx ry h
 obtain ⟨rfl,q⟩:=h
 cases ry
 refine is_none_gen (y7 I q ?_)
 cases x <;> first
  | (cases rx; rfl)
  | (obtain ⟨t,rfl⟩:=rx; rfl)
theorem V4:OpR X (compareOp .IsNot) (fun x y H Q=>y = .non ∧ Q (.bl (!decide (x = .non))) H):=by
 intro pins s σ H x y v u Q I rx ry h
 obtain ⟨rfl,q⟩:=h
 cases ry
 refine isnot_none_gen (y7 I q ?_)
 cases x <;> first
  | (cases rx; rfl)
  | (obtain ⟨t,rfl⟩:=rx; rfl)
theorem m7 (b:Expr) {op:CmpOp} (h:op ≠ .In:=by decide) (h2:op ≠ .NotIn:=by decide):behindInMarks op b = false:=by
 have e1:(op == CmpOp.In) = false:=by cases op <;> first | rfl | exact absurd rfl h
 have e2:(op == CmpOp.NotIn) = false:=by cases op <;> first | rfl | exact absurd rfl h2
 cases b <;> simp [behindInMarks,e1,e2]
theorem J8 {op:CmpOp} {r:R2} (ho:OpR X (compareOp op) r) (ha:PE X a ta) (hb:PE X b tb) (hm:behindInMarks op b = false):PE X (.Compare a [op] [b] pos) (tOp r ta tb):=by
 intro pins s σ H Q I h
 exact wpAny_Compare1 (bb7 ha hb I h fun v u s2 x y H2 I2 rx ry q=>ho pins s2 σ H2 x y v u Q I2 rx ry q) hm
def a73 (t:TE):TT:=fun σ H Q=>t σ H fun x H'=>∃ k,x = .bl k ∧ Q k H'
theorem j8 {op:CmpOp} {r:R2} (ho:OpR X (compareOp op) r) (ha:PE X a ta) (hb:PE X b tb) (hm:behindInMarks op b = false):PT X (.Compare a [op] [b] pos) (a73 (tOp r ta tb)):=by
 intro pins s σ H Q I h
 refine wpAny_isTrue_Compare1 (thn (ha pins s σ H _ I h) fun v s1 ⟨x,H1,I1,r1,q1⟩=>thn (hb pins s1 σ H1 _ I1 q1) fun u s2 ⟨y,H2,I2,r2,q2⟩ =>
  thn (ho pins s2 σ H2 x y v u _ I2 r1 r2 q2) fun c s3 ⟨z,H3,I3,r3,k,e,q3⟩=>?_) hm
 subst e
 cases r3
 exact wpAny_truthy_bool ⟨H3,I3,q3⟩
def aQ7 (r r':R2) (ta tb tc:TE):TE:=fun σ H Q=>ta σ H fun x H1=>tb σ H1 fun y H2=>r x y H2 fun z H3=>∃ k,z = .bl k ∧
 (if k = true then tc σ H3 fun w' H4=>r' y w' H4 Q else Q (.bl false) H3)
theorem U1 {op op':CmpOp} {r r':R2} (ho:OpR X (compareOp op) r) (ho':OpR X (compareOp op') r') (ha:PE X a ta) (hb:PE X b tb) (hc:PE X c tc)
  (hm:lastMarks [op,op'] [b,c] = false:=by with_unfolding_all rfl):PE X (.Compare a [op,op'] [b,c] pos) (aQ7 r r' ta tb tc):=by
 intro pins s σ H Q I h
 refine Compare_chain (thn (ha pins s σ H _ I h) fun v s1 ⟨x,H1,I1,r1,q1⟩=>chain_link (thn (hb pins s1 σ H1 _ I1 q1) fun u s2 ⟨y,H2,I2,r2,q2⟩ =>
  thn (ho pins s2 σ H2 x y v u _ I2 r1 r2 q2) fun d s3 ⟨z,H3,I3,r3,k,e,q3⟩=>?_)) hm
 subst e
 cases r3
 refine wpAny_truthy_bool ?_
 cases k with
 | false=>exact ite_ff ⟨.bl false,H3,I3,rfl,q3⟩
 | true=>exact ite_tt (chain_last (thn (hc pins s3 σ H3 _ I3 q3) fun w' s4 ⟨z',H4,I4,r4,q4⟩=>ho' pins s4 σ H4 y z' u w' Q I4 r2 r4 q4))
theorem Z8 {op op':CmpOp} {r r':R2} (ho:OpR X (compareOp op) r) (ho':OpR X (compareOp op') r') (ha:PE X a ta) (hb:PE X b tb) (hc:PE X c tc)
  (hm:lastMarks [op,op'] [b,c] = false:=by with_unfolding_all rfl):PT X (.Compare a [op,op'] [b,c] pos) (a73 (aQ7 r r' ta tb tc)):=by
 intro pins s σ H Q I h
 refine isTrue_chain (thn (ha pins s σ H _ I h) fun v s1 ⟨x,H1,I1,r1,q1⟩=>test_link (thn (hb pins s1 σ H1 _ I1 q1) fun u s2 ⟨y,H2,I2,r2,q2⟩ =>
  thn (ho pins s2 σ H2 x y v u _ I2 r1 r2 q2) fun d s3 ⟨z,H3,I3,r3,k,e,q3⟩=>?_)) hm
 subst e
 cases r3
 refine wpAny_truthy_bool ?_
 cases k with
 | false =>
  obtain ⟨k',e',q'⟩:=q3
  cases e'
  exact ite_ff ⟨H3,I3,q'⟩
 | true =>
  refine ite_tt (test_last (thn (hc pins s3 σ H3 _ I3 q3) fun w' s4 ⟨z',H4,I4,r4,q4⟩=>thn (ho' pins s4 σ H4 y z' u w' _ I4 r2 r4 q4) fun d' s5 ⟨z2,H5,I5,r5,k2,e2,q5⟩=>?_))
  subst e2
  cases r5
  exact wpAny_truthy_bool ⟨H5,I5,q5⟩
def a82 (K:PySem.W.Frag) (x:V) (H:Hp) (k:Bool):Prop :=
 match x with
 | .non=>k = false
 | .bl b=>k = b
 | .int i=>k = (i != 0)
 | .str y=>y.length ≤ sizeLine ∧ k = ((y.length:Int) != 0)
 | .byt y=>y.size ≤ sizeLine ∧ k = ((y.size:Int) != 0)
 | .ref p=>(∃ xs,SqL K H p xs ∧ k = !xs.isEmpty) ∨ (∃ xs,SqT K H p xs ∧ k = !xs.isEmpty) ∨ ∃ kvs,H p = some (.dK kvs) ∧ k = !kvs.isEmpty
 | _=>False
theorem aD0 {κ:Type} {kvs:List (κ × V)} {vs:List (κ × Value)} (r:KV kvs vs):(!vs.isEmpty) = !kvs.isEmpty:=by
 cases r <;> rfl
theorem ah6 {xs:List V} {its:List Value} (r:u0 xs its):(!its.toArray.isEmpty) = !xs.isEmpty:=by
 cases r <;> simp
theorem X8:(sizeLine:Nat) < 2 ^ 63:=by rw [sizeLine_eq]; decide
theorem a_1:bd8 X (fun x H Q=>∃ k,a82 X.K x H k ∧ Q k H):=by
 intro pins s σ H x v Q I rx h
 obtain ⟨k,e,q⟩:=h
 have hl:=X8
 have hs:sizeLine = 16777216:=sizeLine_eq
 cases x with
 | non =>
  cases rx
  have e':k = false:=e
  subst e'
  exact truthy_none ⟨H,I,q⟩
 | bl b =>
  cases rx
  have e':k = b:=e
  subst e'
  exact wpAny_truthy_bool ⟨H,I,q⟩
 | int i =>
  obtain ⟨t,rfl⟩:=rx
  have e':k = (i != 0):=e
  subst e'
  exact PySem.P.truthy_int ⟨H,I,q⟩
 | str y =>
  obtain ⟨t,rfl⟩:=rx
  obtain ⟨hy,e'⟩:y.length ≤ sizeLine ∧ k = ((y.length:Int) != 0):=e
  subst e'
  exact PySem.P.truthy_str (by lia) ⟨H,I.tok _,q⟩
 | byt y =>
  obtain ⟨t,rfl⟩:=rx
  obtain ⟨hy,e'⟩:y.size ≤ sizeLine ∧ k = ((y.size:Int) != 0):=e
  subst e'
  exact PySem.W.truthy_bytes (by lia) ⟨H,I.tok _,q⟩
 | ref p =>
  cases rx
  have e':(∃ xs,SqL X.K H p xs ∧ k = !xs.isEmpty) ∨ (∃ xs,SqT X.K H p xs ∧ k = !xs.isEmpty) ∨ ∃ kvs,H p = some (.dK kvs) ∧ k = !kvs.isEmpty:=e
  rcases e' with ⟨xs,hx,e'⟩ | ⟨xs,hx,e'⟩ | ⟨kvs,hx,e'⟩
  ·subst e'
   obtain ⟨its,r,pl,hz⟩:=I.list hx
   have hlen:=r.length
   exact wpAny_truthy_list pl.isList (by simp only [List.size_toArray]; lia) ⟨H,I.tok _,by rw [ah6 r]; exact q⟩
  ·subst e'
   obtain ⟨its,r,pl,hz⟩:=I.tuple hx
   have hlen:=r.length
   exact truthy_tuple pl (by simp only [List.size_toArray]; lia) ⟨H,I.tok _,by rw [ah6 r]; exact q⟩
  ·subst e'
   obtain ⟨hz,hS,vs,r,m⟩:kvs.length ≤ sizeLine ∧ (p == sysModules) = false ∧ ∃ vs,KV kvs vs ∧ s.heap.DictOf (D3 X.prog X.w) p vs:=I.hok p _ hx
   have hlen:kvs.length = vs.length:=Paired.length r
   exact wpAny_truthy_dict hS m (by lia) ⟨H,I.tok _,by rw [aD0 r]; exact q⟩
 | _=>exact (show False from e).elim
theorem aT6 (ha:PE X a ta) (he:∀ whole,isTrue a X.env whole = (do let v ← whole; standAt a.pos; holding [v] (truthy v))) :
  PT X a (fun σ H Q=>ta σ H fun x H'=>∃ k,a82 X.K x H' k ∧ Q k H'):=by
 intro pins s σ H Q I h
 exact isTrue_plain (thn (ha pins s σ H _ I h) fun v s1 ⟨x,H1,I1,r1,q1⟩=>a_1 pins s1 σ H1 x v Q I1 r1 q1) (he _)
theorem P7 {x:V} {us:List Value} (r:u0 [x] us):∃ u,us = [u] ∧ x8 x u:=by
 cases r with
 | cons r1 r2=>cases r2; exact ⟨_,rfl,r1⟩
theorem am2 {x y:V} {us:List Value} (r:u0 [x,y] us):∃ u w',us = [u,w'] ∧ x8 x u ∧ x8 y w':=by
 cases r with
 | cons r1 r2 =>
  cases r2 with
  | cons r3 r4=>cases r4; exact ⟨_,_,rfl,r1,r3⟩
theorem aU0:B0 X (.builtin "abs") (fun xs H Q=>∃ i,xs = [.int i] ∧ Q (.int (if i < 0 then -i else i)) H):=by
 intro pins s σ H xs us Q I r h
 obtain ⟨i,rfl,q⟩:=h
 obtain ⟨u,rfl,t,rfl⟩:=P7 r
 exact call_abs_int fun u tk=>⟨.int (if i < 0 then -i else i),H,I.tok _,⟨_,rfl⟩,q⟩
theorem am7 (hc:X.calm = true):B0 X (.builtin "min") (fun xs H Q=>∃ i j,xs = [.int i,.int j] ∧ Q (.int (if j < i then j else i)) H):=by
 intro pins s σ H xs us Q I r h
 obtain ⟨i,j,rfl,q⟩:=h
 obtain ⟨u,w',rfl,⟨t,rfl⟩,⟨t',rfl⟩⟩:=am2 r
 refine min_two_ints (I.ok.hd hc) fun h' tk k=>⟨_,H,I.kept k,?_,q⟩
 by_cases hj:j < i
 ·rw [if_pos hj,if_pos hj]; exact ⟨_,rfl⟩
 ·rw [if_neg hj,if_neg hj]; exact ⟨_,rfl⟩
theorem ad0:B0 X (.builtin "divmod") (fun xs H Q=>∃ i j,xs = [.int i,.int j] ∧ bc6 i j ∧ ∀ p,H p = none → Q (.ref p) (upd H p (.tup [.int (i / j),.int (i % j)]))):=by
 intro pins s σ H xs us Q I r h
 obtain ⟨i,j,rfl,⟨h1,h2⟩,q⟩:=h
 obtain ⟨u,w',rfl,⟨t,rfl⟩,⟨t',rfl⟩⟩:=am2 r
 refine divmod_int (by lia) ?_ (.inl (PyProof.noPylong_small (by lia)))
 rw [Int.fdiv_eq_ediv_of_nonneg i (by lia),Int.fmod_eq_emod_of_nonneg i (by lia)]
 have hn:H s.heap.objs.size = none:=I.hok.fresh (Nat.le_refl _)
 refine ⟨.ref s.heap.objs.size,_,?_,rfl,q _ hn⟩
 refine I.laid (fun b o e=>Heap.get?_push_of_some _ e) (Nat.le_refl _) ⟨by simp only [List.length_cons,List.length_nil]; rw [sizeLine_eq]; decide,[.int (i / j) s.toks,.int (i % j) (s.toks + 1)],.cons ⟨_,rfl⟩ (.cons ⟨_,rfl⟩ .nil),?_⟩
 exact ⟨_,Heap.get?_push_size s.heap rfl,rfl,0,rfl⟩
end
end L2
namespace L2
open PySem PySem.Spec PyProof.Rows
structure ObjM (h:Heap) (x dx C:Addr) (mA:Str → Option Value):Prop where
 obj:h.get? x = some (PySem.W.instObj C dx)
 ns:h.Ns1 dx mA
 ne:dx ≠ x
theorem ab8 {h:Heap} {dx:Addr} {mA:Str → Option Value} (n:h.Ns1 dx mA):∃ od,h.get? dx = some od ∧ ∀ name,PySem.W.lookIn name od = some (mA name):=by
 obtain ⟨o,es,ep,ho,hd,hk,_,hm⟩:=n
 refine ⟨o,ho,fun name=>?_⟩
 have e:=hm name
 unfold nsFind findBy at e
 rw [← Array.find?_toList] at e
 unfold PySem.W.lookIn
 rw [hd]
 dsimp only
 split
 ·rename_i y q
  rw [q] at e
  exact congrArg some e
 ·rename_i q
  rw [q] at e
  have a:es.toList.any (·.refKey) = false:=by
   rw [List.any_eq_false]
   intro y hy
   obtain ⟨z,t,hkey⟩:=hk y (Array.mem_toList_iff.mp hy)
   simp [DictEntry.refKey,hkey]
  have a':¬ es.toList.any (·.refKey) = true:=by rw [a]; exact Bool.false_ne_true
  rw [if_neg a']
  exact congrArg some e
theorem ObjM.look {h:Heap} {x dx C:Addr} {mA:Str → Option Value} (I:ObjM h x dx C mA):∃ od,PySem.W.InstAt h x (PySem.W.instObj C dx) C (some od) ∧ ∀ name,PySem.W.lookIn name od = some (mA name) :=
 let ⟨od,ho,hl⟩:=ab8 I.ns
 ⟨od,⟨I.obj,rfl,rfl,ho⟩,hl⟩
section
variable {prog:Program} {w:World} {A:Around} {E:Value → Shared → Prop} {s:Shared} {K:PySem.W.Frag} {x dx C f:Addr} {mA:Str → Option Value} {name:Str} {v:Value}
theorem a47 {expr:Bool} {Q:Value → Shared → Prop} (X:K.In s.heap) (I:ObjM s.heap x dx C mA) (hg:PySem.W.plainGet K C name = true) (hh:PySem.W.hasDictIn K C = true)
  (ha:PySem.W.findIn K (.ref C) name = some none) (hv:mA name = some v) (hv':PySem.W.handedIn v = true) (h:Q v { s with toks:=s.toks + 1 }) :
  wpAny (model prog w) A (getAttr (.ref x) name expr) Q E s:=by
 obtain ⟨od,J,hl⟩:=I.look
 exact PySem.W.get_value X J (PySem.W.plainGet_of hg).1 (PySem.W.findObj_own hh ha rfl (by rw [hl,hv])) hv' h
theorem aV0 {pl:Sem Bool} {Q:Value × List Value → Shared → Prop} (X:K.In s.heap) (I:ObjM s.heap x dx C mA) (hg:PySem.W.plainGet K C name = true)
  (hf:PySem.W.findIn K (.ref C) name = some (some (.ref f))) (ht:PySem.W.isFn K (.ref f) = true) (hv:mA name = none) (h:Q (.ref f,[.ref x]) s) :
  wpAny (model prog w) A (getMethod (.ref x) name pl) Q E s:=by
 obtain ⟨od,J,hl⟩:=I.look
 exact PySem.W.method_fn X J (PySem.W.plainGet_of hg).1 (PySem.W.plainGet_of hg).2 hf (beq_iff_eq.mp ht) (by show (PySem.W.lookIn name od).map (·.isSome) = some false; rw [hl,hv]; rfl) h
theorem a53 {ns:List Str} {Q:Unit → Shared → Prop} (X:K.In s.heap) (I:ObjM s.heap x dx C mA)
  (hs:PySem.W.findIn K (.ref C) "__setattr__" = some (some (.builtin "object.__setattr__"))) (hp:PySem.W.plainOver K C = true) (ht:PySem.W.takerIn K C name = some none) (hh:PySem.W.hasDictIn K C = true)
  (hw:PySem.Within mA ns) (hsz:ns.length ≤ sizeLine)
  (h:∀ h',ObjM h' x dx C (fun y=>if y = name then some v else mA y) → Heap.SameBut dx s.heap h' → Q () { s with heap:=h',toks:=s.toks + 2 }) :
  wpAny (model prog w) A (setAttr (.ref x) name v) Q E s:=by
 obtain ⟨od,J,hl⟩:=I.look
 refine PySem.W.set_plain X J hs (PySem.W.osa_open (s:={ s with toks:=s.toks + 1 }) (r:=none) X J hp ht fun b=>?_)
 obtain ⟨cd,hc,hd'⟩:=PySem.W.any_some hh
 have hx:s.heap.get? x = some ⟨.ref C,some dx,.plain,#[]⟩:=I.obj
 refine wpAny_bind (wpAny_pure (wpAny_bind (wpAny_bind (wpAny_loadPart hx (wpAny_bind (PySem.W.Looks.here (s:={ s with toks:=s.toks + 1 }) (PySem.W.looks_clsIn X hc) ?_))))))
 rw [hd']
 refine wpAny_pure (a:=some dx) (wpAny_bind (wpAny_pure (wpAny_bind ?_)))
 refine wpAny_nsSet1 (s:={ s with toks:=s.toks + 1 }) I.ns fun h' hn2 hs2=>?_
 obtain ⟨oD,esD,epD,hoD,hdD,hcD⟩:=hn2.count (PySem.Within.cons name v hw)
 refine wpAny_bind (wpAny_lookBehind hoD (by rw [hdD]; exact pastItsLine_dict (Nat.le_trans hcD (by rw [List.length_cons]; lia))) ?_)
 exact wpAny_pure (h _ ⟨(hs2.2 _ (Ne.symm I.ne)).trans I.obj,hn2,I.ne⟩ hs2)
theorem aS6 {R:Result → Shared → Prop} {vs:List Value} {kw:List (Str × Value)} (X:K.In s.heap) (hm:PySem.W.makesIn K C = true)
  (hi:PySem.W.findIn K (.ref C) "__init__" = some (some (.ref f))) (hf:PySem.W.typeIn K (.ref f) = some (.type "function"))
  (h:codeAny (model prog w) (A.under (.builtin "type.__call__" ⟨.ref C :: vs,kw⟩)) (.call (.ref f) ⟨.ref (s.heap.objs.size + 1) :: vs,kw⟩) (PySem.W.InitBack (s.heap.objs.size + 1) R)
   { s with heap:=(s.heap.push PySem.W.emptyDict).push (PySem.W.instObj C s.heap.objs.size) }) :
  codeAny (model prog w) A (.call (.ref C) ⟨vs,kw⟩) R s:=by
 obtain ⟨hh,g,d,t,os⟩:=s
 exact PySem.W.make_core (PySem.W.makes_of X hm) (PySem.W.looks_findIn X hi) (fun self=>PySem.W.bind_fn X self hf) (.inl rfl) h
end
def S5 (f:Str) (v:V):List (Str × V) → List (Str × V)
 | []=>[(f,v)]
 | (g,x) :: r=>if g = f then (g,v) :: r else (g,x) :: S5 f v r
theorem ad2 (f g:Str) (v:V):∀ fs:List (Str × V),(S5 f v fs).lookup g = if g = f then some v else fs.lookup g
 | []=>by
  show List.lookup g [(f,v)] = _
  by_cases h:g = f
  ·have hb:(g == f) = true:=beq_iff_eq.mpr h
   simp only [List.lookup,hb,if_pos h]
  ·have hb:(g == f) = false:=beq_eq_false_iff_ne.mpr h
   simp only [List.lookup,hb,if_neg h]
 | (k,x) :: r=>by
  have ih:=ad2 f g v r
  rw [show S5 f v ((k,x) :: r) = (if k = f then (k,v) :: r else (k,x) :: S5 f v r) from rfl]
  by_cases hk:k = f
  ·rw [if_pos hk]
   by_cases h:g = k
   ·have hb:(g == k) = true:=beq_iff_eq.mpr h
    simp only [List.lookup,hb,if_pos (h.trans hk)]
   ·have hb:(g == k) = false:=beq_eq_false_iff_ne.mpr h
    simp only [List.lookup,hb,if_neg (fun e:g = f=>h (e.trans hk.symm))]
  ·rw [if_neg hk]
   by_cases h:g = k
   ·have hb:(g == k) = true:=beq_iff_eq.mpr h
    simp only [List.lookup,hb,if_neg (fun e:g = f=>hk (h.symm.trans e))]
   ·have hb:(g == k) = false:=beq_eq_false_iff_ne.mpr h
    simp only [List.lookup,hb]
    exact ih
theorem ab2 (f:Str) (v:V):∀ fs:List (Str × V),f ∈ (S5 f v fs).map (·.1) ∧ ∀ g,g ∈ fs.map (·.1) → g ∈ (S5 f v fs).map (·.1)
 | []=>⟨by simp [S5],fun g h=>by simp at h⟩
 | (k,x) :: r=>by
  obtain ⟨i1,i2⟩:=ab2 f v r
  rw [show S5 f v ((k,x) :: r) = (if k = f then (k,v) :: r else (k,x) :: S5 f v r) from rfl]
  by_cases hk:k = f
  ·rw [if_pos hk]
   subst hk
   exact ⟨by simp,fun g h=>by simpa using h⟩
  ·rw [if_neg hk]
   refine ⟨?_,fun g h=>?_⟩
   ·rw [List.map_cons]
    exact List.mem_cons_of_mem _ i1
   ·rw [List.map_cons] at h ⊢
    rcases List.mem_cons.mp h with e | e
    ·exact List.mem_cons.mpr (.inl e)
    ·exact List.mem_cons_of_mem _ (i2 g e)
theorem ad8 (f:Str) (v:V):∀ fs:List (Str × V),(S5 f v fs).length ≤ fs.length + 1
 | []=>by simp [S5]
 | (k,x) :: r=>by
  have ih:=ad8 f v r
  rw [show S5 f v ((k,x) :: r) = (if k = f then (k,v) :: r else (k,x) :: S5 f v r) from rfl]
  by_cases hk:k = f
  ·rw [if_pos hk,List.length_cons,List.length_cons]; lia
  ·rw [if_neg hk,List.length_cons,List.length_cons]; lia
theorem U4.some_of {v:V} {o:Option Value} (r:U4 (some v) o):∃ u,o = some u ∧ x8 v u:=by
 cases o with
 | none=>exact (show False from r).elim
 | some u=>exact ⟨u,rfl,r⟩
theorem U4.none_of {o:Option Value} (r:U4 none o):o = none:=by
 cases o with
 | none=>rfl
 | some u=>exact (show False from r).elim
theorem ap4 {v:V} {u:Value} (r:x8 v u):PySem.W.handedIn u = true:=by
 cases v with
 | non=>cases (show u = Value.none from r); rfl
 | bl b=>cases (show u = Value.bool b from r); rfl
 | int i=>obtain ⟨t,e⟩:=(show ∃ t,u = Value.int i t from r); cases e; rfl
 | str x=>obtain ⟨t,e⟩:=(show ∃ t,u = Value.str x t from r); cases e; rfl
 | byt b=>obtain ⟨t,e⟩:=(show ∃ t,u = Value.bytes b t from r); cases e; rfl
 | flt b=>obtain ⟨t,e⟩:=(show ∃ t,u = Value.float b t from r); cases e; rfl
 | ref a=>cases (show u = Value.ref a from r); rfl
 | ty n=>cases (show u = Value.type n from r); rfl
section
variable {P:Program} {w:World} {H H':Hp} {h h':Heap} {a C dx:Addr} {fs fs':List (Str × V)}
theorem Z1 (hok:HOk P w H h) (e:H a = some (.ins C dx fs)):∃ mA,ObjM h a dx C mA ∧ (∀ f,U4 (fs.lookup f) (mA f)) ∧ PySem.Within mA (fs.map (·.1)) ∧ fs.length ≤ 1000 ∧ H dx = some (.own a):=by
 obtain ⟨d,z,ne,ob,mA,n,r,q⟩:=(show w6 P w H h a (.ins C dx fs) from hok a _ e)
 exact ⟨mA,⟨ob,n,ne⟩,r,q,z,d⟩
end
structure Cls (K:PySem.W.Frag) (C:Addr):Prop where
 pg:PySem.W.plainGet K C Str.empty = true
 hd:PySem.W.hasDictIn K C = true
 po:PySem.W.plainOver K C = true
 sa:PySem.W.findIn K (.ref C) "__setattr__" = some (some (.builtin "object.__setattr__"))
theorem Cls.get {K:PySem.W.Frag} {C:Addr} (c:Cls K C) (f:Str):PySem.W.plainGet K C f = true:=c.pg
def W7 (K:PySem.W.Frag) (C:Addr) (f:Str):Prop:=PySem.W.findIn K (.ref C) f = some none
theorem W7.taker {K:PySem.W.Frag} {C:Addr} {f:Str} (n:W7 K C f):PySem.W.takerIn K C f = some none:=by
 unfold PySem.W.takerIn
 rw [show PySem.W.findIn K (.ref C) f = some none from n]
 rfl
structure Meth (K:PySem.W.Frag) (C:Addr) (m:Str) (f:Addr):Prop where
 at_:PySem.W.findIn K (.ref C) m = some (some (.ref f))
 fn:PySem.W.isFn K (.ref f) = true
 kp:PySem.W.keepIn K (.ref f) = true
section
variable {X:Cx} {pins:List (Addr × Obj)} {σ:St} {H:Hp} {s:Shared} {a C dx:Addr} {fs:List (Str × V)} {f:Str} {v:V} {A:Around} {E:Value → Shared → Prop}
theorem aD3 {b:Bool} {Q:Value → Shared → Prop} (I:Inv X pins σ H s) (e:H a = some (.ins C dx fs)) (c:Cls X.K C) (n:W7 X.K C f) (l:fs.lookup f = some v)
  (h:∀ u s',Inv X pins σ H s' → x8 v u → Q u s'):wpAny (model X.prog X.w) A (getAttr (.ref a) f b) Q E s:=by
 obtain ⟨mA,O,r,_,_,_⟩:=Z1 I.hok e
 obtain ⟨u,hu,ru⟩:=U4.some_of (v:=v) (o:=mA f) (by rw [← l]; exact r f)
 exact a47 I.kIn O (c.get f) c.hd n hu (ap4 ru) (h u _ (I.tok _) ru)
theorem ag0 {m:Str} {g:Addr} {pl:Sem Bool} {Q:Value × List Value → Shared → Prop} (I:Inv X pins σ H s) (e:H a = some (.ins C dx fs)) (c:Cls X.K C) (k:Meth X.K C m g) (l:fs.lookup m = none)
  (h:Q (.ref g,[.ref a]) s):wpAny (model X.prog X.w) A (getMethod (.ref a) m pl) Q E s:=by
 obtain ⟨mA,O,r,_,_,_⟩:=Z1 I.hok e
 have hn:mA m = none:=U4.none_of (by rw [← l]; exact r m)
 exact aV0 I.kIn O (c.get m) k.at_ k.fn hn h
theorem aG2 {y:V} {u:Value} {Q:Unit → Shared → Prop} (I:Inv X pins σ H s) (e:H a = some (.ins C dx fs)) (c:Cls X.K C) (n:W7 X.K C f) (hl:fs.length < 1000) (ry:x8 y u)
  (h:∀ s',Inv X pins σ (upd H a (.ins C dx (S5 f y fs))) s' → Q () s'):wpAny (model X.prog X.w) A (setAttr (.ref a) f u) Q E s:=by
 obtain ⟨mA,O,r,wi,_,ho⟩:=Z1 I.hok e
 have hz:(fs.map (·.1)).length ≤ sizeLine:=by rw [List.length_map,sizeLine_eq]; lia
 refine a53 I.kIn O c.sa c.po n.taker c.hd wi hz fun h' O' sb=>h _ ?_
 have hd:∃ o,h'.get? dx = some o:=let ⟨o,_,_,e',_⟩:=O'.ns; ⟨o,e'⟩
 refine I.write (x:=a) (e:=dx) (by rw [e]; exact True.intro) (.inr ho) (fun b q hb z=>(sb.2 b hb).trans z) hd ?_
 refine ⟨by rw [j4 O.ne]; exact ho,?_,O.ne,O'.obj,_,O'.ns,fun g=>?_,fun g hg=>?_⟩
 ·have:=ad8 f y fs; lia
 ·show U4 ((S5 f y fs).lookup g) (if g = f then some u else mA g)
  rw [ad2]
  by_cases q:g = f
  ·rw [if_pos q,if_pos q]; exact ry
  ·rw [if_neg q,if_neg q]; exact r g
 ·by_cases q:g = f
  ·rw [q]; exact (ab2 f y fs).1
  ·refine (ab2 f y fs).2 g (wi g fun z=>hg ?_)
   show (if g = f then some u else mA g) = none
   rw [if_neg q]; exact z
theorem Inv.made (I:Inv X pins σ H s):Inv X pins σ (upd (upd H s.heap.objs.size (.own (s.heap.objs.size + 1))) (s.heap.objs.size + 1) (.ins C s.heap.objs.size []))
  { s with heap:=(s.heap.push PySem.W.emptyDict).push (PySem.W.instObj C s.heap.objs.size) }:=by
 have e1:(s.heap.push PySem.W.emptyDict).get? s.heap.objs.size = some PySem.W.emptyDict:=Heap.get?_push_size s.heap rfl
 have e2:((s.heap.push PySem.W.emptyDict).push (PySem.W.instObj C s.heap.objs.size)).get? (s.heap.objs.size + 1) = some (PySem.W.instObj C s.heap.objs.size):=by
  have:=Heap.get?_push_size (s.heap.push PySem.W.emptyDict) (o:=PySem.W.instObj C s.heap.objs.size) rfl
  rwa [Heap.size_push] at this
 have e3:(s.heap.push PySem.W.emptyDict).Ns s.heap.objs.size (fun _=>none):=⟨PySem.W.emptyDict,#[],_,e1,rfl,(fun e he=>absurd he (by simp)),fun _=>rfl⟩
 have I1:=I.laid (a:=s.heap.objs.size) (o:=.own (s.heap.objs.size + 1)) (h':=s.heap.push PySem.W.emptyDict) (t':=s.toks) (fun b u q=>Heap.get?_push_of_some _ q) (Nat.le_refl _) ⟨_,e1⟩
 refine I1.laid (a:=s.heap.objs.size + 1) (o:=.ins C s.heap.objs.size []) (t':=s.toks) (fun b u q=>Heap.get?_push_of_some _ q) (Nat.le_of_eq (Heap.size_push _ _)) ?_
 have ne:s.heap.objs.size ≠ s.heap.objs.size + 1:=Nat.ne_of_lt (Nat.lt_succ_self _)
 refine ⟨by rw [j4 ne,i3],Nat.zero_le _,ne,e2,fun _=>none,(Heap.Ns1.of_empty e3).at fun o q=>Heap.get?_push_of_some _ q,fun _=>True.intro,fun y hy=>absurd rfl hy⟩
theorem aH9 {prog:Program} {w:World} {env:Env} {e:Expr} {f:Str} {pos:Pos} {s:Shared} {Q:Value → Shared → Prop} (hb:attributeBase e f env (eval e env) = eval e env)
  (h:wpAny (model prog w) A (eval e env) (fun o s₁=>wpAny (model prog w) A (getAttr o f true) Q E s₁) E s):wpAny (model prog w) A (eval (.Attribute e f pos) env) Q E s :=
 Attribute_any_ h (by rw [arm_eval_Attribute,hb])
end
def bf2 (K:PySem.W.Frag) (ta:TE) (f:Str):TE:=fun σ H Q=>ta σ H fun x H1=>∃ a C dx fs v,x = .ref a ∧ H1 a = some (.ins C dx fs) ∧ Cls K C ∧ W7 K C f ∧ fs.lookup f = some v ∧ Q v H1
def bh6 (K:PySem.W.Frag) (ta tv:TE) (f:Str):TS:=fun D σ H=>tv σ H fun y H1=>ta σ H1 fun x H2=>∃ a C dx fs,x = .ref a ∧ H2 a = some (.ins C dx fs) ∧ Cls K C ∧ W7 K C f ∧ fs.length < 1000 ∧
 D.nx σ (upd H2 a (.ins C dx (S5 f y fs)))
section
variable {X:Cx} {o e value:Expr} {f:Str} {pos pos' tpos:Pos} {ta tv:TE}
theorem bb6 (he:PE X e ta) (hb:attributeBase e f X.env (eval e X.env) = eval e X.env):PE X (.Attribute e f pos) (bf2 X.K ta f):=by
 intro pins s σ H Q I h
 refine aH9 hb (thn (he pins s σ H _ I h) fun u s1 ⟨x,H1,I1,rx,a,C,dx,fs,v,ex,ea,c,n,l,q⟩=>?_)
 subst ex
 obtain rfl:u = Value.ref a:=rx
 exact aD3 I1 ea c n l fun u' s2 I2 ru=>⟨v,H1,I2,ru,q⟩
theorem aV7 (ha:PE X o ta) (hv:PE X value tv) (hs:swapsWith value (some (.Attribute o f pos')) pos.line X.env = pure false):PS X (.Assign [.Attribute o f pos'] value pos) (bh6 X.K ta tv f):=by
 intro pins s σ H D I h
 refine plainObj_wpAny_Assign_Attribute (thn (hv pins s σ H _ I h) fun u s1 ⟨y,H1,I1,ry,q⟩=>thn (ha pins s1 σ H1 _ I1 q) fun ov s2 ⟨x,H2,I2,rx,a,C,dx,fs,ex,ea,c,n,l,q2⟩=>?_) hs
 subst ex
 obtain rfl:ov = Value.ref a:=rx
 exact aG2 I2 ea c n l ry fun s3 I3=>⟨σ,_,I3,q2⟩
theorem a71 {pl:Sem Bool} {m:Str} {apos:Pos} {args:List Expr} {pins:List (Addr × Obj)} {s:Shared} {σ:St} {H:Hp} {Q:Value → Shared → Prop} {te:TE} (he:PE X e te) (I:Inv X pins σ H s)
  (h:te σ H fun x H1=>∃ a C dx fs g,x = .ref a ∧ H1 a = some (.ins C dx fs) ∧ Cls X.K C ∧ Meth X.K C m g ∧ fs.lookup m = none ∧
   ∀ s1,Inv X pins σ H1 s1 → wpAny (model X.prog X.w) X.A (callWith pos (.ref g) [.ref a] (backTo pos (starEach args X.env)) (backToKw pos (keywordEach [] X.env))) Q X.xe s1)
  (ht:eval (.Call (.Attribute e m apos) args [] pos) X.env = (do
   let ov ← eval e X.env
   standAt apos.atName
   let (f,first) ← holding [ov] (getMethod ov m pl)
   callWith pos f first (backTo pos (starEach args X.env)) (backToKw pos (keywordEach [] X.env)))) :
  wpAny (model X.prog X.w) X.A (eval (.Call (.Attribute e m apos) args [] pos) X.env) Q X.xe s:=by
 refine PySem.W.methodCall_KW (pl:=pl) (thn (he pins s σ H _ I h) fun u s1 ⟨x,H1,I1,rx,a,C,dx,fs,g,ex,ea,c,k,l,q⟩=>?_) ht
 subst ex
 obtain rfl:u = Value.ref a:=rx
 exact ag0 I1 ea c k l (q s1 I1)
end
section
variable {X:Cx} {pins:List (Addr × Obj)} {σ:St} {H:Hp} {s:Shared} {A:Around} {E:Value → Shared → Prop} {Q:Value → Shared → Prop} {c:Value} {b:Bool}
inductive TyOf (K:PySem.W.Frag) (H:Hp):V → Value → Prop where
 | non:TyOf K H .non (.type "NoneType")
 | bl (x:Bool):TyOf K H (.bl x) (.type "bool")
 | int (i:Int):TyOf K H (.int i) (.type "int")
 | str (x:Str):TyOf K H (.str x) (.type "str")
 | flt (x:UInt64):TyOf K H (.flt x) (.type "float")
 | lst {a:Addr} {xs:List V} (e:H a = some (.lst xs)):TyOf K H (.ref a) (.type "list")
 | frz {a:Addr} {o:Obj} {xs:List V} (e:H a = some (.frz o (.lst xs))):TyOf K H (.ref a) (.type "list")
 | tup {a:Addr} {xs:List V} (e:H a = some (.tup xs)):TyOf K H (.ref a) (.type "tuple")
 | dK {a:Addr} {kvs:List (Key × V)} (e:H a = some (.dK kvs)):TyOf K H (.ref a) (.type "dict")
 | dT {a:Addr} {kvs:List (List Key × V)} (e:H a = some (.dT kvs)):TyOf K H (.ref a) (.type "dict")
 | ins {a C dx:Addr} {fs:List (Str × V)} (e:H a = some (.ins C dx fs)) (cl:Cls K C) (ha:PySem.W.findIn K (.ref C) "__class__" = some (some (.builtin "object.__class__")))
   (hn:PySem.W.specialIn K (.builtin "object.__class__") "__get__" = some (some (.builtin "getset_descriptor.__get__"))) (htk:PySem.W.takesIn K (.builtin "object.__class__") = some true)
   (hm:PySem.W.mroIn K C (.type "object") = some true):TyOf K H (.ref a) (.ref C)
theorem aL1 {x:V} {u t:Value} (I:Inv X pins σ H s) (rx:x8 x u) (ty:TyOf X.K H x t) (e:PySem.W.kitOne X.K t c = some b) (h:∀ tk,Q (.bool b) { s with toks:=tk }) :
  wpAny (model X.prog X.w) A (call (.builtin "isinstance") [u,c]) Q E s:=by
 cases ty with
 | non=>cases (show u = Value.none from rx); exact PySem.W.kia_one PySem.W.kitx_none I.kIn True.intro e (fun z=>nomatch z) h
 | bl y=>cases (show u = Value.bool y from rx); exact PySem.W.kia_one PySem.W.kitx_bool I.kIn True.intro e (fun z=>nomatch z) h
 | int i=>obtain ⟨t,q⟩:=(show ∃ t,u = Value.int i t from rx); cases q; exact PySem.W.kia_one PySem.W.kitx_int I.kIn True.intro e (fun z=>nomatch z) h
 | str y=>obtain ⟨t,q⟩:=(show ∃ t,u = Value.str y t from rx); cases q; exact PySem.W.kia_one PySem.W.kitx_str I.kIn True.intro e (fun z=>nomatch z) h
 | flt y=>obtain ⟨t,q⟩:=(show ∃ t,u = Value.float y t from rx); cases q; exact PySem.W.kia_one PySem.W.kitx_float I.kIn True.intro e (fun z=>nomatch z) h
 | @lst a xs ea =>
  cases (show u = Value.ref a from rx)
  obtain ⟨_,_,n,_,h1⟩:=(show w6 X.prog X.w H s.heap a (.lst xs) from I.hok a _ ea)
  exact PySem.W.kia_one PySem.W.kitx_list I.kIn ⟨_,h1,rfl⟩ e (fun z=>nomatch z) h
 | @frz a ob xs ea =>
  cases (show u = Value.ref a from rx)
  obtain ⟨_,_,_,n,_,h1⟩:=(show w6 X.prog X.w H s.heap a (.frz ob (.lst xs)) from I.hok a _ ea)
  exact PySem.W.kia_one PySem.W.kitx_list I.kIn ⟨_,h1,rfl⟩ e (fun z=>nomatch z) h
 | @tup a xs ea =>
  cases (show u = Value.ref a from rx)
  obtain ⟨_,_,_,p⟩:=(show w6 X.prog X.w H s.heap a (.tup xs) from I.hok a _ ea)
  obtain ⟨o,h1,h2,_⟩:=p
  exact PySem.W.kia_one PySem.W.kitx_tuple I.kIn ⟨o,h1,h2⟩ e (fun z=>nomatch z) h
 | @dK a kvs ea =>
  cases (show u = Value.ref a from rx)
  obtain ⟨_,_,vs,_,p⟩:=(show w6 X.prog X.w H s.heap a (.dK kvs) from I.hok a _ ea)
  obtain ⟨o,es,ep,h1,h2,_⟩:=p
  exact PySem.W.kia_one PySem.W.kitx_dict I.kIn ⟨o,h1,h2.1⟩ e (fun z=>nomatch z) h
 | @dT a kvs ea =>
  cases (show u = Value.ref a from rx)
  obtain ⟨_,_,xs,_,o,es,ep,h1,h2,_⟩:=(show w6 X.prog X.w H s.heap a (.dT kvs) from I.hok a _ ea)
  exact PySem.W.kia_one PySem.W.kitx_dict I.kIn ⟨o,h1,h2.1⟩ e (fun z=>nomatch z) h
 | @ins a C dx fs ea cl ha hn htk hm =>
  cases (show u = Value.ref a from rx)
  obtain ⟨mA,O,_⟩:=Z1 I.hok ea
  obtain ⟨od,J,_⟩:=O.look
  exact PySem.W.kia_one (PySem.W.kitx_own (cl.get _) cl.hd ha hn htk hm) I.kIn J e (fun z=>nomatch z) h
end
end L2
namespace L2
open PySem PySem.Spec PyProof.Rows
structure Room (k:Nat) (A:Around):Prop where
 hd:A.handled = none
 dp:A.depth + 3 * k + 5 < recursionLimit
 un:A.units + 16 * k + 200 < cLine
theorem Room.mono {j k:Nat} {A:Around} (r:Room k A) (h:j ≤ k):Room j A:=⟨r.hd,by have:=r.dp; lia,by have:=r.un; lia⟩
theorem Room.deeper {k:Nat} {A:Around} (r:Room (k + 1) A) (env:Env):Room k (A.deeper env) :=
 ⟨r.hd,by have:=r.dp; show A.depth + 1 + 3 * k + 5 < _; lia,by have:=r.un; show A.units + 3 + 16 * k + 200 < _; lia⟩
theorem aF7 {A:Around} {C:Addr} {us:List Value} {kw:List (Str × Value)}:(A.under (.builtin "type.__call__" ⟨.ref C :: us,kw⟩)).depth = A.depth + 1:=by
 first | rfl | simp [Around.under,Code.weight,Code.isCreation,Code.isGuard,Code.isCaller,Code.frames,Code.isFrame,guardIds]
theorem aH2 {A:Around} {C:Addr} {us:List Value} {kw:List (Str × Value)}:(A.under (.builtin "type.__call__" ⟨.ref C :: us,kw⟩)).units = A.units + 1:=by
 first | rfl | simp [Around.under,Code.cUnits,Code.frames,Code.isFrame]
theorem Room.make {k:Nat} {A:Around} (r:Room (k + 1) A) (C:Addr) (us:List Value) (kw:List (Str × Value)):Room k (A.under (.builtin "type.__call__" ⟨.ref C :: us,kw⟩)) :=
 ⟨r.hd,by have:=r.dp; rw [aF7]; lia,by have:=r.un; rw [aH2]; lia⟩
theorem Room.depth {k:Nat} {A:Around} (r:Room k A):A.depth < recursionLimit:=by have:=r.dp; lia
theorem Room.units {k:Nat} {A:Around} (r:Room k A):A.units + 64 < cLine:=by have:=r.un; lia
theorem Room.units0 {k:Nat} {A:Around} (r:Room k A):A.units < cLine:=by have:=r.un; lia
def be5:TA:=fun _ H Q=>Q [] H
def bd7 (ta:TE) (tr:TA):TA:=fun σ H Q=>ta σ H fun x H1=>tr σ H1 fun xs H2=>Q (x :: xs) H2
section
variable {X:Cx} {e:Expr} {es:List Expr} {te:TE} {t:TA} {pos:Pos}
theorem d9:PA X [] be5:=fun _ _ _ _ H Q I h=>Calls.spliced_nil ⟨[],H,I,.nil,h⟩
theorem b8 (ha:PE X e te) (hr:PA X es t) (hs:starEach (e :: es) X.env = (false,eval e X.env) :: starEach es X.env:=by rfl):PA X (e :: es) (bd7 te t):=by
 intro pos pins s σ H Q I h
 rw [hs]
 show wpAny _ _ (spliced ((false,eval e X.env) :: backTo pos (starEach es X.env))) _ _ s
 refine Calls.spliced_cons (thn (ha pins s σ H _ I h) fun u s1 ⟨x,H1,I1,r1,q1⟩=>?_)
 exact thn (hr pos pins s1 σ H1 _ I1 q1) fun us s2 ⟨xs,H2,I2,r2,q2⟩=>⟨x :: xs,H2,I2,.cons r1 r2,q2⟩
def bh7 (t:TA):TE:=fun σ H Q=>t σ H fun xs H1=>xs.length ≤ sizeLine ∧ ∀ p,H1 p = none → Q (.ref p) (upd H1 p (.tup xs))
def bg6 (t:TA):TE:=fun σ H Q=>t σ H fun xs H1=>xs.length ≤ sizeLine ∧ ∀ p,H1 p = none → Q (.ref p) (upd H1 p (.lst xs))
theorem C7 {x1} (h:PA X es t):PE X (.Tuple es x1 pos) (bh7 t):=by
 intro pins s σ H Q I hq
 refine wpAny_Tuple_spliced (thn (h pos pins s σ H _ I hq) fun us s1 ⟨xs,H1,I1,r,z,q⟩=>⟨by rw [← r.length]; exact z,?_⟩)
 have hf:H1 s1.heap.objs.size = none:=I1.hok.fresh (Nat.le_refl _)
 refine ⟨.ref s1.heap.objs.size,upd H1 s1.heap.objs.size (.tup xs),I1.laid (t':=s1.toks) (fun b u e=>Heap.get?_push_of_some _ e) (Nat.le_refl _) ?_,rfl,q _ hf⟩
 exact ⟨z,us,r,⟨_,Heap.get?_push_size _ rfl,rfl,_,rfl⟩⟩
theorem q9 (h:PA X es t):PE X (.List es pos) (bg6 t):=by
 intro pins s σ H Q I hq
 refine wpAny_List_spliced (thn (h pos pins s σ H _ I hq) fun us s1 ⟨xs,H1,I1,r,z,q⟩=>⟨by rw [← r.length]; exact z,?_⟩)
 have hf:H1 s1.heap.objs.size = none:=I1.hok.fresh (Nat.le_refl _)
 refine ⟨.ref s1.heap.objs.size,upd H1 s1.heap.objs.size (.lst xs),I1.laid (t':=s1.toks) (fun b u e=>Heap.get?_push_of_some _ e) (Nat.le_refl _) ?_,rfl,q _ hf⟩
 exact ⟨z,us,0,r,Heap.get?_push_size _ rfl⟩
end
abbrev Sp:=List V → Hp → VK → XK → Prop
abbrev CXT:=List Env → Hp → Shared → XK → Value → Shared → Prop
structure Env0 (P:Program) (w:World) (K:PySem.W.Frag) (mg:Str → Option Value) (base:Heap) (A:Around) (outer:List Env) (s:Shared) (H:Hp):Prop where
 frames:A.frames = some outer
 mod:Mod K mg base
 bs:∀ b o,base.get? b = some o → s.heap.get? b = some o ∧ H b = none
 bsz:base.objs.size ≤ s.heap.objs.size
 funs:s.heap.FunFrames base outer
 frf:∀ b ∈ frs outer,H b = none
 hok:HOk P w H s.heap
 bare:AllBare s.gens
def CE (outer:List Env) (P:Program) (w:World) (H:Hp) (s:Shared) (Q:VK) (u:Value) (s':Shared):Prop :=
 ∃ v H',s'.os = s.os ∧ AllBare s'.gens ∧ Un (frs outer) [] H H' s.heap s'.heap ∧ HOk P w H' s'.heap ∧ x8 v u ∧ Q v H'
def CR (CX:CXT) (outer:List Env) (P:Program) (w:World) (H:Hp) (s:Shared) (Q:VK) (E:XK) (r:Result) (s':Shared):Prop :=
 match r with
 | .ok (.ret u)=>CE outer P w H s Q u s'
 | .ok _=>False
 | .error e=>CX outer H s E e s'
structure FnOk (P:Program) (w:World) (K:PySem.W.Frag) (mg:Str → Option Value) (base:Heap) (CX:CXT) (k:Nat) (f:Addr) (fd:FuncData) (ps:List Str) (sp:Sp):Prop where
 len:∀ vs H Q E,sp vs H Q E → vs.length = ps.length
 run:∀ (A:Around) (outer:List Env) (s:Shared) (H:Hp) (args:Args) (us:List Value) (vs:List V) (Q:VK) (E:XK),Room k A → Env0 P w K mg base A outer s H → BindsTo s fd args (ps.zip us) → u0 vs us → sp vs H Q E →
  codeAny (model P w) A (.call (.ref f) args) (CR CX outer P w H s Q E) s
theorem Env0.make {P:Program} {w:World} {K:PySem.W.Frag} {mg:Str → Option Value} {base:Heap} {A:Around} {outer:List Env} {s:Shared} {H:Hp} (e:Env0 P w K mg base A outer s H) (C:Addr) (us:List Value) (kw:List (Str × Value)) :
  Env0 P w K mg base (A.under (.builtin "type.__call__" ⟨.ref C :: us,kw⟩)) outer s H:=⟨by first | exact e.frames | (simpa [Around.under,Code.envs,Code.isFrame,pushEnvs] using e.frames),e.mod,e.bs,e.bsz,e.funs,e.frf,e.hok,e.bare⟩
section
variable {X:Cx} {pins:List (Addr × Obj)} {σ:St} {H:Hp} {s s':Shared}
theorem Inv.env0 (I:Inv X pins σ H s):Env0 X.prog X.w X.K X.mg X.base X.A X.stack s H :=
 ⟨I.ok.frames,I.ok.mod,I.bs,Nat.le_trans I.ok.bsz I.sz,I.stack,I.stkFree,I.hok,I.bare⟩
theorem Inv.after {Q:VK} {u:Value} (I:Inv X pins σ H s) (h:CE X.stack X.prog X.w H s Q u s'):EP X pins σ Q u s':=by
 obtain ⟨v,H',os,bare,un,hok,r,q⟩:=h
 obtain ⟨hh,g,d,t,os'⟩:=s'
 obtain rfl:os' = s.os:=os
 exact ⟨v,H',I.call (h':=hh) (g':=g) (d':=d) (t':=t) (ch:=[]) un hok bare (fun b z=>absurd z (by simp)),r,q⟩
end
def a66 (sp:Sp) (dvs:List V) (E:XK) (t:TA):TE:=fun σ H Q=>t σ H fun vs H1=>sp (vs ++ dvs) H1 Q E
def a65 (C:Addr) (m:Str) (sp:Sp) (dvs:List V) (E:XK) (ta:TE) (t:TA):TE:=fun σ H Q=>ta σ H fun x H1=>∃ a dx fs,x = .ref a ∧ H1 a = some (.ins C dx fs) ∧ fs.lookup m = none ∧
 t σ H1 fun vs H2=>sp (x :: (vs ++ dvs)) H2 Q E
def a70 (C:Addr) (sp:Sp) (dvs:List V) (E:XK) (t:TA):TE:=fun σ H Q=>t σ H fun vs H1=>∀ x dx,H1 x = none → H1 dx = none → dx ≠ x →
 sp (.ref x :: (vs ++ dvs)) (upd (upd H1 dx (.own x)) x (.ins C dx [])) (fun v H2=>v = .non ∧ Q (.ref x) H2) E
def O5 (K:PySem.W.Frag) (fd:FuncData) (ps:List Str) (ds:List Value):Prop :=
 ∀ (s:Shared) (us:List Value),K.In s.heap → (us ++ ds).length = ps.length → BindsTo s fd ⟨us,[]⟩ (ps.zip (us ++ ds))
theorem O5.all {K:PySem.W.Frag} {fd:FuncData} {ps:List Str} (h:∀ us:List Value,us.length = ps.length → bindArgs fd ⟨us,[]⟩ = pure (ps.zip us)):O5 K fd ps []:=fun s us _ hl=>by
 rw [List.append_nil] at hl ⊢
 exact .of_eq (h us hl)
def ac4 (CX:CXT) (X:Cx) (E:XK):Prop:=∀ (pins:List (Addr × Obj)) (σ:St) (H:Hp) (s:Shared) (e:Value) (s':Shared),Inv X pins σ H s → CX X.stack H s E e s' → X.xe e s'
section
variable {X:Cx} {CX:CXT} {k:Nat} {f C:Addr} {fd:FuncData} {ps:List Str} {sp:Sp} {dvs:List V} {ds:List Value} {E:XK} {x m:Str} {p pos apos:Pos} {e o:Expr} {es:List Expr} {ta:TE} {t:TA}
theorem aW9 {pins:List (Addr × Obj)} {σ:St} {H:Hp} {s:Shared} {Q:VK} {us:List Value} {vs:List V} (F:FnOk X.prog X.w X.K X.mg X.base CX k f fd ps sp) (hr:Room k X.A) (hb:O5 X.K fd ps ds) (hd:u0 dvs ds) (hx:ac4 CX X E)
  (I:Inv X pins σ H s) (r:u0 vs us) (h:sp (vs ++ dvs) H Q E):wpAny (model X.prog X.w) X.A (call (.ref f) us) (EP X pins σ Q) X.xe s:=by
 have r2:u0 (vs ++ dvs) (us ++ ds):=r.append hd
 have hl:(us ++ ds).length = ps.length:=by rw [← r2.length]; exact F.len _ _ _ _ h
 refine wpAny_call (codeAny_mono (F.run X.A X.stack s H ⟨us,[]⟩ (us ++ ds) (vs ++ dvs) Q E hr I.env0 (hb s us I.kIn hl) r2 h) fun r s' hq=>?_)
 cases r with
 | error e=>exact hx pins σ H s e s' I hq
 | ok fl =>
  cases fl with
  | ret u=>exact I.after hq
  | next=>exact False.elim hq
  | brk=>exact False.elim hq
  | cont=>exact False.elim hq
theorem aZ0 (F:FnOk X.prog X.w X.K X.mg X.base CX k f fd ps sp) (hr:Room k X.A) (hg:Gl X x) (hm:X.mg x = some (.ref f)) (hk:PySem.W.keepIn X.K (.ref f) = true) (hb:O5 X.K fd ps ds) (hd:u0 dvs ds) (hx:ac4 CX X E)
  (ha:PA X (e :: es) t) (hdb:(x == ("__debug__":Str)) = false:=by decide) (he:starEach (e :: es) X.env = (false,eval e X.env) :: starEach es X.env:=by rfl) (hpl:(backTo pos (starEach es X.env)).any (·.1) = false:=by rfl) :
  PE X (.Call (.Name x p) (e :: es) [] pos) (a66 sp dvs E t):=by
 intro pins s σ H Q I h
 refine wpAny_Call_Name_kw (P5 I hg hm ?_ hdb)
 refine PySem.W.callWith_K (h₀:=X.base) I.ok.mod.kin hk (thn (ha pos pins s σ H _ I h) fun us s1 ⟨vs,H1,I1,r,q⟩=>⟨I1.kIn,?_⟩) he hpl
 exact aW9 F hr hb hd hx I1 r q
theorem a08 {pl:Sem Bool} (he:PE X o ta) (c:Cls X.K C) (hm:Meth X.K C m f) (F:FnOk X.prog X.w X.K X.mg X.base CX k f fd ps sp) (hr:Room k X.A) (hb:O5 X.K fd ps ds) (hd:u0 dvs ds) (hx:ac4 CX X E) (ha:PA X (e :: es) t)
  (hst:starEach (e :: es) X.env = (false,eval e X.env) :: starEach es X.env:=by rfl) (hpl:(backTo pos (starEach es X.env)).any (·.1) = false:=by rfl)
  (ht:eval (.Call (.Attribute o m apos) (e :: es) [] pos) X.env = (do
   let ov ← eval o X.env
   standAt apos.atName
   let (f,first) ← holding [ov] (getMethod ov m pl)
   callWith pos f first (backTo pos (starEach (e :: es) X.env)) (backToKw pos (keywordEach [] X.env))):=by rfl) :
  PE X (.Call (.Attribute o m apos) (e :: es) [] pos) (a65 C m sp dvs E ta t):=by
 intro pins s σ H Q I h
 refine PySem.W.methodCall_KW (pl:=pl) (thn (he pins s σ H _ I h) fun u s1 ⟨x,H1,I1,rx,a,dx,fs,ex,ea,l,q⟩=>?_) ht
 subst ex
 obtain rfl:u = Value.ref a:=rx
 refine ag0 I1 ea c hm l ?_
 refine PySem.W.callWith_K (first:=[.ref a]) (h₀:=X.base) I.ok.mod.kin hm.kp (thn (ha pos pins s1 σ H1 _ I1 q) fun us s2 ⟨vs,H2,I2,r,q2⟩=>⟨I2.kIn,?_⟩) hst hpl
 exact aW9 (us:=.ref a :: us) (vs:=.ref a :: vs) F hr hb hd hx I2 (.cons rfl r) q2
structure Mk (K:PySem.W.Frag) (C f:Addr):Prop where
 makes:PySem.W.makesIn K C = true
 init:PySem.W.findIn K (.ref C) "__init__" = some (some (.ref f))
 fn:PySem.W.isFn K (.ref f) = true
 kp:PySem.W.keepIn K (.ref C) = true
theorem aR6 {pins:List (Addr × Obj)} {σ:St} {H:Hp} {s:Shared} {Q:VK} {us:List Value} {vs:List V} (M:Mk X.K C f) (F:FnOk X.prog X.w X.K X.mg X.base CX k f fd ps sp) (hr:Room (k + 1) X.A) (hb:O5 X.K fd ps ds) (hd:u0 dvs ds)
  (hx:ac4 CX X E) (I:Inv X pins σ H s) (r:u0 vs us)
  (h:∀ x dx,H x = none → H dx = none → dx ≠ x → sp (.ref x :: (vs ++ dvs)) (upd (upd H dx (.own x)) x (.ins C dx [])) (fun v H2=>v = .non ∧ Q (.ref x) H2) E) :
  wpAny (model X.prog X.w) X.A (call (.ref C) us) (EP X pins σ Q) X.xe s:=by
 have hq:=h (s.heap.objs.size + 1) s.heap.objs.size (I.hok.fresh (Nat.le_succ _)) (I.hok.fresh (Nat.le_refl _)) (Nat.ne_of_lt (Nat.lt_succ_self _))
 have I2:=Inv.made (C:=C) I
 have r2:u0 (V.ref (s.heap.objs.size + 1) :: (vs ++ dvs)) (Value.ref (s.heap.objs.size + 1) :: (us ++ ds)):=.cons rfl (r.append hd)
 have hl:(Value.ref (s.heap.objs.size + 1) :: us ++ ds).length = ps.length:=by
  have e:=r2.length
  rw [F.len _ _ _ _ hq] at e
  exact e.symm
 refine wpAny_call (aS6 (f:=f) I.kIn M.makes M.init (beq_iff_eq.mp M.fn) (codeAny_mono (F.run _ X.stack _ _ ⟨Value.ref (s.heap.objs.size + 1) :: us,[]⟩ (Value.ref (s.heap.objs.size + 1) :: (us ++ ds)) _ _ E (hr.make C us [])
  (I2.env0.make C us []) (hb _ (Value.ref (s.heap.objs.size + 1) :: us) I2.kIn hl) r2 hq) fun r s' hq'=>?_))
 cases r with
 | error e=>exact hx pins σ _ _ e s' I2 hq'
 | ok fl =>
  cases fl with
  | ret u =>
   obtain ⟨v,H',I3,rv,ev,q3⟩:=I2.after hq'
   subst ev
   exact ⟨rv,⟨V.ref (s.heap.objs.size + 1),H',I3,rfl,q3⟩⟩
  | next=>exact False.elim hq'
  | brk=>exact False.elim hq'
  | cont=>exact False.elim hq'
theorem aZ7 (M:Mk X.K C f) (F:FnOk X.prog X.w X.K X.mg X.base CX k f fd ps sp) (hr:Room (k + 1) X.A) (hg:Gl X x) (hm:X.mg x = some (.ref C)) (hb:O5 X.K fd ps ds) (hd:u0 dvs ds) (hx:ac4 CX X E)
  (ha:PA X (e :: es) t) (hdb:(x == ("__debug__":Str)) = false:=by decide) (he:starEach (e :: es) X.env = (false,eval e X.env) :: starEach es X.env:=by rfl) (hpl:(backTo pos (starEach es X.env)).any (·.1) = false:=by rfl) :
  PE X (.Call (.Name x p) (e :: es) [] pos) (a70 C sp dvs E t):=by
 intro pins s σ H Q I h
 refine wpAny_Call_Name_kw (P5 I hg hm ?_ hdb)
 refine PySem.W.callWith_K (h₀:=X.base) I.ok.mod.kin M.kp (thn (ha pos pins s σ H _ I h) fun us s1 ⟨vs,H1,I1,r,q⟩=>⟨I1.kIn,?_⟩) he hpl
 exact aR6 M F hr hb hd hx I1 r q
end
structure FnScope (N P:List Str) (sc:Scope):Prop where
 kind:sc.kind = .function
 co:sc.isCoroutine = false
 gen:sc.isGenerator = false
 nd:N.Nodup
 pre:N.take P.length = P
 par:∀ x ∈ P,sc.names.lookup x = some .local ∨ sc.names.lookup x = some .cell
 nofree:∀ y ∈ sc.names,y.2 ≠ .free
theorem ap0 {kindOf:Str → Option NameKind} {x:Str}:∀ {binds:List (Str × Value)} {m:Str → Option Value},(∀ v,(x,v) ∉ binds) → bindL kindOf binds m x = m x
 | [],_,_=>rfl
 | (n,v) :: r,m,h=>by
  unfold bindL
  rw [ap0 fun w hw=>h w (List.mem_cons_of_mem _ hw)]
  split
  ·have:x ≠ n:=by rintro rfl; exact h v List.mem_cons_self
   simp [this]
  ·rfl
theorem al8 {kindOf:Str → Option NameKind} {x:Str}:∀ {binds:List (Str × Value)} {m:Str → Option Value},(∀ v,(x,v) ∉ binds) → bindC kindOf binds m x = m x
 | [],_,_=>rfl
 | (n,v) :: r,m,h=>by
  unfold bindC
  rw [al8 fun w hw=>h w (List.mem_cons_of_mem _ hw)]
  split
  ·rfl
  ·have:x ≠ n:=by rintro rfl; exact h v List.mem_cons_self
   simp [this]
theorem am3 {kindOf:Str → Option NameKind} {x:Str} {v:Value}:∀ {P:List Str} {vs:List Value} {i:Nat} {m:Str → Option Value},P.Nodup → P[i]? = some x → vs[i]? = some v → kindOf x = some .local →
  bindL kindOf (P.zip vs) m x = some v
 | [],_,_,_,_,h,_,_=>by simp at h
 | _ :: _,[],_,_,_,_,h,_=>by simp at h
 | p :: P,w :: vs,0,m,nd,h1,h2,hk=>by
  simp at h1 h2; subst h1; subst h2
  show bindL kindOf ((p,w) :: P.zip vs) m p = _
  unfold bindL
  rw [ap0 fun v hv=>(List.nodup_cons.mp nd).1 (List.of_mem_zip hv).1,if_pos hk]
  simp
 | p :: P,w :: vs,i + 1,m,nd,h1,h2,hk=>by
  show bindL kindOf ((p,w) :: P.zip vs) m x = _
  unfold bindL
  exact am3 (i:=i) (List.nodup_cons.mp nd).2 (by simpa using h1) (by simpa using h2) hk
theorem am6 {kindOf:Str → Option NameKind} {x:Str} {v:Value}:∀ {P:List Str} {vs:List Value} {i:Nat} {m:Str → Option Value},P.Nodup → P[i]? = some x → vs[i]? = some v → kindOf x ≠ some .local →
  bindC kindOf (P.zip vs) m x = some v
 | [],_,_,_,_,h,_,_=>by simp at h
 | _ :: _,[],_,_,_,_,h,_=>by simp at h
 | p :: P,w :: vs,0,m,nd,h1,h2,hk=>by
  simp at h1 h2; subst h1; subst h2
  show bindC kindOf ((p,w) :: P.zip vs) m p = _
  unfold bindC
  rw [al8 fun v hv=>(List.nodup_cons.mp nd).1 (List.of_mem_zip hv).1,if_neg hk]
  simp
 | p :: P,w :: vs,i + 1,m,nd,h1,h2,hk=>by
  show bindC kindOf ((p,w) :: P.zip vs) m x = _
  unfold bindC
  exact am6 (i:=i) (List.nodup_cons.mp nd).2 (by simpa using h1) (by simpa using h2) hk
def start (N:List Str) (vs:List V):St:=vs.map some ++ List.replicate (N.length - vs.length) none
def N4 (CX:CXT) (P:Program) (w:World) (K:PySem.W.Frag) (mg:Str → Option Value) (base:Heap) (N:List Str) (qual:Str) (scope:Scope) (f:Addr) (cd:Value) (A:Around) (outer:List Env) (s:Shared) (H:Hp) (E:XK):Cx where
 prog:=P
 w:=w
 K:=K
 mg:=mg
 base:=base
 A:=A.deeper (envOfC qual scope s.heap.objs.size f cd)
 N:=N
 s₀:=s
 H₀:=H
 env:=envOfC qual scope s.heap.objs.size f cd
 outer:=outer
 stack:=envOfC qual scope s.heap.objs.size f cd :: outer
 ex:=[]
 calm:=true
 fn:=fun _=>true
 pn:=[]
 xe:=fun e s'=>wpAny (model P w) (A.deeper (envOfC qual scope s.heap.objs.size f cd)) (leaving (envOfC qual scope s.heap.objs.size f cd) e) (fun _ s''=>CX outer H s E e s'') (fun e' s''=>CX outer H s E e' s'') s'
theorem ai7 {sc:Scope} {n:Nat} {x:Str} (h:sc.names.lookup x = some .cell):∃ c,(cellsFrom n sc.names []).lookup x = some c:=by
 have q:=PySem.W.cellsFrom_some sc.names n [] (.inl h)
 exact Option.isSome_iff_exists.mp q
theorem aO0 {CX:CXT} {P:Program} {w:World} {K:PySem.W.Frag} {mg:Str → Option Value} {base:Heap} {N ps:List Str} {qual:Str} {scope:Scope} {f:Addr} {cd:Value} {A:Around} {outer:List Env} {s s1:Shared} {H:Hp} {E:XK} {us:List Value} {vs:List V}
  (S:FnScope N ps scope) (hd:A.handled = none) (e0:Env0 P w K mg base A outer s H) (hl:vs.length = ps.length) (r:u0 vs us)
  (x:InCallC s s.heap.objs.size (bindL (envOfC qual scope s.heap.objs.size f cd).kindOf (ps.zip us) fun _=>none) (cellsFrom (s.heap.objs.size + 1) scope.names []) (bindC (envOfC qual scope s.heap.objs.size f cd).kindOf (ps.zip us) fun _=>none) s1) :
  Inv (N4 CX P w K mg base N qual scope f cd A outer s H E) [] (start N vs) H s1:=by
 have hpl:ps.length ≤ N.length:=by have:=congrArg List.length S.pre; rw [List.length_take] at this; lia
 obtain ⟨h1,tk,rfl,hk⟩:=x.done
 have noA:∀ b:Addr,b ∉ (N4 CX P w K mg base N qual scope f cd A outer s H E).ex:=fun b z=>absurd (show b ∈ ([]:List Addr) from z) (by simp)
 refine ⟨⟨e0.mod,S.kind,rfl,rfl,Nat.le_refl _,fun y z c h1 h2=>?_,fun y hy=>?_,fun y c _ h=>?_,fun _=>hd,Around.frames_deeper e0.frames,.inr ⟨rfl,rfl⟩,fun b z=>absurd z (noA b),e0.bs,e0.bsz,fun b _ _=>noA b,fun b z=>absurd z (noA b),e0.funs,e0.frf⟩,
  rfl,e0.bare,Un.kept hk,⟨_,x.toInCall.ns,fun i y v h1 h2 h3=>?_⟩,fun y c h=>⟨_,x.cell y c h⟩,e0.hok.fresh (Nat.le_refl _),fun y c h=>?_,fun p hp=>absurd (show p ∈ ([]:List (Addr × Obj)) from hp) (by simp),e0.hok.kept hk,?_⟩
 ·exact name_of_addr x.apart (PySem.mem_of_lookup h1) (PySem.mem_of_lookup h2)
 ·have hy:scope.names.lookup y = some .cell ∨ scope.names.lookup y = some .free:=hy
  rcases hy with hy | hy
  ·exact ai7 hy
  ·exact absurd rfl (S.nofree _ (PySem.mem_of_lookup hy))
 ·exact Nat.le_of_lt (x.above y c (PySem.mem_of_lookup h))
 ·have hi:i < vs.length:=by
   unfold start at h2
   by_cases hi:i < vs.length
   ·exact hi
   ·rw [List.getElem?_append_right (by simpa using hi)] at h2
    rw [List.getElem?_replicate] at h2
    split at h2 <;> cases h2
  have ha:vs[i]? = some v:=by
   unfold start at h2
   rw [List.getElem?_append_left (by simpa using hi),List.getElem?_map] at h2
   cases e:vs[i]? with
   | none=>rw [e] at h2; cases h2
   | some a=>rw [e] at h2; cases h2; rfl
  obtain ⟨u,hu,rv⟩:=r.get ha
  have hp:ps[i]? = some y:=by
   rw [← S.pre,List.getElem?_take_of_lt (by lia)]; exact h1
  have ndP:ps.Nodup:=by rw [← S.pre]; exact S.nd.sublist (List.take_sublist _ _)
  refine ⟨u,rv,?_⟩
  rcases S.par y (List.mem_of_getElem? hp) with k | k
  ·exact .inl ⟨k,am3 ndP hp hu k⟩
  ·obtain ⟨c,e⟩:=ai7 (n:=s.heap.objs.size + 1) k
   refine .inr ⟨.inl k,c,e,?_⟩
   have q:=x.cell y c e
   rw [am6 ndP hp hu (by show scope.names.lookup y ≠ _; rw [k]; decide)] at q
   exact q
 ·exact e0.hok.fresh (Nat.le_of_lt (x.above y c (PySem.mem_of_lookup h)))
 ·unfold start
  show _ = N.length
  rw [List.length_append,List.length_map,List.length_replicate]
  lia
theorem av3 {CX:CXT} {P:Program} {w:World} {K:PySem.W.Frag} {mg:Str → Option Value} {base:Heap} {k:Nat} {f:Addr} {name qual:Str} {params:Arguments} {body:List Stmt} {scope:Scope} {dV kV doc pm cdv ct oc:Value} {an od:Option Addr}
  {osl:Array (Option Value)} {N ps:List Str} {sp:Sp} (lk:K.lookup f = some ⟨oc,od,.func (PySem.W.fnOf name qual params body scope dV kV doc pm an cdv ct),osl⟩) (hcd:PySem.W.codeIn K cdv qual = true) (S:FnScope N ps scope)
  (len:∀ vs H Q E,sp vs H Q E → vs.length = ps.length)
  (hbody:∀ (A:Around) (outer:List Env) (s:Shared) (H:Hp) (vs:List V) (Q:VK) (E:XK),Room k (A.deeper (envOfC qual scope s.heap.objs.size f cdv)) → sp vs H Q E →
   ∃ t,PSs (N4 CX P w K mg base N qual scope f cdv A outer s H E) body t ∧ t { nx:=fun _ H'=>Q .non H',rt:=Q } (start N vs) H) :
  FnOk P w K mg base CX (k + 1) f (PySem.W.fnOf name qual params body scope dV kV doc pm an cdv ct) ps sp:=by
 refine ⟨len,fun A outer s H args us vs Q E hr e0 hb r hsp=>?_⟩
 have hl:=len _ _ _ _ hsp
 have KX:K.In s.heap:=e0.mod.kin.keeps fun b o e=>(e0.bs b o e).1
 have lim:s.heap.NoLimit:=e0.mod.nolimit.keeps fun b o e=>(e0.bs b o e).1
 have hkind:∀ y ∈ ps.zip us,scope.names.lookup y.1 = some .local ∨ (scope.names.lookup y.1 = some .cell ∧ ((cellsFrom (s.heap.objs.size + 1) scope.names []).lookup y.1).isSome = true):=fun ⟨n,v⟩ hy=>by
  rcases S.par n (List.of_mem_zip hy).1 with q | q
  ·exact .inl q
  ·exact .inr ⟨q,PySem.W.cellsFrom_some _ _ _ (.inl q)⟩
 refine codeAny_call_function hr.depth (KX _ _ lk) rfl S.co S.gen rfl (PySem.W.codeRec_of KX hcd) (hb _ _ _ _ ?_)
 refine wpAny_newFunctionEnv_cells S.kind hkind fun env he s1 x=>?_
 subst he
 refine ⟨lim.keeps x.toInCall.keep,codeAny_func ?_⟩
 obtain ⟨t,ht,hq⟩:=hbody A outer s H vs Q E (hr.deeper _) hsp
 have I:Inv (N4 CX P w K mg base N qual scope f cdv A outer s H E) [] (start N vs) H s1:=aO0 S hr.hd e0 hl r x
 refine wpAny_mono (ht [] s1 (start N vs) H _ I hq) (fun fl s' hs=>?_) fun e s' hs=>hs
 have fin:∀ {σ':St} {H':Hp} {v:V} {u:Value},Inv (N4 CX P w K mg base N qual scope f cdv A outer s H E) [] σ' H' s' → x8 v u → Q v H' → CE outer P w H s Q u s' :=
  fun {σ' H' v u} J rv q=>⟨v,H',J.os,J.bare,J.base,J.hok,rv,q⟩
 cases fl with
 | ret u =>
  obtain ⟨v,σ',H',J,rv,q⟩:=hs
  exact fin J rv q
 | next =>
  obtain ⟨σ',H',J,q⟩:=hs
  exact fin (v:=V.non) (u:=Value.none) J rfl q
 | brk =>
  obtain ⟨_,_,_,q⟩:=hs
  exact False.elim q
 | cont =>
  obtain ⟨_,_,_,q⟩:=hs
  exact False.elim q
end L2
namespace L2
open PySem PySem.Spec PyProof.Rows
section
variable {X:Cx} {x:Str} {p pos:Pos} {e:Expr} {es:List Expr} {t:TA} {id T:String} {r:List V → Hp → VK → Prop}
def tCB (r:List V → Hp → VK → Prop) (t:TA):TE:=fun σ H Q=>t σ H fun vs H1=>r vs H1 Q
theorem i8 (hc:B0 X (.builtin id) r) (hg:Gl X x) (hm:X.mg x = none) (hv:bootBuiltins x = some (.builtin id)) (ha:PA X (e :: es) t) (hn:x ≠ "__name__":=by decide) (hdb:(x == ("__debug__":Str)) = false:=by decide)
  (he:starEach (e :: es) X.env = (false,eval e X.env) :: starEach es X.env:=by rfl) (hpl:(backTo pos (starEach es X.env)).any (·.1) = false:=by rfl):PE X (.Call (.Name x p) (e :: es) [] pos) (tCB r t):=by
 intro pins s σ H Q I h
 refine wpAny_Call_Name_kw (ab9 I hg hm hv ?_ hn hdb)
 exact PyProof.Rows.callWith_builtin1 (thn (ha pos pins s σ H _ I h) fun us s1 ⟨vs,H1,I1,r1,q1⟩=>hc pins s1 σ H1 vs us Q I1 r1 q1) he hpl
theorem B1 (hc:B0 X (.type T) r) (hg:Gl X x) (hm:X.mg x = none) (hv:bootBuiltins x = some (.type T)) (ha:PA X (e :: es) t) (hn:x ≠ "__name__":=by decide) (hdb:(x == ("__debug__":Str)) = false:=by decide)
  (he:starEach (e :: es) X.env = (false,eval e X.env) :: starEach es X.env:=by rfl) (hpl:(backTo pos (starEach es X.env)).any (·.1) = false:=by rfl):PE X (.Call (.Name x p) (e :: es) [] pos) (tCB r t):=by
 intro pins s σ H Q I h
 refine wpAny_Call_Name_kw (ab9 I hg hm hv ?_ hn hdb)
 exact PyProof.Rows.callWith_type1 (thn (ha pos pins s σ H _ I h) fun us s1 ⟨vs,H1,I1,r1,q1⟩=>hc pins s1 σ H1 vs us Q I1 r1 q1) he hpl
end
end L2
namespace HT
open PySem PyProof.Rows
section
variable {prog:Program} {w:World} {A:Around} {E:Value → Shared → Prop} {s:Shared}
def sIx (n d:Nat):Option Int → Nat
 | none=>d
 | some v=>if v < 0 then (v + (n:Int)).toNat else min v.toNat n
theorem sIx_none (n d:Nat):sIx n d none = d:=rfl
theorem sIx_nat (n d k:Nat):sIx n d (some (k:Int)) = min k n:=by
 show (if (k:Int) < 0 then ((k:Int) + (n:Int)).toNat else min (k:Int).toNat n) = min k n
 rw [if_neg (by lia),Int.toNat_natCast]
theorem ba1 (n d:Nat) (hd:d ≤ n) (o:Option Int):sIx n d o ≤ n:=by
 cases o with
 | none=>exact hd
 | some v =>
  show (if v < 0 then (v + (n:Int)).toNat else min v.toNat n) ≤ n
  by_cases hv:v < 0
  ·rw [if_pos hv]; lia
  ·rw [if_neg hv]; exact Nat.min_le_right _ _
theorem aJ7 (v:Int) (n d:Nat):(if v < 0 then max (v + (n:Int)) 0 else min v (n:Int)) = ((sIx n d (some v):Nat):Int):=by
 show (if v < 0 then max (v + (n:Int)) 0 else min v (n:Int)) = (((if v < 0 then (v + (n:Int)).toNat else min v.toNat n):Nat):Int)
 by_cases hv:v < 0
 ·simp only [if_pos hv]; lia
 ·simp only [if_neg hv]; lia
theorem aG6 (lo hi:Option Int) (n:Nat):Builtin.Slice.sliceAdjust lo hi 1 (n:Int) = (((sIx n 0 lo:Nat):Int),((sIx n n hi:Nat):Int)):=by
 have h1:¬ ((1:Int) < 0):=by lia
 unfold Builtin.Slice.sliceAdjust
 simp only [h1,if_false]
 refine Prod.ext ?_ ?_
 ·cases lo with
  | none=>rfl
  | some v=>exact aJ7 v n 0
 ·cases hi with
  | none=>rfl
  | some v=>exact aJ7 v n n
theorem aF5 (i j:Nat):Builtin.Slice.slicePlaces (i:Int) (j:Int) 1 = j - i:=by
 unfold Builtin.Slice.slicePlaces
 have h1:(1:Int) > 0:=by lia
 simp only [h1,if_true,Int.ediv_one]
 split <;> lia
theorem af6 {v:Value} {o:Option Int} {Q:Option Int → Shared → Prop} (p:IsPart v o) (h:Q o s):wpAny (model prog w) A (Builtin.Slice.slicePartIndex v) Q E s:=by
 cases p with
 | none=>exact slicePart_none h
 | int i t=>exact slicePart_int h
theorem Q4 {sl:Addr} {vl vu:Value} {lo hi:Option Int} {n:Nat} {Q:Int × Int × Nat → Shared → Prop} (hs:s.heap.IsSliceOf sl vl vu .none) (pl:IsPart vl lo) (pu:IsPart vu hi)
  (h:Q (((sIx n 0 lo:Nat):Int),1,sIx n n hi - sIx n 0 lo) s):wpAny (model prog w) A (Builtin.Slice.sliceApplied (.ref sl) (pure (n:Int))) Q E s:=by
 obtain ⟨os,hos,hcs,hds⟩:=id hs
 unfold Builtin.Slice.sliceApplied Builtin.Slice.sliceFields
 refine wpAny_bind (wpAny_bind (wpAny_field hos hds (x:=vl) rfl (wpAny_bind (wpAny_field hos hds (x:=vu) rfl (wpAny_bind (wpAny_field hos hds (x:=.none) rfl (wpAny_pure ?_)))))))
 refine wpAny_bind (slicePart_none ?_)
 show wpAny _ _ (if ((1:Int) == 0) = true then _ else _) _ _ s
 rw [if_neg (by decide)]
 refine wpAny_bind (af6 pl (wpAny_bind (af6 pu (wpAny_bind (wpAny_pure ?_)))))
 show wpAny _ _ (match Builtin.Slice.sliceAdjust lo hi 1 (n:Int) with | (lo,hi)=>pure (lo,(1:Int),Builtin.Slice.slicePlaces lo hi 1)) _ _ s
 rw [aG6 lo hi n]
 show wpAny _ _ (pure (((sIx n 0 lo:Nat):Int),(1:Int),Builtin.Slice.slicePlaces ((sIx n 0 lo:Nat):Int) ((sIx n n hi:Nat):Int) 1)) _ _ s
 rw [aF5]
 exact wpAny_pure h
theorem aS8 (xs:Array Value) (i k:Nat):((List.range k).filterMap fun (m:Nat)=>xs[((i:Int) + (m:Int) * 1).toNat]?).toArray = ((xs.toList.drop i).take k).toArray:=by
 have e:(fun (m:Nat)=>xs[((i:Int) + (m:Int) * 1).toNat]?) = fun m=>xs[i + m]?:=by
  funext m
  have:((i:Int) + (m:Int) * 1).toNat = i + m:=by lia
  rw [this]
 rw [e]
 have:=pick_run xs i k
 rw [List.filterMap_map] at this
 have e2:((fun x=>xs[x]?) ∘ fun x=>i + x) = fun m=>xs[i + m]?:=rfl
 rw [e2] at this
 rw [this]
theorem getItem_tuple_cut {t sl:Addr} {items:Array Value} {vl vu:Value} {lo hi:Option Int} {Q:Value → Shared → Prop} (ht:IsTup s.heap t items) (hs:s.heap.IsSliceOf sl vl vu .none) (pl:IsPart vl lo) (pu:IsPart vu hi)
  (hw:¬ (sIx items.size 0 lo = 0 ∧ sIx items.size items.size hi = items.size))
  (h:Q (.ref s.heap.objs.size) { s with heap:=s.heap.push { cls:=.type "tuple",data:=.seq ((items.toList.drop (sIx items.size 0 lo)).take (sIx items.size items.size hi - sIx items.size 0 lo)).toArray } })
  (hsz:items.size ≤ sizeLine):wpAny (model prog w) A (getItem (.ref t) (.ref sl)) Q E s:=by
 have htake:sizeOk (.seq ((items.toList.drop (sIx items.size 0 lo)).take (sIx items.size items.size hi - sIx items.size 0 lo)).toArray):=by
  show ((items.toList.drop (sIx items.size 0 lo)).take (sIx items.size items.size hi - sIx items.size 0 lo)).toArray.size ≤ sizeLine
  rw [List.size_toArray,List.length_take,List.length_drop,Array.length_toList]
  lia
 have hj:sIx items.size items.size hi ≤ items.size:=ba1 _ _ (Nat.le_refl _) hi
 obtain ⟨os,hos,hcs,hds⟩:=id hs
 have hTs:s.TypeIs (.ref sl) "slice":=⟨os,hos,hcs⟩
 unfold getItem
 try with_reducible refine wpAny_holding ?_
 first | refine wpAny_bind (wpAny_pure ?_) | skip
 refine wpAny_bind (wpAny_sequenceKey ht.typeIs (by decide) ?_)
 refine wpAny_bind (wpAny_callSpecial?_slot (name:=Str.ofString "__getitem__") ht.typeIs PyProof.Rows.slot_tuple_getitem
  (wpAny_call_entry PyProof.Rows.slot_tuple_getitem ht.typeIs entry_tuple_getitem ?_ (args_tuple_getitem _ _)))
 show wpAny _ _ (Builtin.Tuple.tupleItemsOf (.ref t) >>= _) _ _ s
 refine wpAny_bind (tupleItemsOf_ ht ?_)
 refine wpAny_bind (wpAny_typeOf hTs ?_)
 rw [if_pos (by decide)]
 refine wpAny_bind (Q4 hs pl pu ?_)
 have hno:¬ ((((sIx items.size 0 lo:Nat):Int) == 0 && (1:Int) == 1 && (sIx items.size items.size hi - sIx items.size 0 lo) == items.size) = true):=by
  intro q
  rw [Bool.and_eq_true,Bool.and_eq_true] at q
  have q1:((sIx items.size 0 lo:Nat):Int) = 0:=eq_of_beq q.1.1
  have q2:sIx items.size items.size hi - sIx items.size 0 lo = items.size:=eq_of_beq q.2
  exact hw ⟨by lia,by lia⟩
 show wpAny _ _ (if (((sIx items.size 0 lo:Nat):Int) == 0 && (1:Int) == 1 && (sIx items.size items.size hi - sIx items.size 0 lo) == items.size) = true then _ else _) _ _ s
 rw [if_neg hno,aS8]
 first
  | exact wpAny_bind (m:=Builtin.Tuple.tupleExact _) (wpAny_newObj_type (wpAny_pure ⟨_,rfl,wpAny_pure h⟩) htake)
  | exact wpAny_bind (m:=Builtin.Tuple.tupleExact _) (wpAny_newObj_type (wpAny_bind (wpAny_pure (wpAny_pure ⟨_,rfl,wpAny_pure h⟩))) htake)
  | exact wpAny_bind (wpAny_bind (m:=Builtin.Tuple.tupleExact _) (wpAny_newObj_type (wpAny_pure (wpAny_pure ⟨_,rfl,wpAny_pure h⟩)) htake))
  | exact wpAny_bind (wpAny_bind (m:=Builtin.Tuple.tupleExact _) (wpAny_newObj_type (wpAny_pure ⟨_,rfl,wpAny_pure h⟩) htake))
end
end HT
namespace L2
open PySem PySem.Spec PyProof.Rows
abbrev TO:=St → Hp → (Option Int → Hp → Prop) → Prop
def PO (X:Cx) (e:Option Expr) (t:TO):Prop :=
 ∀ (pins:List (Addr × Obj)) (s:Shared) (σ:St) (H:Hp) (Q:Option Int → Hp → Prop),Inv X pins σ H s → t σ H Q →
  wpAny (model X.prog X.w) X.A (evalPart e X.env) (fun u s'=>∃ o H',Inv X pins σ H' s' ∧ IsPart u o ∧ Q o H') X.xe s
def a02:TO:=fun _ H Q=>Q none H
def be2 (t:TE):TO:=fun σ H Q=>t σ H fun x H1=>∃ i,x = .int i ∧ Q (some i) H1
theorem D7 {ns:List Int}:∀ {us:List Value},u0 (ns.map V.int) us → IntsAre us ns:=by
 induction ns with
 | nil=>intro us r; rw [List.map_nil] at r; cases r; exact .nil
 | cons n ns ih =>
  intro us r
  rw [List.map_cons] at r
  cases r with
  | cons r1 r2 =>
   obtain ⟨t,e⟩:=r1
   subst e
   exact .cons n t (ih r2)
section
variable {X:Cx} {e:Expr} {te:TE} {lo hi:Option Expr} {tl th:TO} {pos p2:Pos}
theorem Q6:PO X none a02:=by
 intro pins s σ H Q I h
 rw [evalPart_none]
 exact wpAny_pure ⟨none,H,I,.none,h⟩
theorem N6 (h:PE X e te):PO X (some e) (be2 te):=by
 intro pins s σ H Q I hw
 rw [evalPart_some]
 refine thn (h pins s σ H _ I hw) fun u s1 ⟨x,H1,I1,r1,q1⟩=>?_
 obtain ⟨i,rfl,q⟩:=q1
 obtain ⟨t,rfl⟩:=r1
 exact ⟨some i,H1,I1,.int i t,q⟩
def SlR (X:Cx) (r:V → Option Int → Option Int → Hp → VK → Prop):Prop :=
 ∀ (pins:List (Addr × Obj)) (s:Shared) (σ:St) (H:Hp) (x:V) (v vl vu:Value) (lo hi:Option Int) (sl:Addr) (Q:VK),Inv X pins σ H s → x8 x v → s.heap.IsSliceOf sl vl vu .none → IsPart vl lo → IsPart vu hi → r x lo hi H Q →
  ∃ T id,typeLookup (.type T) "__getitem__" = pure (some (.builtin id)) ∧ s.TypeIs v T ∧ wpAny (model X.prog X.w) X.A (getItem v (.ref sl)) (EP X pins σ Q) X.xe s
def tSl (r:V → Option Int → Option Int → Hp → VK → Prop) (te:TE) (tl th:TO):TE:=fun σ H Q=>te σ H fun x H1=>tl σ H1 fun l H2=>th σ H2 fun u H3=>r x l u H3 Q
theorem M2 {r:V → Option Int → Option Int → Hp → VK → Prop} (hr:SlR X r) (he:PE X e te) (hl:PO X lo tl) (hu:PO X hi th):PE X (.Subscript e (.Slice lo hi none p2) pos) (tSl r te tl th):=by
 intro pins s σ H Q I h
 refine Subscript_ (thn (he pins s σ H _ I h) fun v s1 ⟨x,H1,I1,r1,q1⟩=>?_)
 refine wpAny_Slice (thn (hl pins s1 σ H1 _ I1 q1) fun vl s2 ⟨l,H2,I2,pl,q2⟩=>thn (hu pins s2 σ H2 _ I2 q2) fun vu s3 ⟨u,H3,I3,pu,q3⟩=>?_)
 rw [evalPart_none]
 refine wpAny_pure ?_
 have I4:Inv X pins σ H3 { s3 with heap:=s3.heap.push { cls:=.type "slice",data:=.fields #[vl,vu,.none] } }:=I3.kept (t':=s3.toks) fun b ob q=>Heap.get?_push_of_some _ q
 obtain ⟨T,id,hT,ht,hg⟩:=hr pins { s3 with heap:=s3.heap.push { cls:=.type "slice",data:=.fields #[vl,vu,.none] } } σ H3 x v vl vu l u s3.heap.objs.size Q I4 r1 (Heap.IsSliceOf.new ..) pl pu q3
 show wpAny (model X.prog X.w) X.A (subscriptTail e (.Slice lo hi none p2) v (.ref s3.heap.objs.size)) (EP X pins σ Q) X.xe { s3 with heap:=s3.heap.push { cls:=.type "slice",data:=.fields #[vl,vu,.none] } }
 exact tail_any (ops:=[.ref s3.heap.objs.size,v]) ht hT hg (by with_unfolding_all rfl)
def S4 (xs:List V) (lo hi:Option Int):List V:=(xs.drop (HT.sIx xs.length 0 lo)).take (HT.sIx xs.length xs.length hi - HT.sIx xs.length 0 lo)
theorem ad3 (xs:List V) (lo hi:Option Int):(S4 xs lo hi).length ≤ xs.length:=by
 unfold S4
 rw [List.length_take,List.length_drop]
 lia
def bg9 (K:PySem.W.Frag):V → Option Int → Option Int → Hp → VK → Prop:=fun x lo hi H Q=>∃ a xs,x = .ref a ∧ SqT K H a xs ∧
 ¬ (HT.sIx xs.length 0 lo = 0 ∧ HT.sIx xs.length xs.length hi = xs.length) ∧ ∀ p,H p = none → Q (.ref p) (upd H p (.tup (S4 xs lo hi)))
theorem ba8:SlR X (bg9 X.K):=by
 intro pins s σ H x v vl vu lo hi sl Q I rx hs pl pu h
 obtain ⟨a,xs,rfl,hx,hw,q⟩:=h
 cases rx
 obtain ⟨its,r,ht,hz⟩:=I.tuple hx
 have hlen:its.toArray.size = xs.length:=by rw [List.size_toArray]; exact r.length.symm
 refine ⟨"tuple",_,PyProof.Rows.slot_tuple_getitem.lookup,ht.typeIs,?_⟩
 refine HT.getItem_tuple_cut ht hs pl pu (by rw [hlen]; exact hw) ?_ (by rw [hlen]; exact hz)
 rw [hlen]
 refine ⟨.ref s.heap.objs.size,_,I.laid (t':=s.toks) (o:=.tup (S4 xs lo hi)) (fun b ob q=>Heap.get?_push_of_some _ q) (Nat.le_refl _) ?_,rfl,q _ (I.hok.fresh (Nat.le_refl _))⟩
 exact ⟨Nat.le_trans (ad3 xs lo hi) hz,_,(r.drop (HT.sIx xs.length 0 lo)).take (HT.sIx xs.length xs.length hi - HT.sIx xs.length 0 lo),IsTup.new _ _⟩
end
end L2
namespace L2
open PySem PySem.Spec PyProof.Rows
def ixN (n:Nat) (i:Int):Option Nat:=if 0 ≤ i then (if i < n then some i.toNat else none) else if -(n:Int) ≤ i then some (i + n).toNat else none
def atI {α:Type} (xs:List α) (i:Int):Option α:=(ixN xs.length i).bind fun j=>xs[j]?
theorem aH8 {n:Nat} {i:Int} {j:Nat} (h:ixN n i = some j):seqIndex? i n = some j ∧ j < n ∧ -(n:Int) ≤ i ∧ i < n:=by
 unfold ixN at h
 by_cases h0:0 ≤ i
 ·rw [if_pos h0] at h
  by_cases h1:i < n
  ·rw [if_pos h1] at h
   have e:i.toNat = j:=Option.some.inj h
   exact ⟨by rw [seqIndex_of h0 h1,e],by lia,by lia,h1⟩
  ·rw [if_neg h1] at h; cases h
 ·rw [if_neg h0] at h
  by_cases h1:-(n:Int) ≤ i
  ·rw [if_pos h1] at h
   have e:(i + n).toNat = j:=Option.some.inj h
   exact ⟨by rw [seqIndex_neg (by lia) h1,e],by lia,h1,by lia⟩
  ·rw [if_neg h1] at h; cases h
theorem aq6 {α:Type} {xs:List α} {i:Int} {v:α} (h:atI xs i = some v):∃ j,seqIndex? i xs.length = some j ∧ xs[j]? = some v ∧ j < xs.length ∧ -(xs.length:Int) ≤ i ∧ i < xs.length:=by
 unfold atI at h
 cases e:ixN xs.length i with
 | none=>rw [e] at h; cases h
 | some j =>
  rw [e] at h
  obtain ⟨h1,h2,h3,h4⟩:=aH8 e
  exact ⟨j,h1,h,h2,h3,h4⟩
theorem z8 {α:Type} {xs:List α} {j:Nat} {v:α} (h:xs[j]? = some v):atI xs (j:Int) = some v:=by
 have hj:j < xs.length:=(List.getElem?_eq_some_iff.mp h).1
 have e:ixN xs.length (j:Int) = some j:=by
  unfold ixN
  rw [if_pos (by lia),if_pos (by lia)]; simp
 unfold atI; rw [e]; exact h
def a52 (b:Expr):Prop:=∀ o i,subscripted b false o i = operate [o,i] (getItem o i)
def IxR (X:Cx) (r:R2):Prop :=
 ∀ (value slice:Expr) (pins:List (Addr × Obj)) (s:Shared) (σ:St) (H:Hp) (x y:V) (v u:Value) (Q:VK),Inv X pins σ H s → x8 x v → x8 y u → r x y H Q →
  subscripted slice false v u = operate [v,u] (getItem v u) → wpAny (model X.prog X.w) X.A (subscriptTail value slice v u) (EP X pins σ Q) X.xe s
def MtR (X:Cx) (id:String) (r:V → List V → Hp → VK → Prop):Prop :=
 ∀ (pins:List (Addr × Obj)) (s:Shared) (σ:St) (H:Hp) (x:V) (xs:List V) (v:Value) (us:List Value) (Q:VK),Inv X pins σ H s → x8 x v → u0 xs us → r x xs H Q →
  wpAny (model X.prog X.w) X.A (call (.builtin id) (v :: us)) (EP X pins σ Q) X.xe s
section
variable {X:Cx} {a b:Expr} {ta tb:TE} {pos:Pos}
theorem IxR.or {r r':R2} (h:IxR X r) (h':IxR X r'):IxR X (fun x y H Q=>r x y H Q ∨ r' x y H Q):=by
 intro value slice pins s σ H x y v u Q I rx ry q hs
 rcases q with q | q
 ·exact h value slice pins s σ H x y v u Q I rx ry q hs
 ·exact h' value slice pins s σ H x y v u Q I rx ry q hs
theorem j3 {r:R2} (hr:IxR X r) (ha:PE X a ta) (hb:PE X b tb) (hs:a52 b):PE X (.Subscript a b pos) (tOp r ta tb):=by
 intro pins s σ H Q I h
 exact Subscript_ (bb7 ha hb I h fun v u s2 x y H2 I2 rx ry q=>hr a b pins s2 σ H2 x y v u Q I2 rx ry q (hs _ _))
def a80 (K:PySem.W.Frag):R2:=fun x y H Q=>∃ p xs i v,x = .ref p ∧ y = .int i ∧ SqL K H p xs ∧ atI xs i = some v ∧ Q v H
def a89 (K:PySem.W.Frag):R2:=fun x y H Q=>∃ p xs i v,x = .ref p ∧ y = .int i ∧ SqT K H p xs ∧ atI xs i = some v ∧ Q v H
def bf4:R2:=fun x y H Q=>∃ z i c,x = .str z ∧ y = .int i ∧ z.length ≤ sizeLine ∧ atI z.cps.toList i = some c ∧ Q (.str ⟨#[c]⟩) H
theorem aJ9:IxR X (a80 X.K):=by
 intro value slice pins s σ H x y v u Q I rx ry h hs
 obtain ⟨p,xs,i,z,rfl,rfl,hq,he,q⟩:=h
 cases rx
 obtain ⟨t,rfl⟩:=ry
 obtain ⟨its,r,pl,hz⟩:=I.list hq
 obtain ⟨j,h1,h2,h3,h4,h5⟩:=aq6 he
 obtain ⟨w,ew,rw'⟩:=r.get h2
 have hl:=r.length
 have hn:=X8
 have fin:EP X pins σ Q w s:=⟨z,H,I,rw',q⟩
 by_cases h0:0 ≤ i
 ·have hj:i.toNat = j:=by
   rw [seqIndex_of h0 h5] at h1
   exact Option.some.inj h1
  exact item_listR pl.isList h0 (by lia) (by rw [hj]; simpa using ew) fin hs
 ·have hj:(i + (its.toArray.size:Int)).toNat = j:=by
   rw [seqIndex_neg (by lia) h4] at h1
   rw [List.size_toArray,← hl]
   exact Option.some.inj h1
  exact subscriptTail_builtinR (x:=w) pl.isList.typeIs slot_list_getitem.lookup
   (wpAny_getItem_list_neg (Q:=fun r s'=>r = w ∧ EP X pins σ Q r s') pl.isList (by lia) (by rw [List.size_toArray] <;> lia) (by lia) (by rw [hj]; simpa using ew) ⟨rfl,fin⟩) hs
theorem aQ4:IxR X (a89 X.K):=by
 intro value slice pins s σ H x y v u Q I rx ry h hs
 obtain ⟨p,xs,i,z,rfl,rfl,hq,he,q⟩:=h
 cases rx
 obtain ⟨t,rfl⟩:=ry
 obtain ⟨its,r,pl,hz⟩:=I.tuple hq
 obtain ⟨j,h1,h2,h3,h4,h5⟩:=aq6 he
 obtain ⟨w,ew,rw'⟩:=r.get h2
 have hl:=r.length
 have hn:=X8
 have fin:EP X pins σ Q w s:=⟨z,H,I,rw',q⟩
 exact subscriptTail_builtinR (x:=w) pl.typeIs slot_tuple_getitem.lookup
  (getItem_tuple (j:=j) (Q:=fun r s'=>r = w ∧ EP X pins σ Q r s') pl (by lia) (by lia) (by rw [List.size_toArray,← hl]; exact h1) (by simpa using ew) ⟨rfl,fin⟩) hs
theorem a92:IxR X bf4:=by
 intro value slice pins s σ H x y v u Q I rx ry h hs
 obtain ⟨z,i,c,rfl,rfl,hz,he,q⟩:=h
 obtain ⟨t,rfl⟩:=rx
 obtain ⟨t',rfl⟩:=ry
 obtain ⟨j,h1,h2,h3,h4,h5⟩:=aq6 he
 have hl:z.cps.toList.length = z.length:=by simp [Str.length]
 rw [hl] at h1 h4 h5
 have hn:=X8
 exact tail_any (typeIs_str s z t) slot_str_getitem.lookup (getItem_str (c:=c) (by
  have e1:decide (i < -(2 ^ 63:Int)) = false:=decide_eq_false (by lia)
  have e2:decide (i ≥ 2 ^ 63) = false:=decide_eq_false (by lia)
  rw [e1,e2,Bool.or_false]) (by rw [h1]; simpa using h2) ⟨.str ⟨#[c]⟩,H,I.tok _,⟨_,rfl⟩,q⟩) hs
def rIx (K:PySem.W.Frag):R2:=fun x y H Q=>a80 K x y H Q ∨ a89 K x y H Q ∨ bf4 x y H Q
theorem ai9:IxR X (rIx X.K):=aJ9.or (aQ4.or a92)
theorem aG7 (its:List Value) (n j:Nat) (u:Value):Obj.mapSeq (·.setIfInBounds j u) { cls:=.type "list",data:=.seq its.toArray n } = { cls:=.type "list",data:=.seq (its.set j u).toArray n }:=by
 simp [Obj.mapSeq]
theorem Inv.lst {pins:List (Addr × Obj)} {σ:St} {H:Hp} {s:Shared} {p:Addr} {xs:List V} (I:Inv X pins σ H s) (h:H p = some (.lst xs)) :
  ∃ (its:List Value) (n:Nat),u0 xs its ∧ s.heap.get? p = some { cls:=.type "list",data:=.seq its.toArray n } ∧ xs.length ≤ sizeLine:=by
 obtain ⟨z,its,n,r,e⟩:=I.hok p _ h
 exact ⟨its,n,r,e,z⟩
theorem Inv.lstUpd {pins:List (Addr × Obj)} {σ:St} {H:Hp} {s:Shared} {p:Addr} {xs ys:List V} {its its':List Value} {n n':Nat} {f:Obj → Obj} (I:Inv X pins σ H s) (h:H p = some (.lst xs))
  (ho:s.heap.get? p = some { cls:=.type "list",data:=.seq its.toArray n }) (hf:f { cls:=.type "list",data:=.seq its.toArray n } = { cls:=.type "list",data:=.seq its'.toArray n' }) (r:u0 ys its') (hz:ys.length ≤ sizeLine) (t:Nat) :
  Inv X pins σ (upd H p (.lst ys)) { s with heap:=s.heap.update p f,toks:=t }:=by
 have e:(s.heap.update p f).get? p = some { cls:=.type "list",data:=.seq its'.toArray n' }:=by
  rw [Heap.get?_update_self f ho (by rw [hf] <;> rfl),hf]
 refine I.write (x:=p) (e:=p) (by rw [h]; trivial) (.inl rfl) (fun b u hb q=>(Heap.get?_update_other _ _ (Ne.symm hb)).trans q) ⟨_,e⟩ ?_
 exact ⟨hz,its',n',r,e⟩
def be8:V → V → V → Hp → (Hp → Prop) → Prop:=fun o i v H Q=>∃ p xs k j,o = .ref p ∧ i = .int k ∧ H p = some (.lst xs) ∧ ixN xs.length k = some j ∧ Q (upd H p (.lst (xs.set j v)))
theorem aR0:a98 X be8:=by
 intro pins s σ H o i v ov iv u Q I ro ri rv h
 obtain ⟨p,xs,k,j,rfl,rfl,hp,hj,q⟩:=h
 cases ro
 obtain ⟨t,rfl⟩:=ri
 obtain ⟨its,n,r,ho,hz⟩:=I.lst hp
 obtain ⟨h1,h2,h3,h4⟩:=aH8 hj
 have hl:=r.length
 have hn:=X8
 have I':Inv X pins σ (upd H p (.lst (xs.set j v))) { s with heap:=s.heap.update p (Obj.mapSeq (·.setIfInBounds j u)) } :=
  I.lstUpd hp ho (aG7 its n j u) (r.set rv j) (by rw [List.length_set]; exact hz) s.toks
 by_cases h0:0 ≤ k
 ·have hk:k.toNat = j:=by
   rw [seqIndex_of h0 h4] at h1
   exact Option.some.inj h1
  exact PySem.W.ki_setAt ho h0 (by lia) (by rw [List.size_toArray,← hl]; exact h4) (by rw [hk]; exact ⟨_,I',q⟩)
 ·have hk:(k + (its.toArray.size:Int)).toNat = j:=by
   rw [seqIndex_neg (by lia) h3] at h1
   rw [List.size_toArray,← hl]
   exact Option.some.inj h1
  exact PySem.W.ki_setBack ho (by lia) (by rw [List.size_toArray,← hl]; exact h3) (by lia) (by rw [hk]; exact ⟨_,I',q⟩)
theorem at3 (lo hi:Option Int) (n:Nat):(sliceBounds lo hi none n).1 = ((HT.sIx n 0 lo:Nat):Int) ∧ (sliceBounds lo hi none n).2.1 = ((HT.sIx n n hi:Nat):Int) ∧ (sliceBounds lo hi none n).2.2 = 1:=by
 refine ⟨?_,?_,rfl⟩
 ·cases lo with
  | none=>simp [sliceBounds,HT.sIx]
  | some i =>
   simp only [sliceBounds,HT.sIx,Option.getD_none,show (1:Int) > 0 by decide,if_true]
   by_cases h:i < 0
   ·simp only [h,if_true] <;> lia
   ·simp only [h,if_false] <;> lia
 ·cases hi with
  | none=>simp [sliceBounds,HT.sIx]
  | some i =>
   simp only [sliceBounds,HT.sIx,Option.getD_none,show (1:Int) > 0 by decide,if_true]
   by_cases h:i < 0
   ·simp only [h,if_true] <;> lia
   ·simp only [h,if_false] <;> lia
theorem ak1 (its:List Value) (lo hi:Option Int):slicePick its.toArray lo hi none = ((its.drop (HT.sIx its.length 0 lo)).take (HT.sIx its.length its.length hi - HT.sIx its.length 0 lo)).toArray:=by
 obtain ⟨h1,h2,h3⟩:=at3 lo hi its.toArray.size
 unfold slicePick
 rw [h1,h2,h3]
 simp only [sliceRange_one,pick_run,List.size_toArray] <;> rfl
def be3 (K:PySem.W.Frag):V → Option Int → Option Int → Hp → VK → Prop:=fun x lo hi H Q=>∃ a xs,x = .ref a ∧ SqL K H a xs ∧ ∀ p,H p = none → Q (.ref p) (upd H p (.lst (S4 xs lo hi)))
theorem a45:SlR X (be3 X.K):=by
 intro pins s σ H x v vl vu lo hi sl Q I rx hs pl pu h
 obtain ⟨a,xs,rfl,hx,q⟩:=h
 cases rx
 obtain ⟨its,r,ht,hz⟩:=I.list hx
 have hlen:=r.length
 refine ⟨"list",_,slot_list_getitem.lookup,ht.isList.typeIs,?_⟩
 refine wpAny_getItem_list_slice ht.isList hs pl pu .none (by simp) ?_ (by rw [List.size_toArray] <;> lia)
 rw [ak1,← hlen]
 refine ⟨.ref s.heap.objs.size,_,I.laid (t':=s.toks) (o:=.lst (S4 xs lo hi)) (fun b ob q=>Heap.get?_push_of_some _ q) (Nat.le_refl _) ?_,rfl,q _ (I.hok.fresh (Nat.le_refl _))⟩
 exact ⟨Nat.le_trans (ad3 xs lo hi) hz,_,0,(r.drop (HT.sIx xs.length 0 lo)).take (HT.sIx xs.length xs.length hi - HT.sIx xs.length 0 lo),Heap.get?_push_size _ rfl⟩
def Z5:V → Bool
 | .non=>true
 | .bl _=>true
 | .int _=>true
 | .str _=>true
 | _=>false
def eqV:V → V → Bool
 | .non,.non=>true
 | .bl a,.bl b=>a == b
 | .bl a,.int b=>(if a then 1 else 0) == b
 | .int a,.bl b=>a == (if b then 1 else 0)
 | .int a,.int b=>a == b
 | .str a,.str b=>a == b
 | _,_=>false
theorem a91 {A:Around} {s:Shared} {y x:V} {u v:Value} (ry:x8 y u) (rx:x8 x v) (fy:Z5 y = true) (fx:Z5 x = true):SeqAt.EqAt A s u v (eqV y x):=by
 cases y with
 | non =>
  cases ry
  cases x with
  | non=>cases rx; exact SeqAt.EqAt.same _
  | bl b=>cases rx; exact SeqAt.EqAt.none_bool b
  | int b=>obtain ⟨t,rfl⟩:=rx; exact SeqAt.EqAt.none_int b t
  | str b=>obtain ⟨t,rfl⟩:=rx; exact SeqAt.EqAt.none_str b t
  | _=>exact absurd (show false = true from fx) Bool.false_ne_true
 | bl a =>
  cases ry
  cases x with
  | non=>cases rx; exact SeqAt.EqAt.bool_none a
  | bl b=>cases rx; exact SeqAt.EqAt.bool_bool a b
  | int b=>obtain ⟨t,rfl⟩:=rx; exact SeqAt.EqAt.bool_int a b t
  | str b=>obtain ⟨t,rfl⟩:=rx; exact SeqAt.EqAt.bool_str a b t
  | _=>exact absurd (show false = true from fx) Bool.false_ne_true
 | int a =>
  obtain ⟨t',rfl⟩:=ry
  cases x with
  | non=>cases rx; exact SeqAt.EqAt.int_none a t'
  | bl b=>cases rx; exact SeqAt.EqAt.int_bool a t' b
  | int b=>obtain ⟨t,rfl⟩:=rx; exact SeqAt.EqAt.int_int a t' b t
  | str b=>obtain ⟨t,rfl⟩:=rx; exact SeqAt.EqAt.int_str a t' b t
  | _=>exact absurd (show false = true from fx) Bool.false_ne_true
 | str a =>
  obtain ⟨t',rfl⟩:=ry
  cases x with
  | non=>cases rx; exact SeqAt.EqAt.str_none a t'
  | bl b=>cases rx; exact SeqAt.EqAt.str_bool a t' b
  | int b=>obtain ⟨t,rfl⟩:=rx; exact SeqAt.EqAt.str_int a t' b t
  | str b=>obtain ⟨t,rfl⟩:=rx; exact SeqAt.EqAt.str_str a t' b t
  | _=>exact absurd (show false = true from fx) Bool.false_ne_true
 | _=>exact absurd (show false = true from fy) Bool.false_ne_true
def eqU (x:V) (u:Value):Bool:=match u with
 | .none=>eqV .non x
 | .bool b=>eqV (.bl b) x
 | .int i _=>eqV (.int i) x
 | .str z _=>eqV (.str z) x
 | _=>false
theorem aT2 {x y:V} {u:Value} (r:x8 y u) (f:Z5 y = true):eqU x u = eqV y x:=by
 cases y with
 | non=>cases r; rfl
 | bl b=>cases r; rfl
 | int i=>obtain ⟨t,rfl⟩:=r; rfl
 | str z=>obtain ⟨t,rfl⟩:=r; rfl
 | _=>exact absurd (show false = true from f) Bool.false_ne_true
theorem aa4 {x:V}:∀ {xs:List V} {us:List Value},u0 xs us → xs.all Z5 = true → us.any (eqU x) = xs.any fun y=>eqV y x
 | _,_,.nil,_=>rfl
 | y :: xs,u :: us,.cons r t,f=>by
  rw [List.all_cons,Bool.and_eq_true] at f
  rw [List.any_cons,List.any_cons,aT2 r f.1,aa4 t f.2]
theorem U5 {A:Around} {s:Shared} {x:V} {v:Value} (rx:x8 x v) (fx:Z5 x = true):∀ {xs:List V} {us:List Value},u0 xs us → xs.all Z5 = true → ∀ u ∈ us,SeqAt.EqAt A s u v (eqU x u)
 | _,_,.nil,_=>fun u hu=>by cases hu
 | y :: xs,u :: us,.cons r t,f=>fun u' hu=>by
  rw [List.all_cons,Bool.and_eq_true] at f
  rcases List.mem_cons.mp hu with rfl | hu
  ·rw [aT2 r f.1]; exact a91 r rx f.1 fx
  ·exact U5 rx fx t f.2 u' hu
def inV (x:V) (xs:List V):Bool:=xs.any fun y=>eqV y x
def rIn (K:PySem.W.Frag) (neg:Bool):R2:=fun x y H Q=>∃ p xs,y = .ref p ∧ (SqL K H p xs ∨ SqT K H p xs) ∧ Z5 x = true ∧ xs.all Z5 = true ∧ Q (.bl (if neg then !inV x xs else inV x xs)) H
theorem aO9:OpR X (compareOp .In) (rIn X.K false):=by
 intro pins s σ H x y v u Q I rx ry h
 obtain ⟨p,xs,rfl,hq,fx,fs,q⟩:=h
 cases ry
 rcases hq with hq | hq
 ·obtain ⟨its,r,pl,hz⟩:=I.list hq
  refine SeqAt.in_listAt (eqU x) pl.isList (fun w hw=>U5 rx fx r fs w (by simpa using hw)) ⟨.bl _,H,I,rfl,?_⟩
  rw [show its.toArray.any (eqU x) = its.any (eqU x) by simp,aa4 r fs]
  exact q
 ·obtain ⟨its,r,pl,hz⟩:=I.tuple hq
  refine SeqAt.in_tupleAt (eqU x) pl (fun w hw=>U5 rx fx r fs w (by simpa using hw)) ⟨.bl _,H,I,rfl,?_⟩
  rw [show its.toArray.any (eqU x) = its.any (eqU x) by simp,aa4 r fs]
  exact q
theorem at8:OpR X (compareOp .NotIn) (rIn X.K true):=by
 intro pins s σ H x y v u Q I rx ry h
 obtain ⟨p,xs,rfl,hq,fx,fs,q⟩:=h
 cases ry
 rcases hq with hq | hq
 ·obtain ⟨its,r,pl,hz⟩:=I.list hq
  refine SeqAt.notIn_listAt (eqU x) pl.isList (fun w hw=>U5 rx fx r fs w (by simpa using hw)) ⟨.bl _,H,I,rfl,?_⟩
  rw [show its.toArray.any (eqU x) = its.any (eqU x) by simp,aa4 r fs]
  exact q
 ·obtain ⟨its,r,pl,hz⟩:=I.tuple hq
  refine SeqAt.notIn_tupleAt (eqU x) pl (fun w hw=>U5 rx fx r fs w (by simpa using hw)) ⟨.bl _,H,I,rfl,?_⟩
  rw [show its.toArray.any (eqU x) = its.any (eqU x) by simp,aa4 r fs]
  exact q
theorem au7:B0 X (.builtin "len") (fun xs H Q=>∃ p ys,xs = [.ref p] ∧ (SqL X.K H p ys ∨ SqT X.K H p ys) ∧ Q (.int ys.length) H):=by
 intro pins s σ H xs us Q I r h
 obtain ⟨p,ys,rfl,hq,q⟩:=h
 obtain ⟨u,rfl,rx⟩:=P7 r
 cases rx
 have hn:=X8
 rcases hq with hq | hq
 ·obtain ⟨its,r',pl,hz⟩:=I.list hq
  have hlen:=r'.length
  exact Calls.call_len_list pl.isList (by simp only [List.size_toArray] <;> lia) ⟨.int ys.length,H,I.tok _,⟨s.toks + 1,by rw [List.size_toArray,hlen]⟩,q⟩
 ·obtain ⟨its,r',pl,hz⟩:=I.tuple hq
  have hlen:=r'.length
  exact len_tuple pl (by simp only [List.size_toArray] <;> lia) ⟨.int ys.length,H,I.tok _,⟨s.toks + 1,by rw [List.size_toArray,hlen]⟩,q⟩
theorem as6:B0 X (.type "list") (fun xs H Q=>∃ p ys,xs = [.ref p] ∧ (SqL X.K H p ys ∨ SqT X.K H p ys) ∧ ∀ l,H l = none → Q (.ref l) (upd H l (.lst ys))):=by
 intro pins s σ H xs us Q I r h
 obtain ⟨p,ys,rfl,hq,q⟩:=h
 obtain ⟨u,rfl,rx⟩:=P7 r
 cases rx
 have fin:∀ (its:List Value),u0 ys its → ys.length ≤ sizeLine → ∀ (h':Heap) (c':Nat),(∀ b o',s.heap.get? b = some o' → h'.get? b = some o') →
   h'.get? s.heap.objs.size = some { cls:=.type "list",dict:=none,data:=.seq its.toArray c',slots:=#[] } → EP X pins σ Q (.ref s.heap.objs.size) { s with heap:=h' }:=fun its r' hz h' c' kp e =>
  ⟨.ref s.heap.objs.size,_,I.laid (t':=s.toks) kp (Nat.le_refl _) (show w6 X.prog X.w _ h' _ (.lst ys) from ⟨hz,its,c',r',e⟩),rfl,q _ (I.hok.fresh (Nat.le_refl _))⟩
 rcases hq with hq | hq
 ·obtain ⟨its,r',pl,hz⟩:=I.list hq
  have hlen:=r'.length
  obtain ⟨o,ho,hc,n,hd⟩:=pl.isList
  exact call_list_seq p (.inl rfl) ho hc hd (fun h' c' kp e=>fin its r' hz h' c' kp e) (by simp only [List.size_toArray] <;> lia)
 ·obtain ⟨its,r',pl,hz⟩:=I.tuple hq
  have hlen:=r'.length
  obtain ⟨o,ho,hc,n,hd⟩:=pl
  exact call_list_seq p (.inr rfl) ho hc hd (fun h' c' kp e=>fin its r' hz h' c' kp e) (by simp only [List.size_toArray] <;> lia)
theorem ak2:B0 X (.type "tuple") (fun xs H Q=>∃ p ys,xs = [.ref p] ∧ ((SqL X.K H p ys ∧ ∀ l,H l = none → Q (.ref l) (upd H l (.tup ys))) ∨ (SqT X.K H p ys ∧ Q (.ref p) H))):=by
 intro pins s σ H xs us Q I r h
 obtain ⟨p,ys,rfl,h⟩:=h
 obtain ⟨u,rfl,rx⟩:=P7 r
 cases rx
 rcases h with ⟨hq,q⟩ | ⟨hq,q⟩
 ·obtain ⟨its,r',pl,hz⟩:=I.list hq
  have hlen:=r'.length
  refine call_tuple_list pl.isList (fun h' kp=>?_) (by simp only [List.size_toArray] <;> lia)
  have I1:Inv X pins σ H { s with heap:=h' }:=I.kept (t':=s.toks) kp
  have I2:Inv X pins σ (upd H h'.objs.size (.tup ys)) { s with heap:=h'.push { cls:=.type "tuple",data:=.seq its.toArray } } :=
   I1.laid (t':=s.toks) (fun b o e=>Heap.get?_push_of_some _ e) (Nat.le_refl _) (show w6 X.prog X.w _ _ _ (.tup ys) from ⟨hz,its,r',IsTup.new _ _⟩)
  exact ⟨.ref h'.objs.size,_,I2,rfl,q _ (I1.hok.fresh (Nat.le_refl _))⟩
 ·obtain ⟨its,r',pl,hz⟩:=I.tuple hq
  exact call_tuple_same pl ⟨.ref p,H,I,rfl,q⟩
def tyV (K:PySem.W.Frag) (T:String) (x:V) (H:Hp):Prop:=match x with
 | .str _=>T = "str"
 | .int _=>T = "int"
 | .ref p=>(T = "list" ∧ ∃ xs,SqL K H p xs) ∨ (T = "tuple" ∧ ∃ o,K.lookup p = some o ∧ o.cls = .type "tuple" ∧ o.dict = none) ∨
   (T = "dict" ∧ ((∃ kvs,H p = some (.dK kvs)) ∨ ∃ kvs,H p = some (.dT kvs))) ∨ (T = "set" ∧ ∃ S n,H p = some (.set S n))
 | _=>False
theorem bb3 {pins:List (Addr × Obj)} {σ:St} {H:Hp} {s:Shared} {T:String} {x:V} {v:Value} (I:Inv X pins σ H s) (r:x8 x v) (ty:tyV X.K T x H) :
  s.TypeIs v T ∧ ∀ a,v = .ref a → ∃ ob,s.heap.get? a = some ob ∧ ob.dict = none:=by
 cases x with
 | str z =>
  obtain ⟨t,rfl⟩:=r
  cases (show T = "str" from ty)
  exact ⟨typeIs_str s z t,fun _ e=>nomatch e⟩
 | int i =>
  obtain ⟨t,rfl⟩:=r
  cases (show T = "int" from ty)
  exact ⟨typeIs_int s i t,fun _ e=>nomatch e⟩
 | ref p =>
  cases r
  rcases ty with ⟨rfl,xs,hq⟩ | ⟨rfl,o,hk,hc,hd⟩ | ⟨rfl,hk⟩ | ⟨rfl,S,n,hk⟩
  ·obtain ⟨its,_,pl,_⟩:=I.list hq
   refine ⟨pl.isList.typeIs,fun a e=>?_⟩
   cases e
   obtain ⟨o,n,e,c,hd,_⟩:=pl
   exact ⟨o,e,hd⟩
  ·refine ⟨⟨o,I.kIn p o hk,hc⟩,fun a e=>?_⟩
   cases e
   exact ⟨o,I.kIn _ o hk,hd⟩
  ·have z:∃ o,s.heap.get? p = some o ∧ o.ExactDict:=by
    rcases hk with ⟨kvs,hk⟩ | ⟨kvs,hk⟩
    ·obtain ⟨_,_,_,_,o,_,_,e,ex,_⟩:=I.hok p _ hk
     exact ⟨o,e,ex⟩
    ·obtain ⟨_,_,_,_,o,_,_,e,ex,_⟩:=I.hok p _ hk
     exact ⟨o,e,ex⟩
   obtain ⟨o,e,ex⟩:=z
   refine ⟨⟨o,e,ex.1⟩,fun a e2=>?_⟩
   cases e2
   exact ⟨o,e,ex.2.1⟩
  ·obtain ⟨o,_,_,_,e,ex,_⟩:=I.hok p _ hk
   refine ⟨⟨o,e,ex.1⟩,fun a e2=>?_⟩
   cases e2
   exact ⟨o,e,ex.2.1⟩
 | _=>exact False.elim ty
def tBM (K:PySem.W.Frag) (T:String) (r:V → List V → Hp → VK → Prop) (to:TE) (t:TA):TE:=fun σ H Q=>to σ H fun x H1=>tyV K T x H1 ∧ t σ H1 fun xs H2=>r x xs H2 Q
variable {o e:Expr} {es:List Expr} {to:TE} {t:TA} {name:Str} {apos cpos:Pos} {T id:String} {r:V → List V → Hp → VK → Prop}
theorem bd6 (pa:PlainAttrs T) (slot:Slot T name id) (hty:typeOf (.builtin id) = pure (.type "method_descriptor")) (hm:MtR X id r) (ho:PE X o to) (ha:PA X (e :: es) t)
  (hbase:attributeBase o name X.env (eval o X.env) = eval o X.env:=by rfl)
  (hfew:((backTo cpos (starEach (e :: es) X.env)).all (fun x=>!x.1) && (backToKw cpos (keywordEach [] X.env)).all (fun x=>x.1.isSome)
   && decide ((e :: es).length + ([]:List Keyword).length + (if ([]:List Keyword).isEmpty then 0 else 1) < 30)) = true:=by rfl)
  (hline:(apos.endLine == cpos.line) = true:=by rfl) (hs:starEach (e :: es) X.env = (false,eval e X.env) :: starEach es X.env:=by rfl) (hplain:(backTo cpos (starEach es X.env)).any (·.1) = false:=by rfl) :
  PE X (.Call (.Attribute o name apos) (e :: es) [] cpos) (tBM X.K T r to t):=by
 intro pins s σ H Q I h
 refine wpAny_Call_method_late hbase hfew hline rfl (thn (ho pins s σ H _ I h) fun v s1 ⟨x,H1,I1,r1,ty,q1⟩=>?_)
 obtain ⟨h1,h2⟩:=bb3 I1 r1 ty
 refine ⟨T,id,pa,slot,hty,h1,h2,?_⟩
 have hA:=ha cpos pins s1 σ H1 _ I1 q1
 rw [hs] at hA ⊢
 refine Calls.callWith_builtin (by show (false || (backTo cpos (starEach es X.env)).any (·.1)) = false; rw [hplain] <;> rfl) (Calls.evalArgs_plain ?_)
 exact thn hA fun us s2 ⟨vs,H2,I2,r2,q2⟩=>hm pins s2 σ H2 x vs v us Q I2 r1 r2 q2
end
end L2
namespace L2
open PySem PySem.Spec PyProof.Rows
def MtM (X:Cx) (id:String) (r:V → List V → Hp → VK → Prop):Prop :=
 ∀ (pins:List (Addr × Obj)) (s:Shared) (σ:St) (H:Hp) (x:V) (xs:List V) (v:Value) (us:List Value) (Q:VK),Inv X pins σ H s → x8 x v → u0 xs us → r x xs H Q →
  wpAny (model X.prog X.w) X.A (call (.builtin id) (v :: us)) (EP X pins σ Q) X.xe s
theorem u0.one:∀ {x:V} {us:List Value},u0 [x] us → ∃ u,us = [u] ∧ x8 x u
 | _,_,.cons r .nil=>⟨_,rfl,r⟩
section
variable {X:Cx} {pins:List (Addr × Obj)} {σ:St} {H:Hp} {s:Shared} {l b:Addr} {xs ys zs:List V}
theorem Inv.lset {its its':List Value} {n:Nat} {f:Array Value → Array Value} {t':Nat} (I:Inv X pins σ H s) (hH:H l = some (.lst xs))
  (e:s.heap.get? l = some { cls:=.type "list",data:=.seq its.toArray n }) (hf:f its.toArray = its'.toArray) (hv:u0 ys its') (hz:ys.length ≤ sizeLine) :
  Inv X pins σ (upd H l (.lst ys)) { s with heap:=s.heap.update l (Obj.mapSeq f),toks:=t' }:=by
 have q:=PySem.IsL.update e f
 rw [hf] at q
 refine I.write (x:=l) (e:=l) (by rw [hH]; exact trivial) (.inl rfl) (fun b' u hb hu=>(Heap.get?_update_other s.heap (Obj.mapSeq f) (Ne.symm hb)).trans hu) ⟨_,q⟩ ?_
 exact ⟨hz,its',_,hv,q⟩
theorem Inv.lnew {its:List Value} {t':Nat} (I:Inv X pins σ H s) (hv:u0 ys its) (hz:ys.length ≤ sizeLine) :
  Inv X pins σ (upd H s.heap.objs.size (.lst ys)) { s with heap:=s.heap.push { cls:=.type "list",data:=.seq its.toArray },toks:=t' } :=
 I.laid (fun _ _ q=>Heap.get?_push_of_some _ q) (Nat.le_refl _) ⟨hz,its,0,hv,Heap.get?_push_size _ rfl⟩
theorem Inv.fresh (I:Inv X pins σ H s):H s.heap.objs.size = none:=I.hok.fresh (Nat.le_refl _)
theorem Inv.lstM (I:Inv X pins σ H s) (hH:H l = some (.lst xs)):xs.length ≤ sizeLine ∧ ∃ (its:List Value) (n:Nat),u0 xs its ∧ xs.length = its.length ∧ s.heap.get? l = some { cls:=.type "list",data:=.seq its.toArray n }:=by
 obtain ⟨z,its,n,r,e⟩:=I.hok l _ hH
 exact ⟨z,its,n,r,r.length,e⟩
end
section
variable {X:Cx}
def aI5:V → List V → Hp → VK → Prop:=fun x vs H Q=>∃ l xs y,x = .ref l ∧ vs = [y] ∧ H l = some (.lst xs) ∧ xs.length < sizeLine ∧ Q .non (upd H l (.lst (xs ++ [y])))
theorem aN1:MtM X "list.append" aI5:=by
 intro pins s σ H x vs v us Q I rx rv h
 obtain ⟨l,xs,y,rfl,rfl,hH,hz,q⟩:=h
 cases rx
 obtain ⟨u,rfl,ru⟩:=rv.one
 obtain ⟨z,its,n,r,hl,e⟩:=I.lstM hH
 refine call_meets F.slot_list_append ⟨_,e,rfl⟩ F.entry_list_append (F.args_list_append_2 _ _) (PySem.list_append l its.toArray n u (by rw [List.size_toArray]; lia)) ⟨e,?_⟩
 refine ⟨.non,_,I.lset (its':=its ++ [u]) hH e (by simp) (r.append (.cons ru .nil)) ?_,rfl,q⟩
 rw [List.length_append,List.length_singleton]
 lia
def bg3:R2:=fun x y H Q=>∃ l b xs zs,x = .ref l ∧ y = .ref b ∧ H l = some (.lst xs) ∧ H b = some (.lst zs) ∧ xs.length + zs.length ≤ sizeLine ∧ ∀ p,H p = none → Q (.ref p) (upd H p (.lst (xs ++ zs)))
theorem O8:OpR X (binaryOp .Add) bg3:=by
 intro pins s σ H x y v u Q I rx ry h
 obtain ⟨l,b,xs,zs,rfl,rfl,hH,hB,hz,q⟩:=h
 cases rx
 cases ry
 obtain ⟨z,its,n,r,hl,e⟩:=I.lstM hH
 obtain ⟨z2,its2,n2,r2,hl2,e2⟩:=I.lstM hB
 refine PySem.P.add_list e e2 ?_ (by rw [List.size_toArray,List.size_toArray]; lia)
 have ea:its.toArray ++ its2.toArray = (its ++ its2).toArray:=by simp
 rw [ea]
 exact ⟨.ref _,_,I.lnew (t':=s.toks) (r.append r2) (by rw [List.length_append]; lia),rfl,q _ I.fresh⟩
end
end L2
namespace Att
open PySem PySem.W PySem.Calls PyProof.Rows
theorem ae6 {P:Params} {h:Heap}:∀ (ns:List Int) (vs:List Value),WellAll P h vs (ns.map WData.int) → IntsAre vs ns:=by
 intro ns
 induction ns with
 | nil =>
  intro vs w
  rw [List.map_nil] at w
  cases w
  exact .nil
 | cons n ns ih =>
  intro vs w
  rw [List.map_cons] at w
  cases w with
  | cons a b =>
   cases a
   exact .cons _ _ (ih _ b)
theorem aL8 {l:OpenLaw} {n:Nat} (hn:l.most = some n) {P:Params} {h:Heap} {args:List WData} {vals:List Value}
  (hpre:l.row.toRowW.claim.pre args = true) (hwl:WellAll P h vals args) :
  ∃ a vs ns,vals = [Value.ref a] ∧ args = [WData.list (ns.map WData.int)] ∧ h.get? a = some { cls:=.type "list",data:=.seq vs.toArray } ∧ IntsAre vs ns ∧ ns.length ≤ n:=by
 have hsh:WShape.hasAll [] args [.list .int] = true:=(pre_splitW hpre).1
 have hc:l.pre.holds [] { args:=args } = true:=(pre_splitW hpre).2
 obtain ⟨d,r,rfl,h1,h2⟩:=hasAllW_cons hsh
 obtain rfl:=hasAllW_nil h2
 obtain ⟨xs,rfl,h3⟩:=hasW_list h1
 obtain ⟨ns,rfl⟩:=items_int h3
 have hlen:ns.length ≤ n:=by
  unfold OpenLaw.pre at hc
  have h4:(WTm.not (.lt (.lit (.int (n:Int))) (.len (.arg 0)))).holds [] { args:=[.list (ns.map .int)] } = true:=by
   have h4:=(holds_andW hc).1
   rw [hn] at h4
   exact h4
  have h5:=condW_of h4 (w_not (w_lt w_lit (w_len_list (w_arg rfl))))
  rw [List.length_map] at h5
  refine Nat.le_of_not_lt fun q=>?_
  have q':(n:Int) < ((ns.length:Nat):Int):=by lia
  first
   | (rw [decide_eq_true q'] at h5; exact absurd h5 (by decide))
   | (simp at h5; lia)
 cases hwl with
 | cons w1 w2 =>
  cases w2
  cases w1 with
  | list ho hall=>exact ⟨_,_,ns,rfl,rfl,ho,ae6 ns _ hall,hlen⟩
theorem aO7 (l:OpenLaw) (args:List WData):l.row.toRowW.claim.post args (.bool true) args = true :=
 postW_of (r:=l.row.toRowW) (X:=(true == true))
  (show WShape.has [] (.bool true) .bool = true by first | rfl | decide | simp [WShape.has,WShape.arms,WShape.armsAll])
  (show (WTm.eq .res (.lit (.bool true))).value [] { args:=args,res:=some (.bool true),after:=args } = some (.bool (true == true)) from w_eq_bool (w_res rfl) w_lit) rfl
theorem attach_call {l:OpenLaw} {n:Nat} {q:Program} {loose:List Str} {XP:(Str → Option Value) → Heap → Prop} {YP:World → Heap → Prop} {d:DefRec}
  (hn:l.most = some n) (hdf:d.params.defaults = [])
  (call:∀ (w:World) (s₀ s₁:Shared) (mg mb:Str → Option Value) (fa:Addr) (o:Obj) (pm cd doc:Value) (a:Addr) (vs:List Value) (ns:List Int),
   Ground q loose [] XP w s₀ mg mb s₁.heap → YP w s₁.heap →
   s₁.heap.get? fa = some o → o.data = .func (docDef d.name d.params d.body d.scope pm cd doc) → s₁.heap.CodeRec cd d.name → mg d.name = some (.ref fa) →
   s₁.heap.get? a = some { cls:=.type "list",data:=.seq vs.toArray } → IntsAre vs ns → ns.length ≤ n → s₁.gens = #[] →
   codeAny (model l.prog w) callerA (.call (.ref fa) ⟨[.ref a],[]⟩) (fun r s'=>r = .ok (.ret (.bool true)) ∧ OldK s₁.heap s'.heap ∧ s'.os = s₁.os ∧ AllBare s'.gens) s₁) :
  WalkO q loose XP YP l.row.toRowW d [] (fun f vs=>PySem.call f vs):=by
 intro w s₀ s₁ mg mb G Y fa o pm cd doc dV kV ho hd hcd hD hmg hg args vals as hpre hlay hrd hwl hlo
 obtain rfl:dV = .none:=Dflts.none hD hdf
 obtain rfl:kV = .none:=Dflts.noKw hD
 obtain ⟨a,vs,ns,rfl,rfl,hobj,hints,hlen⟩:=aL8 hn hpre hwl
 refine enter_call (codeAny_mono (call w s₀ s₁ mg mb fa o pm cd doc a vs ns G Y ho (fd_plain hd) hcd hmg hobj hints hlen hg) fun r s' hq=>?_)
 obtain ⟨rfl,h2,h3,h4⟩:=hq
 exact ⟨.inl ⟨.bool true,.bool true,[],rfl,fun _=>rfl,.bool true,aO7 l _,fun _=>⟨List.Pairwise.nil,fun _ hm=>(nomatch hm)⟩⟩,h2,h3,h4⟩
end Att
namespace L2
open PySem PySem.Spec PyProof.Rows
theorem Q3:∀ {vs:List Value} {ns:List Int},IntsAre vs ns → u0 (ns.map V.int) vs
 | _,_,.nil=>.nil
 | _,_,.cons n t h=>.cons ⟨t,rfl⟩ (Q3 h)
def bb5 (H:Hp):Prop:=∀ b,H b = none ∨ ∃ o xs,H b = some (.frz o (.lst xs))
theorem aW3 {P:Program} {w:World} {K:PySem.W.Frag} {mg mb:Str → Option Value} {CX:CXT} {k:Nat} {fa a:Addr} {fd:FuncData} {x:Str} {sp:Sp} {s₁:Shared} {vs:List Value} {ns:List Int}
  (KX:K.In s₁.heap) (hns:s₁.heap.Ns mainGlobals mg) (hb:s₁.heap.Ns builtinsNs mb) (hbb:∀ x:Str,x ≠ "__name__" → mb x = bootBuiltins x) (hlim:s₁.heap.NoLimit) (hg:s₁.gens = #[])
  (ha:s₁.heap.get? a = some { cls:=.type "list",data:=.seq vs.toArray }) (hi:IntsAre vs ns) (hl:ns.length ≤ sizeLine) (hr:Room k callerA)
  (F:∀ base:Heap,K.In base → base.Ns mainGlobals mg → FnOk P w K mg base CX k fa fd [x] sp) (hbind:∀ (s:Shared) (u:Value),BindsTo s fd ⟨[u],[]⟩ [(x,u)])
  (hsp:∀ H:Hp,bb5 H → SqL K H a (ns.map V.int) → sp [.ref a] H (fun v _=>v = .bl true) fun _ _ _=>False)
  (hCX:∀ H e s',CX [] H s₁ (fun _ _ _=>False) e s' → False) :
  codeAny (model P w) callerA (.call (.ref fa) ⟨[.ref a],[]⟩) (fun r s'=>r = .ok (.ret (.bool true)) ∧ OldK s₁.heap s'.heap ∧ s'.os = s₁.os ∧ AllBare s'.gens) s₁:=by
 have rv:=Q3 hi
 have lenV:=hi.length
 have core:∀ H:Hp,bb5 H → SqL K H a (ns.map V.int) → HOk P w H s₁.heap → (∀ b,H b ≠ none → b = a) → (H a ≠ none → K.lookup a = none) →
   codeAny (model P w) callerA (.call (.ref fa) ⟨[.ref a],[]⟩) (fun r s'=>r = .ok (.ret (.bool true)) ∧ OldK s₁.heap s'.heap ∧ s'.os = s₁.os ∧ AllBare s'.gens) s₁:=by
  intro H hO hS hok hA hK
  have base_of:∀ {b:Addr} {o:Obj},s₁.heap.get? b = some o → H b = none → (as5 s₁.heap H).get? b = some o:=fun e n=>aT7 e n
  have noA:∀ {b:Addr} {o:Obj} {es:Array DictEntry} {ep:Nat},s₁.heap.get? b = some o → o.data = .dict es ep → H b = none:=fun {b o es ep} e d=>by
   cases q:H b with
   | none=>rfl
   | some u =>
    have e':b = a:=hA b (by rw [q]; simp)
    subst e'
    rw [ha] at e; cases e
    have d':Data.seq vs.toArray _ = Data.dict es ep:=d
    cases d'
  have nsK:∀ {b:Addr} {m:Str → Option Value},s₁.heap.Ns b m → (as5 s₁.heap H).Ns b m:=fun {b m} ⟨o,es,ep,e,d,r⟩=>⟨o,es,ep,base_of e (noA e d),d,r⟩
  have hKb:K.In (as5 s₁.heap H):=fun b o e=>base_of (KX b o e) (by
   cases q:H b with
   | none=>rfl
   | some u =>
    have e':b = a:=hA b (by rw [q]; simp)
    subst e'
    rw [hK (by rw [q]; simp)] at e; cases e)
  have hM:Mod K mg (as5 s₁.heap H):=⟨hKb,nsK hns,⟨mb,nsK hb,hbb⟩,let ⟨mc,h1,h2⟩:=hlim; ⟨mc,nsK h1,h2⟩⟩
  have e0:Env0 P w K mg (as5 s₁.heap H) callerA [] s₁ H:=⟨rfl,hM,fun b o e=>aX8 e,Nat.le_of_eq (aP2 _ _),trivial,fun b hb=>absurd (show b ∈ ([]:List Addr) from hb) (by simp),hok,.of_eq hg⟩
  refine codeAny_mono ((F _ hKb (nsK hns)).run callerA [] s₁ H ⟨[.ref a],[]⟩ [.ref a] [.ref a] _ _ hr e0 (hbind s₁ (.ref a)) (.cons rfl .nil) (hsp H hO hS)) fun r s' h=>?_
  cases r with
  | error e=>exact (hCX H e s' h).elim
  | ok fl =>
   cases fl with
   | next=>exact False.elim h
   | brk=>exact False.elim h
   | cont=>exact False.elim h
   | ret u =>
    obtain ⟨v,H',os,bare,un,hok',r',q⟩:=h
    have q':v = .bl true:=q
    subst q'
    obtain rfl:u = Value.bool true:=r'
    refine ⟨rfl,OldK.of_keep fun b o e=>?_,os,bare⟩
    cases q:H b with
    | none=>exact un.keep b o e q (by intro z; exact absurd (show b ∈ ([]:List Addr) from z) (by simp)) (by simp)
    | some u =>
     rcases hO b with z | ⟨ob,xs,z⟩
     ·rw [q] at z; cases z
     ·have z2:=un.frzs b ob _ z
      obtain ⟨e1,_⟩:=hok b _ z
      obtain ⟨e2,_⟩:=hok' b _ z2
      rw [e] at e1; cases e1
      exact e2
 cases hk:K.lookup a with
 | some o =>
  have e:=KX a o hk
  rw [ha] at e
  cases e
  refine core (fun _=>none) (fun _=>.inl rfl) (.inr ⟨_,vs.toArray,_,hk,rfl,rfl,rfl,by rw [List.size_toArray,lenV]; exact hl,by simpa using rv⟩) (fun b u z=>by have z':(none:Option HO) = some u:=z; cases z') (fun b z=>absurd rfl z) fun z=>absurd rfl z
 | none =>
  refine core (fun b=>if b = a then some (.frz { cls:=.type "list",data:=.seq vs.toArray } (.lst (ns.map V.int))) else none) (fun b=>?_) (.inl (.inr ⟨{ cls:=.type "list",data:=.seq vs.toArray },if_pos rfl⟩)) (fun b u z=>?_) (fun b z=>?_) fun _=>hk
  ·by_cases hb:b = a
   ·exact .inr ⟨_,_,if_pos hb⟩
   ·exact .inl (if_neg hb)
  ·by_cases hb:b = a
   ·have z':=(if_pos hb).symm.trans z
    cases z'
    subst hb
    exact ⟨ha,by rw [List.length_map]; exact hl,vs,_,rv,ha⟩
   ·have z':=(if_neg hb).symm.trans z
    cases z'
  ·by_cases hb:b = a
   ·exact hb
   ·exact absurd (if_neg hb) z
end L2
namespace L2
open PySem PySem.Spec PyProof.Rows
theorem a54 {l:PySem.W.OpenLaw} {n k:Nat} {q:Program} {loose:List Str} {XP:(Str → Option Value) → Heap → Prop} {YP:World → Heap → Prop} {d:DefRec} {K:Params → PySem.W.Frag} {CX:World → CXT} {sp:World → Sp} {x:Str}
  (hn:l.most = some n) (hn2:n ≤ sizeLine) (hdf:d.params.defaults = []) (hr:Room k callerA)
  (hY:∀ (w:World) (h:Heap),YP w h → (K w.params).In h)
  (F:∀ (w:World) (mg:Str → Option Value) (fa:Addr) (h:Heap),(K w.params).In h → h.Ns mainGlobals mg → mg d.name = some (.ref fa) →
   ∃ fd:FuncData,(∀ (s:Shared) (u:Value),BindsTo s fd ⟨[u],[]⟩ [(x,u)]) ∧
    ∀ base:Heap,(K w.params).In base → base.Ns mainGlobals mg → FnOk l.prog w (K w.params) mg base (CX w) k fa fd [x] (sp w))
  (hsp:∀ (w:World) (H:Hp) (a:Addr) (ns:List Int),ns.length ≤ n → bb5 H → SqL (K w.params) H a (ns.map V.int) → sp w [.ref a] H (fun v _=>v = .bl true) fun _ _ _=>False)
  (hCX:∀ (w:World) (H:Hp) (s:Shared) (e:Value) (s':Shared),CX w [] H s (fun _ _ _=>False) e s' → False) :
  PySem.W.WalkO q loose XP YP l.row.toRowW d [] (fun f vs=>PySem.call f vs):=by
 refine Att.attach_call hn hdf fun w s₀ s₁ mg mb fa o pm cd doc a vs ns G Y ho hd hcd hmg hobj hints hlen hg=>?_
 have KX:=hY w _ Y
 obtain ⟨fd,hb,hF⟩:=F w mg fa _ KX G.T.g hmg
 exact aW3 KX G.T.g G.T.b G.T.builtins G.T.nolimit hg hobj hints (Nat.le_trans hlen hn2) hr hF hb (fun H hO hS=>hsp w H a ns hlen hO hS) fun H e s'=>hCX w H s₁ e s'
end L2
namespace L2
open PySem PySem.Spec PyProof.Rows
def u7 (s:Stmt) (j:Nat):Stmt:=match s with
 | .ClassDef _ _ _ body _ _ _ _ _ _ _=>body.getD j (.Pass ⟨0,0,0,0⟩)
 | _=>.Pass ⟨0,0,0,0⟩
def m5 (s:Stmt):Arguments:=match s with
 | .FunctionDef _ a _ _ _ _ _ _ _ _=>a
 | _=>{ posonlyargs:=[],args:=[],vararg:=none,kwonlyargs:=[],kw_defaults:=[],kwarg:=none,defaults:=[] }
def j9 (s:Stmt):List Stmt:=match s with
 | .FunctionDef _ _ b _ _ _ _ _ _ _=>b
 | _=>[]
def i7 (s:Stmt):Scope:=match s with
 | .FunctionDef _ _ _ _ _ _ sc _ _ _=>sc
 | _=>{ kind:=.function,names:=[],isGenerator:=false,isCoroutine:=false }
abbrev CX0:CXT:=fun _ _ _ _ _ _=>False
abbrev E0:XK:=fun _ _ _=>False
theorem aK1 {X:Cx}:ac4 CX0 X E0:=fun _ _ _ _ _ _ _ h=>h.elim
structure Fun (K:PySem.W.Frag) (x qual:Str) (st:Stmt) (f:Addr) (fd:FuncData):Prop where
 ex:∃ (oc:Value) (od:Option Addr) (kV doc pm:Value) (an:Option Addr) (cdv ct:Value) (osl:Array (Option Value)),
  fd = PySem.W.fnOf x qual (m5 st) (j9 st) (i7 st) .none kV doc pm an cdv ct ∧ K.lookup f = some ⟨oc,od,.func fd,osl⟩ ∧ PySem.W.codeIn K cdv qual = true
 kp:PySem.W.keepIn K (.ref f) = true
section
variable {P:Program} {w:World} {K:PySem.W.Frag} {mg:Str → Option Value} {base:Heap}
theorem Fun.ok {x qual:Str} {st:Stmt} {f:Addr} {fd:FuncData} {N ps:List Str} {k:Nat} {sp:Sp} (F:Fun K x qual st f fd) (S:FnScope N ps (i7 st)) (len:∀ vs H Q E,sp vs H Q E → vs.length = ps.length)
  (hbody:∀ (cdv:Value) (A:Around) (outer:List Env) (s:Shared) (H:Hp) (vs:List V) (Q:VK) (E:XK),Room k (A.deeper (envOfC qual (i7 st) s.heap.objs.size f cdv)) → sp vs H Q E →
   ∃ t,PSs (N4 CX0 P w K mg base N qual (i7 st) f cdv A outer s H E).nox (j9 st) t ∧ t { nx:=fun _ H'=>Q .non H',rt:=Q } (start N vs) H):FnOk P w K mg base CX0 (k + 1) f fd ps sp:=by
 obtain ⟨oc,od,kV,doc,pm,an,cdv,ct,osl,rfl,lk,hcd⟩:=F.ex
 refine av3 lk hcd S len fun A outer s H vs Q E hr hsp=>?_
 obtain ⟨t,h,q⟩:=hbody cdv A outer s H vs Q E hr hsp
 exact ⟨t,h.nox,q⟩
theorem aS5 {x qual:Str} {st:Stmt} {f:Addr} {oc:Value} {od an:Option Addr} {osl:Array (Option Value)} {kV doc pm cdv ct:Value} (l:K.lookup f = some ⟨oc,od,.func (PySem.W.fnOf x qual (m5 st) (j9 st) (i7 st) .none kV doc pm an cdv ct),osl⟩)
  (c:PySem.W.codeIn K cdv qual = true) (k:PySem.W.keepIn K (.ref f) = true):Fun K x qual st f (PySem.W.fnOf x qual (m5 st) (j9 st) (i7 st) .none kV doc pm an cdv ct):=⟨⟨oc,od,kV,doc,pm,an,cdv,ct,osl,rfl,l,c⟩,k⟩
end
theorem a67 {A:Around} {k:Nat} (hr:Room k A):A.units + 1 < cLine:=Nat.lt_of_le_of_lt (Nat.add_le_add_left (by decide:1 ≤ 64) _) hr.units
theorem n5 {n:Nat} (h:n ≤ 1000):n < sizeLine:=Nat.lt_of_le_of_lt h (by decide)
section
variable {X:Cx}
theorem pv (i:Nat) {x:Str} {pos:Pos} (hN:X.N[i]? = some x:=by rfl) (hv:Vis X.env.scope x:=by first | exact Or.inl rfl | exact Or.inr (Or.inl rfl) | exact Or.inr (Or.inr rfl)) (hd:(x == ("__debug__":Str)) = false:=by decide)
  (hcd:(x == ("__classdict__":Str)) = false:=by decide):PE X (.Name x pos) (be7 i):=a94 hN hv hd hcd
end
theorem z6 {A B:Prop} (h:B):if false = true then A else B:=by
 rw [if_neg Bool.false_ne_true]
 exact h
theorem C3 {A B:Prop} (h:A):if true = true then A else B:=by
 rw [if_pos rfl]
 exact h
theorem A7 {c A B:Prop} [Decidable c] (h1:c → A) (h2:¬ c → B):if c then A else B:=by
 by_cases h:c
 ·rw [if_pos h]
  exact h1 h
 ·rw [if_neg h]
  exact h2 h
def j5 (H H':Hp):Prop:=∀ b o,H b = some o → H' b = some o
theorem j5.refl (H:Hp):j5 H H:=fun _ _ h=>h
theorem j5.trans {H H1 H2:Hp} (a:j5 H H1) (b:j5 H1 H2):j5 H H2:=fun c o h=>b c o (a c o h)
theorem j5.free {H H':Hp} (e:j5 H H') {l:Addr} (h:H' l = Option.none):H l = Option.none:=by
 cases q:H l with
 | none=>rfl
 | some o =>
  rw [e l o q] at h
  cases h
theorem j5.seq {K:PySem.W.Frag} {H H':Hp} {a:Addr} {xs:List V} (e:j5 H H') (h:SqL K H a xs):SqL K H' a xs:=by
 rcases h with (h | ⟨o,h⟩) | h
 ·exact .inl (.inl (e _ _ h))
 ·exact .inl (.inr ⟨o,e _ _ h⟩)
 ·exact .inr h
end L2
namespace L2
open PySem PySem.Spec PyProof.Rows
section
variable {κ:Type} [DecidableEq κ]
def E9 (kvs:List (κ × V)) (k:κ):Option V:=(kvs.find? fun kv=>decide (kv.1 = k)).map (·.2)
def ac6 (kvs:List (κ × V)) (k:κ) (v:V):List (κ × V) :=
 if (kvs.any fun kv=>decide (kv.1 = k)) = true then kvs.map (fun kv=>if kv.1 = k then (kv.1,v) else kv) else kvs ++ [(k,v)]
theorem E3 {p:κ × V} {r:List (κ × V)} {k:κ} (e:p.1 = k):E9 (p :: r) k = some p.2:=by simp [E9,List.find?_cons,e]
theorem D4 {p:κ × V} {r:List (κ × V)} {k:κ} (e:¬ p.1 = k):E9 (p :: r) k = E9 r k:=by simp [E9,List.find?_cons,e]
theorem aa0 (k:κ):∀ kvs:List (κ × V),(kvs.any fun kv=>decide (kv.1 = k)) = (E9 kvs k).isSome
 | []=>rfl
 | p :: r=>by
  rw [List.any_cons]
  by_cases e:p.1 = k
  ·simp only [E3 e,decide_eq_true e,Bool.true_or,Option.isSome_some]
  ·rw [D4 e,decide_eq_false e,Bool.false_or]; exact aa0 k r
theorem az5 (k j:κ) (y:V):∀ kvs:List (κ × V),E9 (kvs.map fun kv=>if kv.1 = k then (kv.1,y) else kv) j = (E9 kvs j).map fun x=>if j = k then y else x
 | []=>rfl
 | p :: r=>by
  have ih:=az5 k j y r
  rw [List.map_cons]
  by_cases h:p.1 = k
  ·rw [if_pos h]
   by_cases e:p.1 = j
   ·rw [E3 (p:=(p.1,y)) e,E3 e,Option.map_some,if_pos (e.symm.trans h)]
   ·rw [D4 (p:=(p.1,y)) e,D4 e,ih]
  ·rw [if_neg h]
   by_cases e:p.1 = j
   ·rw [E3 (p:=p) e,E3 e,Option.map_some,if_neg (fun z=>h (e.trans z))]
   ·rw [D4 (p:=p) e,D4 e,ih]
theorem ao4 (k j:κ) (y:V):∀ kvs:List (κ × V),E9 kvs k = none → E9 (kvs ++ [(k,y)]) j = if j = k then some y else E9 kvs j
 | [],_=>by
  by_cases e:k = j
  ·rw [if_pos e.symm]; exact E3 (p:=(k,y)) e
  ·rw [if_neg (fun z=>e z.symm)]; exact D4 (p:=(k,y)) e
 | p :: r,hn=>by
  rw [List.cons_append]
  have hk:¬ p.1 = k:=fun z=>by rw [E3 z] at hn; cases hn
  rw [D4 hk] at hn
  have ih:=ao4 k j y r hn
  by_cases e:p.1 = j
  ·rw [E3 e,E3 e,if_neg (fun z=>hk (e.trans z))]
  ·rw [D4 e,D4 e,ih]
theorem aQ6 (kvs:List (κ × V)) (k j:κ) (y:V):E9 (ac6 kvs k y) j = if j = k then some y else E9 kvs j:=by
 unfold ac6
 by_cases a:(kvs.any fun kv=>decide (kv.1 = k)) = true
 ·rw [if_pos a,az5]
  rw [aa0] at a
  by_cases e:j = k
  ·obtain ⟨x,hx⟩:=Option.isSome_iff_exists.mp a
   rw [if_pos e,e,hx,Option.map_some,if_pos rfl]
  ·rw [if_neg e]
   cases E9 kvs j with
   | none=>rfl
   | some x=>rw [Option.map_some,if_neg e]
 ·rw [if_neg a]
  refine ao4 k j y kvs ?_
  rw [aa0] at a
  cases q:E9 kvs k with
  | none=>rfl
  | some x=>rw [q] at a; exact (a rfl).elim
theorem T7 (kvs:List (κ × V)) (k:κ) (v:V):(ac6 kvs k v).length ≤ kvs.length + 1:=by
 unfold ac6
 split
 ·rw [List.length_map]; lia
 ·rw [List.length_append,List.length_cons,List.length_nil]; lia
theorem U4.isSome_eq {o:Option V} {u:Option Value} (r:U4 o u):o.isSome = u.isSome:=by
 cases o with
 | none=>cases u with
  | none=>rfl
  | some _=>exact (show False from r).elim
 | some _=>cases u with
  | none=>exact (show False from r).elim
  | some _=>rfl
theorem KV.val {kvs:List (κ × V)} {vs:List (κ × Value)} (r:KV kvs vs) (k:κ):U4 (E9 kvs k) (valueAt vs k):=by
 unfold KV at r
 induction r with
 | nil=>exact True.intro
 | @cons p q ps qs h t ih =>
  obtain ⟨h1,h2⟩:=h
  by_cases e:p.1 = k
  ·have e':q.1 = k:=h1.symm.trans e
   have b:valueAt (q :: qs) k = some q.2:=by simp [valueAt,List.find?_cons,e']
   rw [E3 e,b]; exact h2
  ·have e':¬ q.1 = k:=fun z=>e (h1.trans z)
   have b:valueAt (q :: qs) k = valueAt qs k:=by simp [valueAt,List.find?_cons,e']
   rw [D4 e,b]; exact ih
theorem KV.any {kvs:List (κ × V)} {vs:List (κ × Value)} (r:KV kvs vs) (k:κ):(kvs.any fun kv=>decide (kv.1 = k)) = vs.any fun kv=>decide (kv.1 = k):=by
 unfold KV at r
 induction r with
 | nil=>rfl
 | cons h t ih=>rw [List.any_cons,List.any_cons,ih,h.1]
theorem KV.repl {kvs:List (κ × V)} {vs:List (κ × Value)} (r:KV kvs vs) (k:κ) {y:V} {u:Value} (ry:x8 y u) :
  KV (kvs.map fun kv=>if kv.1 = k then (kv.1,y) else kv) (vs.map fun kv=>if kv.1 = k then (kv.1,u) else kv):=by
 unfold KV at r ⊢
 induction r with
 | nil=>exact .nil
 | @cons p q ps qs h t ih =>
  rw [List.map_cons,List.map_cons]
  refine .cons ?_ ih
  obtain ⟨h1,h2⟩:=h
  by_cases e:p.1 = k
  ·rw [if_pos e,if_pos (h1.symm.trans e)]; exact ⟨h1,ry⟩
  ·rw [if_neg e,if_neg (fun z=>e (h1.trans z))]; exact ⟨h1,h2⟩
theorem KV.put {kvs:List (κ × V)} {vs:List (κ × Value)} (r:KV kvs vs) (k:κ) {y:V} {u:Value} (ry:x8 y u):KV (ac6 kvs k y) (stored vs k u):=by
 unfold ac6 stored
 rw [r.any k]
 by_cases e:(vs.any fun kv=>decide (kv.1 = k)) = true
 ·rw [if_pos e,if_pos e]; exact r.repl k ry
 ·rw [if_neg e,if_neg e]; exact Paired.snoc r ⟨rfl,ry⟩
theorem KV.length {kvs:List (κ × V)} {vs:List (κ × Value)} (r:KV kvs vs):kvs.length = vs.length:=Paired.length r
end
theorem aV2 {P:Program} {w:World} {k:Key} {u:Value} (r:x8 (kV k) u):(D3 P w).is k u = true:=by
 cases k with
 | inl i=>obtain ⟨t,e⟩:=(show ∃ t,u = Value.int i t from r); subst e; exact aw6 P w i t
 | inr x=>obtain ⟨t,e⟩:=(show ∃ t,u = Value.str x t from r); subst e; exact aB8 P w x t
theorem a_4 {a b:Key} (e:kV a = kV b):a = b:=by
 cases a with
 | inl i=>cases b with
  | inl j=>have e':V.int i = V.int j:=e; injection e' with e'; rw [e']
  | inr y=>exact nomatch (show V.int i = V.str y from e)
 | inr x=>cases b with
  | inl j=>exact nomatch (show V.str x = V.int j from e)
  | inr y=>have e':V.str x = V.str y:=e; injection e' with e'; rw [e']
theorem ao5 {P:Program} {w:World}:∀ {ks:List Key} {us:List Value},u0 (ks.map kV) us → ItemsAre (D3 P w) ks us
 | [],_,r=>by rw [List.map_nil] at r; cases r; exact .nil
 | k :: ks,_,r=>by
  rw [List.map_cons] at r
  cases r with
  | cons h t=>exact .cons (aV2 h) (ao5 t)
abbrev KT (H:Hp):List (List Key × V) → List (List Key × Addr × Value) → Prop:=Paired fun p q=>p.1 = q.1 ∧ H q.2.1 = some (.tup (p.1.map kV)) ∧ x8 p.2 q.2.2
theorem KT.val {H:Hp} {kvs:List (List Key × V)} {xs:List (List Key × Addr × Value)} (r:KT H kvs xs) (k:List Key):U4 (E9 kvs k) ((atKey xs k).map (·.2)):=by
 induction r with
 | nil=>exact True.intro
 | @cons p q ps qs h t ih =>
  obtain ⟨h1,_,h2⟩:=h
  by_cases e:p.1 = k
  ·have e':q.1 = k:=h1.symm.trans e
   have b:atKey (q :: qs) k = some q.2:=by simp [atKey,List.find?_cons,e']
   rw [E3 e,b]; exact h2
  ·have e':¬ q.1 = k:=fun z=>e (h1.trans z)
   have b:atKey (q :: qs) k = atKey qs k:=by simp [atKey,List.find?_cons,e']
   rw [D4 e,b]; exact ih
theorem KT.repl {H:Hp} {kvs:List (List Key × V)} {xs:List (List Key × Addr × Value)} (r:KT H kvs xs) (k:List Key) {y:V} {u:Value} (ry:x8 y u) :
  KT H (kvs.map fun kv=>if kv.1 = k then (kv.1,y) else kv) (xs.map (putAt k u)):=by
 induction r with
 | nil=>exact .nil
 | @cons p q ps qs h t ih =>
  rw [List.map_cons,List.map_cons]
  refine .cons ?_ ih
  obtain ⟨h1,h2,h3⟩:=h
  unfold putAt
  by_cases e:p.1 = k
  ·rw [if_pos e,if_pos (h1.symm.trans e)]; exact ⟨h1,h2,ry⟩
  ·rw [if_neg e,if_neg (fun z=>e (h1.trans z))]; exact ⟨h1,h2,h3⟩
theorem KT.put {H:Hp} {kvs:List (List Key × V)} {xs:List (List Key × Addr × Value)} (r:KT H kvs xs) (k:List Key) {b:Addr} {y:V} {u:Value} (hb:H b = some (.tup (k.map kV))) (ry:x8 y u) :
  KT H (ac6 kvs k y) (storedH xs k b u):=by
 have e:(kvs.any fun kv=>decide (kv.1 = k)) = (atKey xs k).isSome:=by
  rw [aa0,(r.val k).isSome_eq,Option.isSome_map]
 unfold ac6 storedH
 rw [e]
 by_cases q:(atKey xs k).isSome = true
 ·rw [if_pos q,if_pos q]; exact r.repl k ry
 ·rw [if_neg q,if_neg q]; exact Paired.snoc r ⟨rfl,hb,ry⟩
theorem KT.keeps {H H':Hp} {kvs:List (List Key × V)} {xs:List (List Key × Addr × Value)} (r:KT H kvs xs) (ht:∀ b ys,H b = some (.tup ys) → H' b = some (.tup ys)):KT H' kvs xs :=
 Paired.mapP r fun _ _ z=>⟨z.1,ht _ _ z.2.1,z.2.2⟩
section
variable {P:Program} {w:World} {H:Hp} {h:Heap} {a:Addr}
theorem a60 {u:HO} (ok:HOk P w H h) (e:Rd H a u):w6 P w H h a u:=e.ok ok
theorem a75 {kvs:List (Key × V)} (ok:HOk P w H h) (e:Rd H a (.dK kvs)):kvs.length ≤ sizeLine ∧ (a == sysModules) = false ∧ ∃ vs,KV kvs vs ∧ h.DictOf (D3 P w) a vs :=
 show w6 P w H h a (.dK kvs) from a60 ok e
theorem bd4 {kvs:List (Key × V)} (ok:HOk P w H h) (e:H a = some (.dK kvs)):kvs.length ≤ sizeLine ∧ (a == sysModules) = false ∧ ∃ vs,KV kvs vs ∧ h.DictOf (D3 P w) a vs:=a75 ok (.inl e)
theorem aE6 {ks:List Key} (ok:HOk P w H h) (e:H a = some (.tup (ks.map kV))):(tupleKind (D3 P w)).is h ks a:=by
 obtain ⟨_,its,r,o,h1,h2,n,h3⟩:=(show w6 P w H h a (.tup (ks.map kV)) from ok a _ e)
 exact ⟨o,its.toArray,n,h1,h2,h3,by simpa using ao5 r⟩
theorem a69 {kvs:List (List Key × V)} (ok:HOk P w H h) (e:Rd H a (.dT kvs)):kvs.length ≤ sizeLine ∧ (a == sysModules) = false ∧
  ∃ xs,KT H kvs xs ∧ h.DictOfH (tupleKind (D3 P w)) a xs:=by
 obtain ⟨z,y,xs,r,o,es,ep,h1,h2,h3,h4,h5⟩:=(show w6 P w H h a (.dT kvs) from a60 ok e)
 refine ⟨z,y,xs,r,o,es,ep,h1,h2,h3,h4,fun x hx=>?_,h5⟩
 have all:∀ {l:List (List Key × V)} {m:List (List Key × Addr × Value)},KT H l m → ∀ x ∈ m,(tupleKind (D3 P w)).is h x.1 x.2.1:=by
  intro l m q
  induction q with
  | nil=>intro x hx; exact nomatch hx
  | @cons p q ps qs hq t ih =>
   intro x hx
   rcases List.mem_cons.mp hx with e | hx
   ·subst e
    exact aE6 ok (by rw [← hq.1]; exact hq.2.1)
   ·exact ih x hx
 exact all r x hx
theorem be9 {kvs:List (List Key × V)} (ok:HOk P w H h) (e:H a = some (.dT kvs)):kvs.length ≤ sizeLine ∧ (a == sysModules) = false ∧
  ∃ xs,KT H kvs xs ∧ h.DictOfH (tupleKind (D3 P w)) a xs:=a69 ok (.inl e)
end
def aS2 (H:Hp) (a:Addr) (y:V) (r:Option V):Prop :=
 (∃ kvs k,Rd H a (.dK kvs) ∧ y = kV k ∧ r = E9 kvs k) ∨ ∃ kvs k b,Rd H a (.dT kvs) ∧ y = .ref b ∧ H b = some (.tup (k.map kV)) ∧ r = E9 kvs k
def aT4 (H:Hp) (a:Addr) (y v:V) (H':Hp):Prop :=
 (∃ kvs k,H a = some (.dK kvs) ∧ y = kV k ∧ kvs.length < sizeLine ∧ H' = upd H a (.dK (ac6 kvs k v))) ∨
 ∃ kvs k b,H a = some (.dT kvs) ∧ y = .ref b ∧ H b = some (.tup (k.map kV)) ∧ kvs.length < sizeLine ∧ H' = upd H a (.dT (ac6 kvs k v))
theorem aS2.t {H:Hp} {a b:Addr} {kvs:List (List Key × V)} {k:List Key} (e:H a = some (.dT kvs)) (eb:H b = some (.tup (k.map kV))):aS2 H a (.ref b) (E9 kvs k):=.inr ⟨kvs,k,b,.inl e,rfl,eb,rfl⟩
theorem aT4.t {H:Hp} {a b:Addr} {kvs:List (List Key × V)} {k:List Key} {v:V} (e:H a = some (.dT kvs)) (eb:H b = some (.tup (k.map kV))) (hl:kvs.length < sizeLine) :
  aT4 H a (.ref b) v (upd H a (.dT (ac6 kvs k v))):=.inr ⟨kvs,k,b,e,rfl,eb,hl,rfl⟩
section
variable {X:Cx} {pins:List (Addr × Obj)} {σ:St} {H:Hp} {s:Shared} {a:Addr} {y v:V} {u r:Value} {o:Option V} {A:Around} {E:Value → Shared → Prop}
theorem Inv.big (I:Inv X pins σ H s):sysModules < s.heap.objs.size:=by
 have h:mainGlobals < s.heap.objs.size:=(I.mod.glob.keeps I.bk).lt
 exact Nat.lt_trans (by decide) h
theorem bf9 {Q:Value → Shared → Prop} (hu:A.units + 1 < cLine) (I:Inv X pins σ H s) (g:aS2 H a y o) (ry:x8 y u) (h:∀ s',Inv X pins σ H s' → Q (.bool o.isSome) s') :
  wpAny (model X.prog X.w) A (compareOp .In u (.ref a)) Q E s:=by
 rcases g with ⟨kvs,k,e,ey,l⟩ | ⟨kvs,k,b,e,ey,eb,l⟩
 ·subst ey
  obtain ⟨z,hd,vs,rel,dd⟩:=a75 I.hok e
  refine wpAny_in_of (aV2 ry) hd dd.mapOf ?_
  rw [← (rel.val k).isSome_eq,← l]
  exact h _ (I.tok _)
 ·subst ey
  cases (show u = Value.ref b from ry)
  obtain ⟨z,hd,xs,rel,dd⟩:=a69 I.hok e
  refine wpAny_in_heap (tupleKind_room_in1 hu) (aE6 I.hok eb) hd dd ?_
  have q:=(rel.val k).isSome_eq
  rw [Option.isSome_map] at q
  rw [← q,← l]
  exact h _ (I.tok _)
theorem aI7 {h':Heap} {t':Nat} {ob:HO} (I:Inv X pins σ H s) (mu:Mut (H a)) (hs:Heap.SameBut a s.heap h') (he:∃ q,h'.get? a = some q) (new:w6 X.prog X.w (upd H a ob) h' a ob) :
  Inv X pins σ (upd H a ob) { s with heap:=h',toks:=t' } :=
 I.write (x:=a) (e:=a) mu (.inl rfl) (fun b q hb z=>(hs.2 b hb).trans z) he new
theorem bb0 {P:Program} {w:World} {H':Hp} {h':Heap} {kvs:List (Key × V)} {vs:List (Key × Value)} (z:kvs.length ≤ sizeLine) (hd:(a == sysModules) = false) (rel:KV kvs vs) (dd:h'.DictOf (D3 P w) a vs) :
  w6 P w H' h' a (.dK kvs):=⟨z,hd,vs,rel,dd⟩
theorem aN8 {H':Hp} {Q:Unit → Shared → Prop} (hu:A.units + 1 < cLine) (I:Inv X pins σ H s) (g:aT4 H a y v H') (ry:x8 y u) (rv:x8 v r) (h:∀ s',Inv X pins σ H' s' → Q () s') :
  wpAny (model X.prog X.w) A (setItem (.ref a) u r) Q E s:=by
 rcases g with ⟨kvs,k,e,ey,l,eH⟩ | ⟨kvs,k,b,e,ey,eb,l,eH⟩
 ·subst ey eH
  obtain ⟨z,hd,vs,rel,dd⟩:=bd4 I.hok e
  have hz:vs.length ≤ sizeLine:=by rw [← rel.length]; exact z
  have hl:(ac6 kvs k v).length ≤ sizeLine:=by have:=T7 kvs k v; lia
  refine wpAny_setItem_pairs (hsz:=hz) (aV2 ry) dd fun h' dd' hs=>h _ ?_
  have he:∃ q,h'.get? a = some q:=let ⟨q,_,_,hq,_⟩:=dd'; ⟨q,hq⟩
  exact aI7 I (by rw [e]; exact True.intro) hs he (bb0 hl hd (rel.put k rv) dd')
 ·subst ey eH
  cases (show u = Value.ref b from ry)
  obtain ⟨z,hd,xs,rel,dd⟩:=be9 I.hok e
  have hz:xs.length ≤ sizeLine:=by rw [← Paired.length rel]; exact z
  have hl:(ac6 kvs k v).length ≤ sizeLine:=by have:=T7 kvs k v; lia
  refine wpAny_setItem_heap (hsz:=hz) (tupleKind_room_in1 hu) (aE6 I.hok eb) dd fun h' dd' hs=>h _ ?_
  obtain ⟨q,es,ep,hq,h2,h3,h4,_,h5⟩:=dd'
  refine aI7 I (by rw [e]; exact True.intro) hs ⟨q,hq⟩ ⟨hl,hd,_,(rel.put k eb rv).keeps fun c ys ec=>?_,q,es,ep,hq,h2,h3,h4,h5⟩
  rw [j4 (bd5 ec e (fun z=>nomatch z))]
  exact ec
end
def bf6 (ty td:TE):TE:=fun σ H Q=>ty σ H fun y H1=>td σ H1 fun x H2=>∃ a o,x = .ref a ∧ aS2 H2 a y o ∧ Q (.bl o.isSome) H2
def bd1 (td ty tv:TE):TS:=fun D σ H=>tv σ H fun v H1=>td σ H1 fun x H2=>ty σ H2 fun y H3=>∃ a H4,x = .ref a ∧ aT4 H3 a y v H4 ∧ D.nx σ H4
section
variable {X:Cx} {o i e value:Expr} {pos pos' tpos:Pos} {td ty tv:TE}
theorem a_0 (hu:X.A.units + 1 < cLine) (hi:PE X i ty) (ho:PE X o td):PC X .In i o (bf6 ty td):=by
 intro pins s σ H Q I h
 refine thn (hi pins s σ H _ I h) fun iv s1 ⟨y,H1,I1,ry,q1⟩=>thn (ho pins s1 σ H1 _ I1 q1) fun u s2 ⟨x,H2,I2,rx,a,ov,ex,g,q2⟩=>?_
 subst ex
 obtain rfl:u = Value.ref a:=rx
 exact bf9 hu I2 g ry fun s3 I3=>⟨.bl ov.isSome,H2,I3,rfl,q2⟩
theorem aY9 (hu:X.A.units + 1 < cLine) (ho:PE X o td) (hi:PE X i ty) (hv:PE X value tv) (hs:swapsWith value (some (.Subscript o i pos')) pos.line X.env = pure false) :
  PS X (.Assign [.Subscript o i pos'] value pos) (bd1 td ty tv):=by
 intro pins s σ H D I h
 refine wpAny_Assign_Subscript (thn (hv pins s σ H _ I h) fun r s1 ⟨v,H1,I1,rv,q1⟩=>thn (ho pins s1 σ H1 _ I1 q1) fun u s2 ⟨x,H2,I2,rx,q2⟩=>thn (hi pins s2 σ H2 _ I2 q2) fun iv s3 ⟨y,H3,I3,ry,a,H4,ex,g,q3⟩=>?_) hs
 subst ex
 obtain rfl:u = Value.ref a:=rx
 exact aN8 hu I3 g ry rv fun s4 I4=>⟨σ,H4,I4,q3⟩
end
theorem aT5 {P:Program} {w:World} {H:Hp} (h:Heap) (hb:sysModules < h.objs.size):w6 P w H (h.push { cls:=.type "dict",data:=.dict #[] }) h.objs.size (.dT []) :=
 ⟨Nat.zero_le _,beq_eq_false_iff_ne.mpr (Ne.symm (Nat.ne_of_lt hb)),[],.nil,_,#[],0,Heap.get?_push_size _ rfl,⟨rfl,rfl,rfl⟩,rfl,rfl,List.nodup_nil⟩
def a76:TE:=fun _ H Q=>∀ p,H p = none → Q (.ref p) (upd H p (.dT []))
section
variable {X:Cx} {pos:Pos}
theorem aQ1:PE X (.Dict [] [] pos) a76:=fun pins s σ H Q I h =>
 wpAny_Dict_empty ⟨.ref s.heap.objs.size,_,I.laid (a:=s.heap.objs.size) (o:=.dT []) (t':=s.toks) (fun _ _ q=>Heap.get?_push_of_some _ q) (Nat.le_refl _) (aT5 s.heap I.big),rfl,h _ (I.hok.fresh (Nat.le_refl _))⟩
end
end L2
namespace L2
open PySem PySem.Spec PyProof.Rows
section
variable {κ:Type} [DecidableEq κ]
theorem ap6:∀ {l:List κ} {k:κ},l.Nodup → ¬ k ∈ l → (l ++ [k]).Nodup
 | [],k,_,_=>by simp
 | a :: r,k,h,hk=>by
  obtain ⟨h1,h2⟩:=List.nodup_cons.mp h
  show (a :: (r ++ [k])).Nodup
  refine List.nodup_cons.mpr ⟨fun m=>?_,ap6 h2 fun m=>hk (List.mem_cons.mpr (Or.inr m))⟩
  rcases List.mem_append.mp m with q | q
  ·exact h1 q
  ·exact hk (List.mem_cons.mpr (Or.inl (List.mem_singleton.mp q).symm))
end
end L2
set_option maxHeartbeats 1000000
namespace L2
open PySem PySem.Spec PyProof.Rows
theorem ah5 {scope:Scope} {env:Env} (h:∀ x,(x,NameKind.free) ∈ scope.names → ∃ c,env.cells.lookup x = some c) :
  ∃ cl,closureFor scope env = pure cl ∧ (∀ x c,cl.lookup x = some c → env.cells.lookup x = some c) ∧ ∀ x,(x,NameKind.free) ∈ scope.names → ∃ c,cl.lookup x = some c:=by
 have go:∀ (names:List (Str × NameKind)) (acc:List (Str × Addr)),(∀ x,(x,NameKind.free) ∈ names → ∃ c,env.cells.lookup x = some c) → (∀ x c,acc.lookup x = some c → env.cells.lookup x = some c) →
   ∃ cl,(forIn names acc fun (p:Str × NameKind) (r:List (Str × Addr))=>if p.2 == .free then (do let a ← cellOf env p.1; pure (ForInStep.yield ((p.1,a) :: r))) else pure (ForInStep.yield r):Sem (List (Str × Addr))) = pure cl ∧
    (∀ x c,cl.lookup x = some c → env.cells.lookup x = some c) ∧ (∀ x c,acc.lookup x = some c → ∃ c',cl.lookup x = some c') ∧ ∀ x,(x,NameKind.free) ∈ names → ∃ c,cl.lookup x = some c:=by
  intro names
  induction names with
  | nil=>intro acc _ ha; exact ⟨acc,rfl,ha,fun x c e=>⟨c,e⟩,fun x z=>nomatch z⟩
  | cons p r ih =>
   intro acc hn ha
   obtain ⟨n,k⟩:=p
   rw [List.forIn_cons]
   cases hk:(k == NameKind.free) with
   | false =>
    obtain ⟨cl,h1,h2,h3,h4⟩:=ih acc (fun x z=>hn x (List.mem_cons_of_mem _ z)) ha
    refine ⟨cl,?_,h2,h3,fun x z=>?_⟩
    ·simp only [hk,Bool.false_eq_true,if_false,pure_bind]
     exact h1
    ·rcases List.mem_cons.mp z with e | z
     ·injection e with e1 e2
      rw [← e2] at hk
      exact absurd hk (by decide)
     ·exact h4 x z
   | true =>
    have ek:k = .free:=by simpa using hk
    subst ek
    obtain ⟨c,hc⟩:=hn n List.mem_cons_self
    have hcell:cellOf env n = pure c:=by unfold cellOf; rw [hc]
    obtain ⟨cl,h1,h2,h3,h4⟩:=ih ((n,c) :: acc) (fun x z=>hn x (List.mem_cons_of_mem _ z)) (fun x c' e=>by
     rw [List.lookup_cons] at e
     cases hx:x == n with
     | true =>
      rw [hx] at e
      have e':c = c':=Option.some.inj e
      have ex:x = n:=by simpa using hx
      rw [ex,← e']; exact hc
     | false=>rw [hx] at e; exact ha x c' e)
    refine ⟨cl,?_,h2,fun x c' e=>?_,fun x z=>?_⟩
    ·simp only [beq_self_eq_true,if_true,hcell,pure_bind]
     exact h1
    ·cases hx:x == n with
     | true=>exact h3 x c (by rw [List.lookup_cons,hx])
     | false=>exact h3 x c' (by rw [List.lookup_cons,hx]; exact e)
    ·rcases List.mem_cons.mp z with e | z
     ·injection e with e1 e2
      exact h3 x c (by rw [e1,List.lookup_cons]; simp)
     ·exact h4 x z
 obtain ⟨cl,h1,h2,_,h4⟩:=go scope.names [] h (fun x c e=>nomatch e)
 refine ⟨cl,?_,h2,h4⟩
 rw [← h1]
 unfold closureFor
 simp only [bind_pure]
def B5 (X:Cx) (scope:Scope) (cl:List (Str × Addr)) (C:Addr) (N:List Str) (s:Shared) (H:Hp) (ex:List Addr):Cx where
 prog:=X.prog
 w:=X.w
 K:=X.K
 mg:=X.mg
 base:=X.base
 A:=X.A
 N:=N
 s₀:=s
 H₀:=H
 env:=compEnvC scope cl C X.env
 outer:=X.stack
 stack:=X.stack
 ex:=ex
 calm:=X.calm
 fn:=fun x=>match scope.names.lookup x with | some .cell=>true | _=>false
 pn:=[]
 xe:=fun _ _=>False
theorem K0 {env:Env}:∀ {names:List (Str × NameKind)} {x:Str} {k:NameKind},
  (names.map fun (n,k)=>if (k == NameKind.free && env.scope.kind == .function && env.kindOf n == some .cell) then (n,NameKind.cell) else (n,k)).lookup x = some k →
  ∃ k',names.lookup x = some k' ∧ (k' = k ∨ (k' = .free ∧ k = .cell))
 | [],_,_,h=>by simp at h
 | (n,kk) :: r,x,k,h=>by
  have ih:=@K0 env r x k
  have h':List.lookup x ((if (kk == NameKind.free && env.scope.kind == .function && env.kindOf n == some .cell) = true then (n,NameKind.cell) else (n,kk)) :: r.map fun (n,k)=>if (k == NameKind.free && env.scope.kind == .function && env.kindOf n == some .cell) then (n,NameKind.cell) else (n,k)) = some k:=h
  cases hx:x == n with
  | true =>
   by_cases hc:(kk == NameKind.free && env.scope.kind == .function && env.kindOf n == some .cell) = true
   ·rw [if_pos hc,List.lookup_cons,hx] at h'
    have e:NameKind.cell = k:=Option.some.inj h'
    have hf:kk = .free:=by
     rw [Bool.and_eq_true,Bool.and_eq_true] at hc
     simpa using hc.1.1
    exact ⟨kk,by rw [List.lookup_cons,hx],.inr ⟨hf,e.symm⟩⟩
   ·rw [if_neg hc,List.lookup_cons,hx] at h'
    exact ⟨kk,by rw [List.lookup_cons,hx],.inl (Option.some.inj h')⟩
  | false =>
   have h2:List.lookup x (r.map fun (n,k)=>if (k == NameKind.free && env.scope.kind == .function && env.kindOf n == some .cell) then (n,NameKind.cell) else (n,k)) = some k:=by
    by_cases hc:(kk == NameKind.free && env.scope.kind == .function && env.kindOf n == some .cell) = true
    ·rw [if_pos hc,List.lookup_cons,hx] at h'; exact h'
    ·rw [if_neg hc,List.lookup_cons,hx] at h'; exact h'
   obtain ⟨k',e1,e2⟩:=ih h2
   exact ⟨k',by rw [List.lookup_cons,hx]; exact e1,e2⟩
structure CompScope (N:List Str) (osc scope:Scope) (own:List Str) (fr:List (Nat × Str)):Prop where
 kind:scope.kind = .function
 cells:∀ y ∈ scope.names,y.2 = .cell → scope.names.lookup y.1 = some .cell
 locs:∀ y ∈ scope.names,y.2 = .local → scope.names.lookup y.1 = some .local
 free:∀ y ∈ scope.names,y.2 = .free → osc.names.lookup y.1 = some .cell ∨ osc.names.lookup y.1 = some .free
 slot:∀ p ∈ fr,N[p.1]? = some p.2 ∧ scope.names.lookup p.2 = some .free
theorem HOk.track {P:Program} {w:World} {H:Hp} {h:Heap} {a:Addr} {o:HO} (x:HOk P w H h) (hn:H a = none) (new:w6 P w (upd H a o) h a o):HOk P w (upd H a o) h:=fun b u e=>by
 by_cases hb:b = a
 ·subst hb; rw [i3] at e; cases e; exact new
 ·rw [j4 hb] at e
  exact (x b u e).stay (fun c v _ q=>q) (fun c q=>by rw [j4 (o4 q hn)]; exact q) fun c xs q=>by rw [j4 (o4 q hn)]; exact q
theorem HOk.but {P:Program} {w:World} {H:Hp} {h h':Heap} {a:Addr} (x:HOk P w H h) (hn:H a = none) (k:∀ b o,b ≠ a → h.get? b = some o → h'.get? b = some o):HOk P w H h':=fun b u e =>
 (x b u e).stay (fun c v hc q=>k c v (by
  rintro rfl
  rcases hc with rfl | hc
  ·rw [hn] at e; cases e
  ·rw [hn] at hc; cases hc) q) (fun _ q=>q) fun _ _ q=>q
theorem Un.track {fs ex:List Addr} {H H':Hp} {h h':Heap} {a:Addr} {o:HO} (u:Un fs ex H H' h h') (ha:h.objs.size ≤ a) (hn:H a = none):Un fs ex H (upd H' a o) h h' where
 keep:=u.keep
 slot:=u.slot
 free:=fun b ob q n hx=>by rw [j4 (Nat.ne_of_lt (Nat.lt_of_lt_of_le (Heap.lt_size q) ha))]; exact u.free b ob q n hx
 there:=u.there
 tups:=fun b xs q=>by rw [j4 (o4 q hn)]; exact u.tups b xs q
 frzs:=fun b ob v q=>by rw [j4 (o4 q hn)]; exact u.frzs b ob v q
 tbls:=fun b ps q=>by rw [j4 (o4 q hn)]; exact u.tbls b ps q
theorem Un.but {fs ex:List Addr} {H H':Hp} {h h' h'':Heap} {a:Addr} (u:Un fs ex H H' h h') (ha:h.objs.size ≤ a) (k:∀ b o,b ≠ a → h'.get? b = some o → h''.get? b = some o):Un fs ex H H' h h'' where
 keep:=fun b ob q n hb hx=>k b ob (Nat.ne_of_lt (Nat.lt_of_lt_of_le (Heap.lt_size q) ha)) (u.keep b ob q n hb hx)
 slot:=fun b ob q n hb hx=>let ⟨sl,e⟩:=u.slot b ob q n hb hx; ⟨sl,k b _ (Nat.ne_of_lt (Nat.lt_of_lt_of_le (Heap.lt_size q) ha)) e⟩
 free:=u.free
 there:=fun b ob q hx=>let ⟨o',e⟩:=u.there b ob q hx; ⟨o',k b _ (Nat.ne_of_lt (Nat.lt_of_lt_of_le (Heap.lt_size q) ha)) e⟩
 tups:=u.tups
 frzs:=u.frzs
 tbls:=u.tbls
structure NewCells (scope:Scope) (nw:List (Str × Addr)) (h1:Heap) (C:Addr):Prop where
 ok:∀ n c,(n,c) ∈ nw → h1.IsCell c none ∧ C < c
 apart:nw.Pairwise fun x y=>x.2 ≠ y.2
 has:∀ x,scope.names.lookup x = some .cell → ∃ c,nw.lookup x = some c
 of:∀ x c,nw.lookup x = some c → (x,NameKind.cell) ∈ scope.names
theorem F2:∀ (names:List (Str × NameKind)) (n:Nat) (acc:List (Str × Addr)),cellsFrom n names acc = cellsFrom n names [] ++ acc
 | [],_,_=>rfl
 | (x,k) :: r,n,acc=>by
  unfold cellsFrom
  split
  ·rw [F2 r (n + 1) ((x,n) :: acc),F2 r (n + 1) [(x,n)],List.append_assoc]
   rfl
  ·exact F2 r n acc
theorem S1:∀ (names:List (Str × NameKind)) (n:Nat) (x:Str) (c:Addr),(x,c) ∈ cellsFrom n names [] → (x,NameKind.cell) ∈ names
 | [],_,_,_,h=>nomatch h
 | (y,k) :: r,n,x,c,h=>by
  unfold cellsFrom at h
  split at h
  ·rename_i hk
   rw [F2] at h
   rcases List.mem_append.mp h with h | h
   ·exact List.mem_cons_of_mem _ (S1 r _ x c h)
   ·rw [List.mem_singleton] at h
    cases h
    have:k = .cell:=by simpa using hk
    rw [this]
    exact List.mem_cons_self ..
  ·exact List.mem_cons_of_mem _ (S1 r _ x c h)
theorem F8 {α:Type} {x:Str} {a b:List (Str × α)} {c:α} (h:(a ++ b).lookup x = some c):a.lookup x = some c ∨ (a.lookup x = none ∧ b.lookup x = some c):=by
 induction a with
 | nil=>exact .inr ⟨rfl,h⟩
 | cons p r ih =>
  rw [List.cons_append,List.lookup_cons] at h
  rw [List.lookup_cons]
  cases hx:x == p.1 with
  | true=>rw [hx] at h; exact .inl h
  | false=>rw [hx] at h; exact ih h
theorem R4 {α:Type} {x:Str} {a b:List (Str × α)} {c:α} (h:a.lookup x = some c):(a ++ b).lookup x = some c:=by
 induction a with
 | nil=>cases h
 | cons p r ih =>
  rw [List.lookup_cons] at h
  rw [List.cons_append,List.lookup_cons]
  cases hx:x == p.1 with
  | true=>rw [hx] at h; exact h
  | false=>rw [hx] at h; exact ih h
theorem Z4 {α:Type} {x:Str} {a b:List (Str × α)} {c:α} (h:a.lookup x = none) (h2:b.lookup x = some c):(a ++ b).lookup x = some c:=by
 induction a with
 | nil=>exact h2
 | cons p r ih =>
  rw [List.lookup_cons] at h
  rw [List.cons_append,List.lookup_cons]
  cases hx:x == p.1 with
  | true=>rw [hx] at h; cases h
  | false=>rw [hx] at h; exact ih h
theorem ak8 {M:Model} {A:Around} {E:Value → Shared → Prop} {s:Shared} {scope:Scope} {globals:Addr} {closure:List (Str × Addr)} {qual:Str} {outer:Env} {Q:Env → Shared → Prop}
  (hQ:∀ nw h1,NewCells scope nw h1 s.heap.objs.size → h1.Ns s.heap.objs.size (fun _=>none) → (∀ b o,s.heap.get? b = some o → h1.get? b = some o) →
   Q { scope,locals:=s.heap.objs.size,globals,cells:=nw ++ closure,qual,func:=none,code:=outer.code,frame:=outer.frame,builtins:=outer.builtins } { s with heap:=h1 }) :
  wpAny M A (newFunctionEnv scope globals closure [] qual none .none (some outer)) Q E s:=by
 simp only [newFunctionEnv,Option.isSome_some,if_true]
 refine wpAny_bind (wpAny_alloc ?_)
 refine wpAny_bind (wpAny_layCells _ (fun name kind cells=>by cases hkc:kind == NameKind.cell <;> simp [hkc]) _ _ _ _ ?_)
 have ok:=cellsFrom_ok scope.names (s.heap.push { cls:=.type "dict",data:=.dict #[] }) (s.heap.objs.size + 1) [] ⟨fun _ _ hm=>(nomatch hm),List.Pairwise.nil⟩ (by rw [Heap.size_push]; exact Nat.le_refl _)
 rw [Heap.size_push] at ok
 rw [show ({ s with heap:=s.heap.push { cls:=.type "dict",data:=.dict #[] } }:Shared).heap.objs.size = s.heap.objs.size + 1 from Heap.size_push ..]
 rw [List.forIn_nil]
 refine wpAny_bind (wpAny_pure (wpAny_pure ?_))
 rw [F2]
 exact hQ _ _ ⟨fun n c h=>⟨(ok.empty n c h).1,(ok.empty n c h).2⟩,ok.apart,fun x h=>ai7 h,fun x c h=>S1 _ _ x c (PySem.mem_of_lookup h)⟩
  ((Heap.Ns.new s.heap (.type "dict")).keeps (pushCells_keeps _ _)) fun b o e=>pushCells_keeps _ _ b o (Heap.get?_push_of_some _ e)
def aL6 (X:Cx) (ifs:List Expr) (t:TT):Prop :=
 ∀ (pins:List (Addr × Obj)) (s:Shared) (σ:St) (H:Hp) (Q:Bool → Hp → Prop),Inv X pins σ H s → t σ H Q →
  wpAny (model X.prog X.w) X.A (forIn ifs true fun c r=>if r = true then do let ok ← isTrue c X.env (eval c X.env); pure (ForInStep.yield ok) else pure (ForInStep.yield r)) (TP X pins σ Q) X.xe s
def bf8:TT:=fun _ H Q=>Q true H
theorem N0 {X:Cx}:aL6 X [] bf8:=fun _ _ _ H Q I h=>wpAny_tests_nil ⟨H,I,h⟩
theorem aa6 {X:Cx} {c:Expr} {t:TT} (h:PT X c t):aL6 X [c] t:=fun pins s σ H Q I q=>wpAny_tests_one (h pins s σ H Q I q)
def E1 (own:List Str) (fr:List (Nat × Str)) (σ:St):St:=own.map (fun _=>none) ++ fr.map fun p=>(σ[p.1]?).join
def ag1 (J:It) (g:TG) (tt:TT) (te:TE) (Q:VK) (σ₀:St) (H1:Hp):Prop :=
 ∃ W:Nat → Nat → List V → St → Hp → Prop,(∃ m,W 0 m [] σ₀ H1) ∧ ∀ i m acc σ' H',W i m acc σ' H' →
  (J.stop i H' ∧ acc.length ≤ sizeLine ∧ ∀ p,H' p = none → Q (.ref p) (upd H' p (.lst acc))) ∨
  (J.go i H' ∧ acc.length < sizeLine ∧ ∃ N:List V → St → Hp → Prop,(∀ acc σ' H',N acc σ' H' → ∃ m',m' < m ∧ W (i + 1) m' acc σ' H') ∧ ∀ x H'',J.yld i H' x H'' → g x σ' H'' fun σ2 H2=>tt σ2 H2 fun ok H3=>if ok = true then te σ2 H3 fun y H4=>N (acc ++ [y]) σ2 H4 else N acc σ2 H3)
def a57 (own:List Str) (fr:List (Nat × Str)) (wi:TI) (g:TG) (tt:TT) (te:TE):TE:=fun σ H Q=>wi σ H fun J H1=>ag1 J g tt te Q (E1 own fr σ) H1
section
variable {X:Cx} {tg iter elt:Expr} {ifs:List Expr} {scope:Scope} {own:List Str} {fr:List (Nat × Str)} {pos:Pos}
theorem aP8 {pins:List (Addr × Obj)} {σ:St} {H:Hp} {s:Shared} {cl:List (Str × Addr)} {ex:List Addr} {h1:Heap} {m:Str → Option Value} {C:Addr} {t':Nat} (S:CompScope X.N X.env.scope scope own fr) (I:Inv X pins σ H s)
  (hcl:∀ x c,cl.lookup x = some c → X.env.cells.lookup x = some c) (hcl2:∀ x,(x,NameKind.free) ∈ scope.names → ∃ c,cl.lookup x = some c) (hex:∀ b ∈ ex,as0 X pins H b ∧ b < s.heap.objs.size)
  (hC:s.heap.objs.size ≤ C) (k:∀ b o,s.heap.get? b = some o → h1.get? b = some o) (hn:h1.Ns C m) {nw:List (Str × Addr)} (nc:NewCells scope nw h1 C) :
  Inv (B5 X scope (nw ++ cl) C (own ++ fr.map (·.2)) s H ex) [] (E1 own fr σ) H { s with heap:=h1,toks:=t' }:=by
 have okX:=I.ok
 have isNew:∀ x c,nw.lookup x = some c → C < c:=fun x c e=>(nc.ok x c (PySem.mem_of_lookup e)).2
 have isOld:∀ x c,cl.lookup x = some c → c < C:=fun x c e=>by
  obtain ⟨v,o,ho,_⟩:=I.cell x c (hcl x c e)
  exact Nat.lt_of_lt_of_le (Heap.lt_size ho) hC
 have hinj:∀ x y c,(nw ++ cl).lookup x = some c → (nw ++ cl).lookup y = some c → x = y:=fun x y c e1 e2=>by
  rcases F8 e1 with a | ⟨_,a⟩ <;> rcases F8 e2 with b | ⟨_,b⟩
  ·exact name_of_addr nc.apart (PySem.mem_of_lookup a) (PySem.mem_of_lookup b)
  ·exact absurd (Nat.lt_trans (isNew x c a) (isOld y c b)) (Nat.lt_irrefl _)
  ·exact absurd (Nat.lt_trans (isNew y c b) (isOld x c a)) (Nat.lt_irrefl _)
  ·exact okX.inj x y c (hcl x c a) (hcl y c b)
 have hasF:∀ x,(x,NameKind.free) ∈ scope.names → ∃ c,(nw ++ cl).lookup x = some c:=fun x hx=>by
  obtain ⟨c,e⟩:=hcl2 x hx
  cases z:nw.lookup x with
  | none=>exact ⟨c,Z4 z e⟩
  | some c'=>exact ⟨c',R4 z⟩
 refine ⟨⟨okX.mod,?_,okX.glob,okX.blt,hC,hinj,fun x hx=>?_,fun x c e1 e2=>?_,okX.hd,okX.frames,.inl rfl,fun b hb=>?_,I.bs,Nat.le_trans okX.bsz I.sz,fun b o e hb=>?_,fun b hb hf=>?_,I.stack,I.stkFree⟩,
  rfl,I.bare,Un.kept k,⟨m,hn,fun i x v e1 e2 e3=>?_⟩,fun x c e=>?_,I.hok.fresh hC,fun x c e=>?_,fun p hp=>absurd (show p ∈ ([]:List (Addr × Obj)) from hp) (by simp),I.hok.kept k,?_⟩
 ·exact S.kind
 ·-- a cell's or a free name
  have hx':(relabel scope X.env).names.lookup x = some .cell ∨ (relabel scope X.env).names.lookup x = some .free:=hx
  have hfree:scope.names.lookup x = some .cell ∨ scope.names.lookup x = some .free:=by
   rcases hx' with q | q
   ·obtain ⟨k',e1,e2⟩:=K0 q
    rcases e2 with e2 | ⟨e2,_⟩
    ·exact .inl (by rw [e1,e2])
    ·exact .inr (by rw [e1,e2])
   ·obtain ⟨k',e1,e2⟩:=K0 q
    rcases e2 with e2 | ⟨e2,e3⟩
    ·exact .inr (by rw [e1,e2])
    ·cases e3
  rcases hfree with hfree | hfree
  ·obtain ⟨c,e⟩:=nc.has x hfree
   exact ⟨c,R4 e⟩
  ·exact hasF x (PySem.mem_of_lookup hfree)
 ·-- an own cell is new
  have e1':(match scope.names.lookup x with | some .cell=>true | _=>false) = true:=e1
  have hce:scope.names.lookup x = some .cell:=by
   split at e1'
   ·assumption
   ·cases e1'
  obtain ⟨c',e⟩:=nc.has x hce
  have e2':(nw ++ cl).lookup x = some c:=e2
  rw [R4 e] at e2'
  cases e2'
  exact Nat.le_trans hC (Nat.le_of_lt (isNew x c e))
 ·obtain ⟨⟨f0,f1,f2,f3,f4,f5⟩,f6⟩:=hex b hb
  refine ⟨Nat.ne_of_lt (Nat.lt_of_lt_of_le f6 hC),fun x c e=>?_⟩
  rcases F8 (show (nw ++ cl).lookup x = some c from e) with a | ⟨_,a⟩
  ·exact Nat.ne_of_gt (Nat.lt_trans (Nat.lt_of_lt_of_le f6 hC) (isNew x c a))
  ·exact f4 x c (hcl x c a)
 ·obtain ⟨⟨f0,f1,f2,f3,f4,f5⟩,f6⟩:=hex b hb
  rcases f3 with f3 | f3
  ·exact okX.noex b o e f3
  ·exact absurd (Nat.lt_of_lt_of_le (Heap.lt_size e) (Nat.le_trans okX.bsz f3)) (Nat.lt_irrefl _)
 ·obtain ⟨⟨f0,f1,f2,f3,f4,f5⟩,f6⟩:=hex b hb
  rcases List.mem_cons.mp (I.stkSub b hf) with z | z
  ·exact f1 z
  ·exact f2 z
 ·-- the values of the free names
  have e1':(own ++ fr.map (·.2))[i]? = some x:=e1
  have hi:own.length ≤ i:=by
   by_cases h:i < own.length
   ·unfold E1 at e2
    rw [List.getElem?_append_left (by simpa using h),List.getElem?_map] at e2
    cases q:own[i]? with
    | none=>rw [q] at e2; cases e2
    | some z=>rw [q] at e2; cases e2
   ·lia
  unfold E1 at e2
  rw [List.getElem?_append_right (by simpa using hi),List.getElem?_map,List.length_map] at e2
  rw [List.getElem?_append_right hi,List.getElem?_map] at e1'
  cases q:fr[i - own.length]? with
  | none=>rw [q] at e2; cases e2
  | some p =>
   rw [q] at e2 e1'
   have e1':p.2 = x:=Option.some.inj e1'
   have e2':(σ[p.1]?).join = some v:=Option.some.inj e2
   obtain ⟨hs1,hs2⟩:=S.slot p (List.mem_of_getElem? q)
   rw [e1'] at hs1 hs2
   have e2'':σ[p.1]? = some (some v):=by
    cases z:σ[p.1]? with
    | none=>rw [z] at e2'; cases e2'
    | some y=>rw [z] at e2'; exact congrArg some e2'
   obtain ⟨mX,hnX,hlX⟩:=I.loc
   have hfr:=S.free (x,.free) (PySem.mem_of_lookup hs2) rfl
   have hvis:Vis X.env.scope x:=by
    rcases hfr with z | z
    ·exact .inr (.inl z)
    ·exact .inr (.inr z)
   obtain ⟨u,r,l⟩:=hlX p.1 x v hs1 e2'' hvis
   refine ⟨u,r,?_⟩
   have hkc:X.env.kindOf x = some .cell ∨ X.env.kindOf x = some .free:=hfr
   rcases l with ⟨kx,_⟩ | ⟨kx,c,hc,z⟩
   ·rcases hkc with w | w
    ·rw [w] at kx; cases kx
    ·rw [w] at kx; cases kx
   ·obtain ⟨c',hc'⟩:=hcl2 x (PySem.mem_of_lookup hs2)
    have hcc:=hcl x c' hc'
    rw [hc] at hcc
    cases hcc
    have e3':(relabel scope X.env).names.lookup x = some .local ∨ (relabel scope X.env).names.lookup x = some .cell ∨ (relabel scope X.env).names.lookup x = some .free:=e3
    have hnew:nw.lookup x = none:=by
     cases z:nw.lookup x with
     | none=>rfl
     | some c'' =>
      have:=S.cells _ (nc.of x c'' z) rfl
      rw [hs2] at this
      cases this
    refine .inr ⟨?_,c,Z4 hnew hc',?_⟩
    ·rcases e3' with w | w | w
     ·obtain ⟨k',q1,q2⟩:=K0 w
      rw [hs2] at q1
      cases q1
      rcases q2 with q2 | ⟨_,q2⟩ <;> cases q2
     ·exact .inl w
     ·exact .inr w
    ·obtain ⟨o,ho,hd⟩:=z
     exact ⟨o,k _ _ ho,hd⟩
 ·rcases F8 (show (nw ++ cl).lookup x = some c from e) with a | ⟨_,a⟩
  ·exact ⟨none,(nc.ok x c (PySem.mem_of_lookup a)).1⟩
  ·obtain ⟨v,o,ho,hd⟩:=I.cell x c (hcl x c a)
   exact ⟨v,o,k _ _ ho,hd⟩
 ·rcases F8 (show (nw ++ cl).lookup x = some c from e) with a | ⟨_,a⟩
  ·exact I.hok.fresh (Nat.le_trans hC (Nat.le_of_lt (isNew x c a)))
  ·exact I.freeC x c (hcl x c a)
 ·show (E1 own fr σ).length = (own ++ fr.map (·.2)).length
  unfold E1
  rw [List.length_append,List.length_append,List.length_map,List.length_map,List.length_map]
theorem ai4 {pins:List (Addr × Obj)} {σ:St} {H2:Hp} {s2:Shared} {cl:List (Str × Addr)} {it:Addr} {fp:List Addr} {tn:Nat → Heap → Prop} {J:It} {g:TG} {tt:TT} {te:TE} {Q:VK} {E:Value → Shared → Prop}
  {RR:Value → Addr → Result → Shared → Prop} (hc:X.calm = true) (S:CompScope X.N X.env.scope scope own fr) (I:Inv X pins σ H2 s2) (hcl:∀ x c,cl.lookup x = some c → X.env.cells.lookup x = some c)
  (hcl2:∀ x,(x,NameKind.free) ∈ scope.names → ∃ c,cl.lookup x = some c) (T:Turn X.prog X.w X.K tg J fp it tn) (st:tn 0 s2.heap) (hfp:∀ b ∈ fp,as0 X pins H2 b)
  (hb:∀ (cl:List (Str × Addr)) (C:Addr) (s:Shared) (H:Hp) (ex:List Addr),PG (B5 X scope cl C (own ++ fr.map (·.2)) s H ex) tg g ∧ aL6 (B5 X scope cl C (own ++ fr.map (·.2)) s H ex) ifs tt ∧ PE (B5 X scope cl C (own ++ fr.map (·.2)) s H ex) elt te)
  (hq:ag1 J g tt te Q (E1 own fr σ) H2)
  (fin:∀ (D C:Addr) (s':Shared) (H':Hp),(∃ m,s'.heap.Ns C m) → s2.heap.objs.size ≤ C → C ≠ D → H' C = none → Q (.ref D) H' → (∀ h'',(∀ b o,b ≠ C → s'.heap.get? b = some o → h''.get? b = some o) → Inv X pins σ H' { s' with heap:=h'' }) → RR (.ref D) C (.ok .next) s') :
  wpAny (model X.prog X.w) X.A (newList []) (fun acc s₃=>wpAny (model X.prog X.w) X.A (newFunctionEnv scope X.env.globals cl [] X.env.qual none .none (some X.env)) (fun cenv s₄ =>
   codeAny (model X.prog X.w) X.A (.compStart (.ListComp elt [⟨tg,iter,ifs,0⟩] scope pos) 0 (.ref it) acc { cenv with scope:=relabel scope X.env }) (RR acc cenv.locals) s₄) E s₃) E s2:=by
 obtain ⟨W,⟨m0,w0⟩,turn⟩:=hq
 refine wpAny_newObj_type (ak8 (fun nw h₁ nc hns₁ hsb₁=>?_))
 dsimp only at nc hns₁ hsb₁ ⊢
 generalize hH2:s2.heap.push { cls:=.type "list",dict:=none,data:=.seq ([]:List Value).toArray } = HH at nc hns₁ hsb₁ ⊢
 have hC:HH.objs.size = s2.heap.objs.size + 1:=by rw [← hH2,Heap.size_push]
 have hDC:s2.heap.objs.size ≠ HH.objs.size:=by rw [hC]; exact Nat.ne_of_lt (Nat.lt_succ_self _)
 have hCle:s2.heap.objs.size ≤ HH.objs.size:=by rw [hC]; exact Nat.le_succ _
 have old:∀ b o,s2.heap.get? b = some o → h₁.get? b = some o:=fun b o e =>
  hsb₁ b o (hH2 ▸ Heap.get?_push_of_some _ e)
 have hacc:h₁.get? s2.heap.objs.size = some { cls:=.type "list",data:=.seq ([]:List Value).toArray }:=hsb₁ _ _ (hH2 ▸ Heap.get?_push_size _ rfl)
 have flt:∀ b ∈ fp,b < s2.heap.objs.size:=fun b hb=>by
  obtain ⟨o,e,_⟩:=T.obj _ _ st b hb
  exact Heap.lt_size e
 have hlt:s2.heap.objs.size < HH.objs.size:=by rw [hC]; exact Nat.lt_succ_self _
 obtain ⟨D,hD⟩:∃ D:Nat,D = s2.heap.objs.size:=⟨_,rfl⟩
 obtain ⟨C,hCC⟩:∃ C:Nat,C = HH.objs.size:=⟨_,rfl⟩
 rw [← hD] at hacc ⊢
 rw [← hCC] at nc hns₁ ⊢
 have hDlt:D < C:=by rw [hD,hCC]; exact hlt
 have hDs:s2.heap.objs.size ≤ D:=Nat.le_of_eq hD.symm
 have hCs:s2.heap.objs.size ≤ C:=Nat.le_trans hDs (Nat.le_of_lt hDlt)
 have nDC:D ≠ C:=Nat.ne_of_lt hDlt
 have nfD:∀ b ∈ fp,b ≠ D:=fun b hb=>Nat.ne_of_lt (Nat.lt_of_lt_of_le (flt b hb) hDs)
 have nfC:∀ b ∈ fp,b ≠ C:=fun b hb=>Nat.ne_of_lt (Nat.lt_of_lt_of_le (flt b hb) hCs)
 have I0:Inv (B5 X scope (nw ++ cl) C (own ++ fr.map (·.2)) s2 H2 fp) [] (E1 own fr σ) H2 { s2 with heap:=h₁,toks:=s2.toks } :=
  aP8 S I hcl hcl2 (fun b hb=>⟨hfp b hb,flt b hb⟩) hCs old hns₁ nc
 obtain ⟨pg,pt,pe⟩:=hb (nw ++ cl) C s2 H2 fp
 have Dcell:∀ x c,(nw ++ cl).lookup x = some c → c ≠ D:=fun x c e=>by
  rcases F8 e with a | ⟨_,a⟩
  ·exact Nat.ne_of_gt (Nat.lt_trans hDlt (nc.ok x c (PySem.mem_of_lookup a)).2)
  ·obtain ⟨v,q⟩:=I.cell x c (hcl x c a)
   exact Nat.ne_of_lt (Nat.lt_of_lt_of_le q.lt hDs)
 have Dstk:D ∉ frs X.stack:=fun hf=>by
  rcases List.mem_cons.mp (I.stkSub D hf) with z | z
  ·have h1:=I.lt
   rw [← z] at h1
   exact Nat.lt_irrefl _ (Nat.lt_of_lt_of_le h1 hDs)
  ·exact I.nofs hDs z
 have stat:∀ {H':Hp} {pl:List (Addr × Obj)},(∀ b ∈ fp,H' b = none) → (∀ p ∈ pl,p.1 = D) → ∀ b ∈ fp,as0 (B5 X scope (nw ++ cl) C (own ++ fr.map (·.2)) s2 H2 fp) pl H' b:=fun {H' pl} hn hpl b hb=>by
  obtain ⟨f0,f1,f2,f3,f4,f5⟩:=hfp b hb
  refine ⟨hn b hb,nfC b hb,fun hf=>?_,.inl hb,fun x c e=>(by
   rcases F8 (show (nw ++ cl).lookup x = some c from e) with a | ⟨_,a⟩
   ·exact Nat.ne_of_gt (Nat.lt_trans (Nat.lt_of_lt_of_le (flt b hb) hCs) (nc.ok x c (PySem.mem_of_lookup a)).2)
   ·exact f4 x c (hcl x c a)),fun p hp z=>?_⟩
  ·rcases List.mem_cons.mp (I.stkSub b hf) with z | z
   ·exact f1 z
   ·exact f2 z
  ·have h1:p.1 = D:=hpl p (by simpa [B5] using hp)
   exact nfD b hb (z.symm.trans h1)
 have loop:∀ s₃:Shared,s₃ = { s2 with heap:=h₁,toks:=s2.toks } →
   codeAny (model X.prog X.w) X.A (.compLoop (.ListComp elt [⟨tg,iter,ifs,0⟩] scope pos) 0 (.ref it) (.ref D) (compEnvC scope (nw ++ cl) C X.env)) (RR (.ref D) C) s₃:=by
  rintro s₃ rfl
  refine codeAny_loop rfl (fun n s'=>∃ i σ' H' acc its k,Inv (B5 X scope (nw ++ cl) C (own ++ fr.map (·.2)) s2 H2 fp) [] σ' H' s' ∧ tn i s'.heap ∧ (∀ b ∈ fp,H' b = none) ∧ H' D = none ∧
   s'.heap.get? D = some { cls:=.type "list",data:=.seq its.toArray k } ∧ u0 acc its ∧ W i n acc σ' H') ?_ m0
   ⟨0,_,H2,[],[],0,I0,T.keep _ _ _ st fun b hb o e=>old b o e,fun b hb=>(hfp b hb).1,I.hok.fresh hDs,hacc,.nil,w0⟩
  rintro n s' ⟨i,σ',H',acc,its,k,I1,st1,fr1,nD,gD,rv,w1⟩
  show wpAny _ X.A ((compTurn (.ListComp elt [⟨tg,iter,ifs,0⟩] scope pos) 0 (.ref it) (.ref D) (compEnvC scope (nw ++ cl) C X.env)).onRaise (fun x=>do noteFrame x (compEnvC scope (nw ++ cl) C X.env); theTreesLotGoes x)) _ _ s'
  refine wpAny_noted ?_
  rw [compTurn_list]
  have I1':Inv (B5 X scope (nw ++ cl) C (own ++ fr.map (·.2)) s2 H2 fp) [(D,{ cls:=.type "list",data:=.seq its.toArray k })] σ' H' s':=I1.pins_of fun p hp=>by
   have e:p = (D,{ cls:=.type "list",data:=.seq its.toArray k }):=by simpa using hp
   subst e
   exact ⟨gD,nD,nDC,Dstk,fun v z=>nomatch z⟩
  rcases turn i n acc σ' H' w1 with ⟨stop,hz,qq⟩ | ⟨go,hz,NN,hNN,step⟩
  ·refine wpAny_bind (wpAny_standAt (wpAny_bind (wpAny_mono (T.done (B5 X scope (nw ++ cl) C (own ++ fr.map (·.2)) s2 H2 fp) rfl rfl rfl hc i _ s' σ' H' (fun _ _=>False) I1' (stat fr1 (by simp)) st1 stop) (fun r s4 ⟨hr,I4⟩=>?_) fun _ _ z=>z.elim)))
   subst hr
   refine wpAny_pure ?_
   have gD4:=(I4.pin (D,_) (List.mem_append_right _ (List.mem_singleton.mpr rfl))).1
   have hC4:H' C = none:=I4.free
   have hC5:(upd H' D (.lst acc)) C = none:=by rw [j4 (Ne.symm nDC)]; exact hC4
   refine fin D C s4 (upd H' D (.lst acc)) ?_ hCs (Ne.symm nDC) hC5 (qq D nD) fun h'' kk=>?_
   ·obtain ⟨m,hn,_⟩:=I4.loc
    exact ⟨m,hn⟩
   ·have un:Un (frs X.stack) fp H2 (upd H' D (.lst acc)) s2.heap h'':=Un.but (a:=C) (Un.track (o:=.lst acc) I4.base hDs (I.hok.fresh hDs)) hCs kk
    have hok:HOk X.prog X.w (upd H' D (.lst acc)) s4.heap:=HOk.track I4.hok nD ⟨hz,its,k,rv,gD4⟩
    exact I.call' (s':={ s4 with heap:=h'' }) (ch:=fp) I4.os un (HOk.but hok hC5 kk) I4.bare fun b hb=>by
     obtain ⟨f0,f1,f2,f3,f4,f5⟩:=hfp b hb
     exact ⟨f3,f1,f4,f5⟩
  ·refine wpAny_bind (wpAny_standAt (wpAny_bind (wpAny_mono (T.item (B5 X scope (nw ++ cl) C (own ++ fr.map (·.2)) s2 H2 fp) rfl rfl rfl hc i _ s' σ' H' (fun _ _=>False) I1' (stat fr1 (by simp)) st1 go) (fun r s4 ⟨u,hr,h4⟩=>?_) fun _ _ z=>z.elim)))
   subst hr
   refine wpAny_bind (wpAny_mono h4 (fun _ s5 ⟨x,H5,I5,r5,y5,st5,fr5⟩=>?_) fun _ _ z=>z.elim)
   have I5':=I5.pinned (stat fr5 (by simp)) (T.obj _ _ st5)
   refine wpAny_bind (wpAny_mono (pg _ s5 σ' H5 x u _ I5' r5 (step x H5 y5)) (fun _ s6 ⟨σ6,H6,I6,q6⟩=>?_) fun _ _ z=>z.elim)
   refine wpAny_bind (wpAny_mono (pt _ s6 σ6 H6 _ I6 q6) (fun ok s7 ⟨H7,I7,q7⟩=>?_) fun _ _ z=>z.elim)
   have again:∀ {s8:Shared} {H8:Hp} {acc':List V} {its':List Value} {k' m':Nat},Inv (B5 X scope (nw ++ cl) C (own ++ fr.map (·.2)) s2 H2 fp) (T5 fp s5.heap) σ6 H8 s8 → H8 D = none →
     s8.heap.get? D = some { cls:=.type "list",data:=.seq its'.toArray k' } → u0 acc' its' → m' < n → W (i + 1) m' acc' σ6 H8 →
     ∃ m,m < n ∧ ∃ i σ' H' acc its k,Inv (B5 X scope (nw ++ cl) C (own ++ fr.map (·.2)) s2 H2 fp) [] σ' H' s8 ∧ tn i s8.heap ∧ (∀ b ∈ fp,H' b = none) ∧ H' D = none ∧
      s8.heap.get? D = some { cls:=.type "list",data:=.seq its.toArray k } ∧ u0 acc its ∧ W i m acc σ' H':=fun {s8 H8 acc' its' k' m'} I8 n8 g8 rv8 hm w8=>by
    refine ⟨m',hm,i + 1,σ6,H8,acc',its',k',I8.pins_of (fun p hp=>nomatch hp),T.keep _ _ _ st5 fun b hb o e=>(I8.pin (b,o) (List.mem_append_right _ (S0 hb e))).1,fun b hb=>?_,n8,g8,rv8,w8⟩
    obtain ⟨o,e,d⟩:=T.obj _ _ st5 b hb
    exact (I8.pin (b,o) (List.mem_append_right _ (S0 hb e))).2.1
   have dropD:∀ {s8:Shared} {H8:Hp},Inv (B5 X scope (nw ++ cl) C (own ++ fr.map (·.2)) s2 H2 fp) ([(D,{ cls:=.type "list",data:=.seq its.toArray k })] ++ T5 fp s5.heap) σ6 H8 s8 →
     Inv (B5 X scope (nw ++ cl) C (own ++ fr.map (·.2)) s2 H2 fp) (T5 fp s5.heap) σ6 H8 s8:=fun I8=>I8.pins_of fun p hp=>I8.pin p (List.mem_append_right _ (List.mem_append_right _ hp))
   cases ok with
   | false =>
    rw [if_neg Bool.false_ne_true] at q7
    obtain ⟨m',hm,w7⟩:=hNN _ _ _ q7
    have pD:=I7.pin (D,_) (List.mem_append_right _ (List.mem_append_left _ (List.mem_singleton.mpr rfl)))
    simp only [Bool.false_eq_true,if_false]
    exact wpAny_pure ⟨rfl,again (dropD I7) pD.2.1 pD.1 rv hm w7⟩
   | true =>
    rw [if_pos rfl] at q7
    simp only [if_true]
    refine wpAny_bind (wpAny_bind (wpAny_mono (pe _ s7 σ6 H7 _ I7 q7) (fun u8 s8 ⟨y,H8,I8,r8,q8⟩=>?_) fun _ _ z=>z.elim))
    obtain ⟨m',hm,w8⟩:=hNN _ _ _ q8
    have pD:=I8.pin (D,_) (List.mem_append_right _ (List.mem_append_left _ (List.mem_singleton.mpr rfl)))
    obtain ⟨gD8,nD8,_⟩:=pD
    have hlen:=rv.length
    refine wpAny_bind (call_meets F.slot_list_append ⟨_,gD8,rfl⟩ F.entry_list_append (F.args_list_append_2 _ _) (PySem.list_append D its.toArray k u8 (by rw [List.size_toArray]; lia)) ⟨gD8,?_⟩)
    refine wpAny_pure (wpAny_pure ⟨rfl,?_⟩)
    have q:=PySem.IsL.update gD8 (·.push u8)
    have e9:its.toArray.push u8 = (its ++ [u8]).toArray:=by simp
    rw [e9] at q
    refine again (its':=its ++ [u8]) ((dropD I8).turned (it:=D) (t':=_) (fun b o hb e=>(Heap.get?_update_other s8.heap _ (Ne.symm hb)).trans e) nD8 nDC (.inr hDs) (fun x c e=>Dcell x c e) fun p hp z=>?_) nD8 q (rv.append (.cons r8 .nil)) hm w8
    have hp':p ∈ T5 fp s5.heap:=by simpa [B5] using hp
    exact nfD p.1 (ao0 hp').1 z
 exact codeAny_compStart_list (loop _ rfl) (T.self _ 0 _ _ _ (T.keep _ _ _ st fun b hb o e=>old b o e) (loop _ rfl))
theorem F6 {wi:TI} {g:TG} {tt:TT} {te:TE} (hc:X.calm = true) (S:CompScope X.N X.env.scope scope own fr) (hi:PI X tg iter wi)
  (hb:∀ (cl:List (Str × Addr)) (C:Addr) (s:Shared) (H:Hp) (ex:List Addr),PG (B5 X scope cl C (own ++ fr.map (·.2)) s H ex) tg g ∧ aL6 (B5 X scope cl C (own ++ fr.map (·.2)) s H ex) ifs tt ∧ PE (B5 X scope cl C (own ++ fr.map (·.2)) s H ex) elt te)
  (hs:∀ x,foldedSetIterable iter X.env x = pure x:=by intro _; rfl):PE X (.ListComp elt [⟨tg,iter,ifs,0⟩] scope pos) (a57 own fr wi g tt te):=by
 intro pins s σ H Q I h
 obtain ⟨cl,hclos,hcl,hcl2⟩:=ah5 (scope:=scope) (env:=X.env) fun x hx=>I.ok.has x (S.free (x,.free) hx rfl)
 rw [eval_ListComp]
 refine wpAny_comprehension_free (use:=none) rfl hs hclos S.kind S.locs (thn (hi pins s σ H _ I h) fun xv s₁ h₁=>thn h₁ fun itv s₂ h₂=>?_)
 obtain ⟨it,fp,tn,J,H2,e,I2,T,st2,f2,hq⟩:=h₂
 subst e
 refine ai4 hc S I2 hcl hcl2 T st2 f2 hb hq (RR:=fun acc C=>compPost (model X.prog X.w) X.A X.xe none (EP X pins σ Q) acc C) fun D C s' H' hn hC1 hCD hC2 q inv=>?_
 obtain ⟨m,hn⟩:=hn
 exact ⟨m,hn,fun h'' sb=>⟨.ref D,H',inv h'' fun b o hb e=>sb.extBut b o hb e,rfl,q⟩⟩
theorem aH7 {i:Nat} {x:Str} {px spos:Pos} {wi:TI} {g:TG} {tt:TT} {te:TE} (hc:X.calm = true) (hN:X.N.Nodup) (hix:X.N[i]? = some x) (hx:X.env.scope.names.lookup x = some .local) (S:CompScope X.N X.env.scope scope own fr) (hi:PI X tg iter wi)
  (hb:∀ (cl:List (Str × Addr)) (C:Addr) (s:Shared) (H:Hp) (ex:List Addr),PG (B5 X scope cl C (own ++ fr.map (·.2)) s H ex) tg g ∧ aL6 (B5 X scope cl C (own ++ fr.map (·.2)) s H ex) ifs tt ∧ PE (B5 X scope cl C (own ++ fr.map (·.2)) s H ex) elt te)
  (hsw:swapsWith (.ListComp elt [⟨tg,iter,ifs,0⟩] scope pos) (some (.Name x px)) spos.line X.env = pure true) (hs:∀ x,foldedSetIterable iter X.env x = pure x:=by intro _; rfl) :
  PS X (.Assign [.Name x px] (.ListComp elt [⟨tg,iter,ifs,0⟩] scope pos) spos) (a_5 (a57 own fr wi g tt te) (aK2 i)):=by
 intro pins s σ H D I h
 obtain ⟨cl,hclos,hcl,hcl2⟩:=ah5 (scope:=scope) (env:=X.env) fun x hx=>I.ok.has x (S.free (x,.free) hx rfl)
 rw [exec_Assign_Name_used _ _ _ _ hsw]
 refine wpAny_bind (wpAny_standAt (wpAny_bind ?_))
 show wpAny _ X.A (do let _ ← comprehension (.ListComp elt [⟨tg,iter,ifs,0⟩] scope pos) scope X.env _ (newList []) false (eval iter X.env) (some (assign (.Name x px) X.env))) _ _ s
 refine wpAny_bind (wpAny_mono (wpAny_comprehension_free (use:=some (assign (.Name x px) X.env)) (Q:=fun _ s'=>SP X pins D .next s') rfl hs hclos S.kind S.locs (thn (hi pins s σ H _ I h) fun xv s₁ h₁=>thn h₁ fun itv s₂ h₂=>?_)) (fun _ s' hq=>wpAny_pure (wpAny_pure hq)) fun _ _ e=>e)
 obtain ⟨it,fp,tn,J,H2,e,I2,T,st2,f2,hq⟩:=h₂
 subst e
 refine ai4 (Q:=fun x H1=>aK2 i x σ H1 D.nx) hc S I2 hcl hcl2 T st2 f2 hb hq (RR:=fun acc C=>compPost (model X.prog X.w) X.A X.xe (some (assign (.Name x px) X.env)) (fun _ s'=>SP X pins D .next s') acc C) fun Da C s' H' hn hC1 hCD hC2 q inv=>?_
 obtain ⟨m,hn⟩:=hn
 have I3:Inv X pins σ H' { s' with heap:=s'.heap }:=inv s'.heap fun _ _ _ e=>e
 show wpAny _ X.A (assign (.Name x px) X.env (.ref Da)) _ _ s'
 refine wpAny_assign_Name (am4 I3 hN hix (.inl hx) (v:=.ref Da) rfl (fun s4 I4 ⟨a,sb,ha⟩=>?_) (.inr hx))
 have hCL:C ≠ X.env.locals:=Nat.ne_of_gt (Nat.lt_of_lt_of_le I2.lt hC1)
 have hCc:∀ y c,X.env.cells.lookup y = some c → c ≠ C:=fun y c e=>by
  obtain ⟨v,w⟩:=I2.cell y c e
  exact Nat.ne_of_lt (Nat.lt_of_lt_of_le w.lt hC1)
 have haC:C ≠ a:=by
  rcases ha with ha | ha
  ·rw [ha]; exact hCL
  ·exact (hCc _ _ ha).symm
 refine ⟨m,hn.sameBut sb haC,fun h'' sb2=>⟨_,H',I4.turned (it:=C) (t':=s4.toks) (fun b o hb e=>sb2.extBut b o hb e) hC2 hCL (.inr (Nat.le_trans I2.sz hC1)) hCc fun p hp z=>?_,q⟩⟩
 exact Nat.ne_of_lt (Nat.lt_of_lt_of_le (Heap.lt_size (I2.pin p hp).1) hC1) z
end
theorem C9 {K:PySem.W.Frag} {a:Addr} {xs:List V} {g:TG} {tt:TT} {te:TE} {σ₀:St} {H:Hp} {Q:VK} (Pv:Nat → List V → St → Hp → Prop) (h0:Pv 0 [] σ₀ H) (hz:xs.length ≤ sizeLine) (hn:∀ i acc σ H,Pv i acc σ H → acc.length ≤ i)
  (hl:∀ i acc σ H,i ≤ xs.length → Pv i acc σ H → SqL K H a xs)
  (hs:∀ i x acc σ H,xs[i]? = some x → Pv i acc σ H → g x σ H fun σ2 H2=>tt σ2 H2 fun ok H3=>if ok = true then te σ2 H3 fun y H4=>Pv (i + 1) (acc ++ [y]) σ2 H4 else Pv (i + 1) acc σ2 H3)
  (hd:∀ acc σ H,Pv xs.length acc σ H → ∀ p,H p = none → Q (.ref p) (upd H p (.lst acc))) :
  ag1 (Itl K a) g tt te Q σ₀ H:=by
 refine ⟨fun i m acc σ H=>m = xs.length - i ∧ i ≤ xs.length ∧ Pv i acc σ H,⟨xs.length,by simp,Nat.zero_le _,h0⟩,?_⟩
 rintro i m acc σ H ⟨rfl,hi,p⟩
 have q:=hl i acc σ H hi p
 have hlen:=hn i acc σ H p
 by_cases hlt:i < xs.length
 ·refine .inr ⟨⟨xs,xs[i],q,by simp [hlt]⟩,by lia,Pv (i + 1),fun acc' σ' H' p'=>⟨xs.length - (i + 1),by lia,rfl,hlt,p'⟩,fun x H' y=>?_⟩
  obtain ⟨e,y⟩:=y
  subst e
  exact hs i x acc σ _ (y xs q) p
 ·have e:i = xs.length:=by lia
  subst e
  exact .inl ⟨⟨xs,q,Nat.le_refl _⟩,by lia,hd acc σ H p⟩
theorem az0 {K:PySem.W.Frag} {a:Addr} {xs:List V} {g:TG} {tt:TT} {te:TE} {σ₀:St} {H:Hp} {Q:VK} (Pv:Nat → List V → St → Hp → Prop) (h0:Pv 0 [] σ₀ H) (hz:xs.length ≤ sizeLine) (hn:∀ i acc σ H,Pv i acc σ H → acc.length ≤ i)
  (hl:∀ i acc σ H,i ≤ xs.length → Pv i acc σ H → SqT K H a xs)
  (hs:∀ i x acc σ H,xs[i]? = some x → Pv i acc σ H → g x σ H fun σ2 H2=>tt σ2 H2 fun ok H3=>if ok = true then te σ2 H3 fun y H4=>Pv (i + 1) (acc ++ [y]) σ2 H4 else Pv (i + 1) acc σ2 H3)
  (hd:∀ acc σ H,Pv xs.length acc σ H → ∀ p,H p = none → Q (.ref p) (upd H p (.lst acc))) :
  ag1 (Itt K a) g tt te Q σ₀ H:=by
 refine ⟨fun i m acc σ H=>m = xs.length - i ∧ i ≤ xs.length ∧ Pv i acc σ H,⟨xs.length,by simp,Nat.zero_le _,h0⟩,?_⟩
 rintro i m acc σ H ⟨rfl,hi,p⟩
 have q:=hl i acc σ H hi p
 have hlen:=hn i acc σ H p
 by_cases hlt:i < xs.length
 ·refine .inr ⟨⟨xs,xs[i],q,by simp [hlt]⟩,by lia,Pv (i + 1),fun acc' σ' H' p'=>⟨xs.length - (i + 1),by lia,rfl,hlt,p'⟩,fun x H' y=>?_⟩
  obtain ⟨e,y⟩:=y
  subst e
  exact hs i x acc σ _ (y xs q) p
 ·have e:i = xs.length:=by lia
  subst e
  exact .inl ⟨⟨xs,q,Nat.le_refl _⟩,by lia,hd acc σ H p⟩
theorem af8 {lo:Int} {n:Nat} {g:TG} {tt:TT} {te:TE} {σ₀:St} {H:Hp} {Q:VK} (Pv:Nat → List V → St → Hp → Prop) (h0:Pv 0 [] σ₀ H) (hz:n ≤ sizeLine) (hn:∀ i acc σ H,Pv i acc σ H → acc.length ≤ i)
  (hs:∀ i acc σ H,i < n → Pv i acc σ H → g (.int (lo + i)) σ H fun σ2 H2=>tt σ2 H2 fun ok H3=>if ok = true then te σ2 H3 fun y H4=>Pv (i + 1) (acc ++ [y]) σ2 H4 else Pv (i + 1) acc σ2 H3)
  (hd:∀ acc σ H,Pv n acc σ H → ∀ p,H p = none → Q (.ref p) (upd H p (.lst acc))) :
  ag1 (Itr lo n) g tt te Q σ₀ H:=by
 refine ⟨fun i m acc σ H=>m = n - i ∧ i ≤ n ∧ Pv i acc σ H,⟨n,by simp,Nat.zero_le _,h0⟩,?_⟩
 rintro i m acc σ H ⟨rfl,hi,p⟩
 have hlen:=hn i acc σ H p
 by_cases hlt:i < n
 ·refine .inr ⟨hlt,by lia,Pv (i + 1),fun acc' σ' H' p'=>⟨n - (i + 1),by lia,rfl,hlt,p'⟩,fun x H' y=>?_⟩
  obtain ⟨e,y⟩:=y
  subst e y
  exact hs i acc σ _ hlt p
 ·have e:i = n:=by lia
  subst e
  exact .inl ⟨Nat.le_refl _,by lia,hd acc σ H p⟩
end L2
namespace L2
open PySem PySem.Spec PyProof.Rows
theorem ax3 {c A B:Prop} [Decidable c] (h:¬ c) (b:B):if c then A else B:=by rw [if_neg h]; exact b
structure Callee (P:Program) (w:World) (K:PySem.W.Frag) (mg:Str → Option Value) (base:Heap) (k:Nat) (x:Str) (ps:List Str) (sp:Sp):Prop where
 ex:∃ (f:Addr) (fd:FuncData),FnOk P w K mg base CX0 k f fd ps sp ∧ O5 K fd ps [] ∧ PySem.W.keepIn K (.ref f) = true ∧ mg x = some (.ref f)
structure Def (K:PySem.W.Frag) (mg:Str → Option Value) (x:Str) (st:Stmt) (ps:List Str):Prop where
 ex:∃ (f:Addr) (fd:FuncData),Fun K x x st f fd ∧ O5 K fd ps [] ∧ mg x = some (.ref f)
section
variable {P:Program} {w:World} {K:PySem.W.Frag} {mg:Str → Option Value} {base:Heap}
theorem Def.ok {x:Str} {st:Stmt} {N ps:List Str} {k:Nat} {sp:Sp} (D:Def K mg x st ps) (S:FnScope N ps (i7 st)) (len:∀ vs H Q E,sp vs H Q E → vs.length = ps.length)
  (hbody:∀ (f:Addr) (cdv:Value) (A:Around) (outer:List Env) (s:Shared) (H:Hp) (vs:List V) (Q:VK) (E:XK),Room k (A.deeper (envOfC x (i7 st) s.heap.objs.size f cdv)) → sp vs H Q E →
   ∃ t,PSs (N4 CX0 P w K mg base N x (i7 st) f cdv A outer s H E).nox (j9 st) t ∧ t { nx:=fun _ H'=>Q .non H',rt:=Q } (start N vs) H):Callee P w K mg base (k + 1) x ps sp:=by
 obtain ⟨f,fd,F,b,m⟩:=D.ex
 exact ⟨f,fd,F.ok S len fun cdv A outer s H vs Q E hr h=>hbody f cdv A outer s H vs Q E hr h,b,F.kp,m⟩
end
section
variable {X:Cx} {k n:Nat} {ps:List Str} {sp:Sp} {x:Str} {p pos:Pos} {e:Expr} {es:List Expr} {t:TA}
theorem r6 (C:Callee X.prog X.w X.K X.mg X.base k x ps sp) (hr:Room n X.A) (hg:Gl X x) (ha:PA X (e :: es) t) (hk:k ≤ n:=by decide) (hdb:(x == ("__debug__":Str)) = false:=by decide)
  (he:starEach (e :: es) X.env = (false,eval e X.env) :: starEach es X.env:=by rfl) (hpl:(backTo pos (starEach es X.env)).any (·.1) = false:=by rfl) :
  PE X (.Call (.Name x p) (e :: es) [] pos) (a66 sp [] E0 t):=by
 obtain ⟨f,fd,F,b,kp,m⟩:=C.ex
 exact aZ0 F (hr.mono hk) hg m kp b .nil aK1 ha hdb he hpl
theorem aB5:B0 X (.builtin "isinstance") (fun xs H Q=>∃ v T t b,xs = [v,.ty T] ∧ TyOf X.K H v t ∧ PySem.W.kitOne X.K t (.type T) = some b ∧ Q (.bl b) H):=by
 intro pins s σ H xs us Q I r h
 obtain ⟨v,T,t,b,rfl,ty,e,q⟩:=h
 obtain ⟨u,u',rfl,r1,r2⟩:=am2 r
 cases r2
 exact aL1 I r1 ty e fun tk=>⟨.bl b,H,I.tok _,rfl,q⟩
def bg7 (S T:String):Option Bool:=if (Value.type S == Value.type T) = true then some true else if PySem.W.kitMeta T = true then (fastBuiltinMro S).map (·.contains (.type T)) else none
theorem A6 {K:PySem.W.Frag} {S T:String} {b:Bool} (h:bg7 S T = some b):PySem.W.kitOne K (.type S) (.type T) = some b:=h
section
variable {K:PySem.W.Frag}
theorem M3:PySem.W.kitOne K (.type "int") (.type "int") = some true:=A6 (by decide +kernel)
theorem Q8:PySem.W.kitOne K (.type "int") (.type "bool") = some false:=A6 (by decide +kernel)
theorem au0:PySem.W.kitOne K (.type "bool") (.type "int") = some true:=A6 (by decide +kernel)
theorem al1:PySem.W.kitOne K (.type "bool") (.type "bool") = some true:=A6 (by decide +kernel)
theorem L9:PySem.W.kitOne K (.type "tuple") (.type "tuple") = some true:=A6 (by decide +kernel)
theorem P6:PySem.W.kitOne K (.type "list") (.type "list") = some true:=A6 (by decide +kernel)
theorem U2:PySem.W.kitOne K (.type "list") (.type "tuple") = some false:=A6 (by decide +kernel)
theorem aw0:PySem.W.kitOne K (.type "tuple") (.type "list") = some false:=A6 (by decide +kernel)
theorem av4:PySem.W.kitOne K (.type "NoneType") (.type "int") = some false:=A6 (by decide +kernel)
theorem ax2:PySem.W.kitOne K (.type "str") (.type "int") = some false:=A6 (by decide +kernel)
theorem ad6:PySem.W.kitOne K (.type "tuple") (.type "int") = some false:=A6 (by decide +kernel)
theorem S9:PySem.W.kitOne K (.type "list") (.type "int") = some false:=A6 (by decide +kernel)
end
theorem ab7:B0 X (.builtin "sorted") (fun xs H Q=>∃ (p:Addr) (ns:List Int),xs = [.ref p] ∧ SqL X.K H p (ns.map V.int) ∧ ns.length < 64 ∧ ∀ ns':List Int,ns'.Perm ns → ns'.Pairwise (· ≤ ·) → ∀ l,H l = none → Q (.ref l) (upd H l (.lst (ns'.map V.int)))):=by
 intro pins s σ H xs us Q I r h
 obtain ⟨p,ns,rfl,hq,h64,q⟩:=h
 obtain ⟨u,rfl,rx⟩:=P7 r
 cases rx
 obtain ⟨its,r',pl,hz⟩:=I.list hq
 have hi:IntsAre its ns:=D7 r'
 have hlen:its.length = ns.length:=hi.length
 refine sorted_ints pl.isList hi (by lia) fun out ns' a1 a2 a3=>?_
 obtain ⟨e,he⟩:=sortedAll_at s.heap its out
 have hz':(ns'.map V.int).length ≤ sizeLine:=by
  rw [List.length_map,a2.length_eq]
  rw [List.length_map] at hz
  exact hz
 exact ⟨.ref (s.heap.objs.size + 1),_,I.laid (t':=s.toks) (o:=.lst (ns'.map V.int)) (fun b o e=>sortedAll_old e) (Nat.le_succ _) ⟨hz',out.toList,e,Q3 a1,by simpa [seqObj] using he⟩,rfl,q ns' a2 a3 _ (I.hok.fresh (Nat.le_succ _))⟩
theorem aI6 {ns:List Int} {us:List Value} (h:IntsAre us ns):∀ (i:Nat) (v:Value),us[i]? = some v → ∃ t,v = .int (ns.getD i 0) t:=by
 induction h with
 | nil=>intro i v e; simp at e
 | cons n t h ih =>
  intro i v e
  cases i with
  | zero=>exact ⟨t,by simpa using e.symm⟩
  | succ i =>
   obtain ⟨t',e'⟩:=ih i v (by simpa using e)
   exact ⟨t',by simpa using e'⟩
theorem av6 {bs:List Bool}:∀ {us:List Value},u0 (bs.map V.bl) us → ∀ (i:Nat) (v:Value),us[i]? = some v → v = .bool (bs.getD i false):=by
 induction bs with
 | nil=>intro us r i v e; rw [List.map_nil] at r; cases r; simp at e
 | cons b bs ih =>
  intro us r i v e
  rw [List.map_cons] at r
  cases r with
  | cons r1 r2 =>
   cases i with
   | zero =>
    have e':=Option.some.inj e
    rw [← e']
    exact r1
   | succ i=>exact ih r2 i v (by simpa using e)
theorem aM6 (bs:List Bool):(List.range bs.length).all (fun i=>bs.getD i false) = bs.all id:=by
 rw [Bool.eq_iff_iff,List.all_eq_true,List.all_eq_true]
 constructor
 ·intro h b hb
  obtain ⟨i,hi,e⟩:=List.getElem_of_mem hb
  have:=h i (by simpa using hi)
  simpa [List.getD,hi,e] using this
 ·intro h i hi
  have hi':i < bs.length:=by simpa using hi
  have:=h bs[i] (List.getElem_mem hi')
  simpa [List.getD,hi'] using this
theorem aN0 (bs:List Bool):(List.range bs.length).any (fun i=>bs.getD i false) = bs.any id:=by
 rw [Bool.eq_iff_iff,List.any_eq_true,List.any_eq_true]
 constructor
 ·rintro ⟨i,hi,e⟩
  have hi':i < bs.length:=by simpa using hi
  exact ⟨bs[i],List.getElem_mem hi',by simpa [List.getD,hi'] using e⟩
 ·rintro ⟨b,hb,e⟩
  obtain ⟨i,hi,z⟩:=List.getElem_of_mem hb
  exact ⟨i,by simpa using hi,by simpa [List.getD,hi,z] using e⟩
theorem ai0 (hc:X.calm = true):B0 X (.builtin "all") (fun xs H Q=>∃ (p:Addr) (bs:List Bool),xs = [.ref p] ∧ SqL X.K H p (bs.map V.bl) ∧ Q (.bl (bs.all id)) H):=by
 intro pins s σ H xs us Q I r h
 obtain ⟨p,bs,rfl,hq,q⟩:=h
 obtain ⟨u,rfl,rx⟩:=P7 r
 cases rx
 obtain ⟨its,r',pl,hz⟩:=I.list hq
 have hlen:its.length = bs.length:=by rw [← r'.length,List.length_map]
 obtain ⟨o,n,ho,_⟩:=id pl
 have hne:p ≠ s.heap.objs.size:=Nat.ne_of_lt (Heap.lt_size ho)
 refine call_all_walk (wpAny_pyIter_list pl.isList ?_)
 refine ⟨s.heap.objs.size,_,_,its.toArray.size,_,_,fun i=>bs.getD i false,rfl,Walks.list (A:=X.A.in1) (I.ok.hd hc) s.heap.objs.size p hne its.toArray,⟨⟨_,Heap.get?_push_size _ rfl,rfl,rfl⟩,pl.isList.at fun o e=>Heap.get?_push_of_some _ e⟩,fun i v s' Q' E' e hQ=>?_,fun h' tk kk=>?_⟩
 ·rw [av6 r' i v (by simpa using e)]
  exact wpAny_truthy_bool hQ
 ·have kp:∀ b o,s.heap.get? b = some o → h'.get? b = some o:=fun b o e=>kk b o (by simpa using Nat.ne_of_lt (Heap.lt_size e)) (Heap.get?_push_of_some _ e)
  rw [List.size_toArray,hlen,aM6]
  exact ⟨.bl (bs.all id),H,I.kept kp,rfl,q⟩
theorem aj3 (hc:X.calm = true):B0 X (.builtin "any") (fun xs H Q=>∃ (p:Addr) (bs:List Bool),xs = [.ref p] ∧ SqL X.K H p (bs.map V.bl) ∧ Q (.bl (bs.any id)) H):=by
 intro pins s σ H xs us Q I r h
 obtain ⟨p,bs,rfl,hq,q⟩:=h
 obtain ⟨u,rfl,rx⟩:=P7 r
 cases rx
 obtain ⟨its,r',pl,hz⟩:=I.list hq
 have hlen:its.length = bs.length:=by rw [← r'.length,List.length_map]
 obtain ⟨o,n,ho,_⟩:=id pl
 have hne:p ≠ s.heap.objs.size:=Nat.ne_of_lt (Heap.lt_size ho)
 refine call_any_walk (wpAny_pyIter_list pl.isList ?_)
 refine ⟨s.heap.objs.size,_,_,its.toArray.size,_,_,fun i=>bs.getD i false,rfl,Walks.list (A:=X.A.in1) (I.ok.hd hc) s.heap.objs.size p hne its.toArray,⟨⟨_,Heap.get?_push_size _ rfl,rfl,rfl⟩,pl.isList.at fun o e=>Heap.get?_push_of_some _ e⟩,fun i v s' Q' E' e hQ=>?_,fun h' tk kk=>?_⟩
 ·rw [av6 r' i v (by simpa using e)]
  exact wpAny_truthy_bool hQ
 ·have kp:∀ b o,s.heap.get? b = some o → h'.get? b = some o:=fun b o e=>kk b o (by simpa using Nat.ne_of_lt (Heap.lt_size e)) (Heap.get?_push_of_some _ e)
  rw [List.size_toArray,hlen,aN0]
  exact ⟨.bl (bs.any id),H,I.kept kp,rfl,q⟩
theorem av7 (ns ms:List Int) (h:ns.length = ms.length):((List.range ns.length).all fun j=>ns.getD j 0 == ms.getD j 0) = decide (ns = ms):=by
 rw [Bool.eq_iff_iff,List.all_eq_true,decide_eq_true_iff]
 constructor
 ·intro q
  apply List.ext_getElem h
  intro i h1 h2
  have:=q i (by simpa using h1)
  simpa [List.getD,h1,h2] using this
 ·rintro rfl i hi
  simp
theorem ao8 {A:Around} {s:Shared} {us vs:List Value} {ns ms:List Int} (h:IntsAre us ns) (h':IntsAre vs ms):∀ j (h1:j < us.toArray.size) (h2:j < vs.toArray.size),SeqAt.EqAt A s us.toArray[j] vs.toArray[j] (ns.getD j 0 == ms.getD j 0):=fun j h1 h2=>by
 obtain ⟨t,e⟩:=aI6 h j us.toArray[j] (by simp)
 obtain ⟨t',e'⟩:=aI6 h' j vs.toArray[j] (by simp)
 rw [e,e']
 exact SeqAt.EqAt.int_int _ _ _ _
theorem aY5 (hu:X.A.units < cLine):OpR X (compareOp .NotEq) (fun x y H Q=>∃ (a b:Addr) (ns ms:List Int),x = .ref a ∧ y = .ref b ∧ SqL X.K H a (ns.map V.int) ∧ SqL X.K H b (ms.map V.int) ∧ Q (.bl (!decide (ns = ms))) H):=by
 intro pins s σ H x y v u Q I rx ry h
 obtain ⟨a,b,ns,ms,rfl,rfl,ha,hb,q⟩:=h
 cases rx
 cases ry
 obtain ⟨its,r1,p1,_⟩:=I.list ha
 obtain ⟨its2,r2,p2,_⟩:=I.list hb
 have i1:IntsAre its ns:=D7 r1
 have i2:IntsAre its2 ms:=D7 r2
 have l1:=i1.length
 have l2:=i2.length
 by_cases hl:ns.length = ms.length
 ·refine SeqAt.RcNeAt.lists (e:=fun j=>ns.getD j 0 == ms.getD j 0) p1.isList p2.isList (by simp only [List.size_toArray]; lia) hu (ao8 i1 i2) X.prog X.w X.xe _ ?_
  rw [List.size_toArray,l1,av7 ns ms hl]
  exact ⟨.bl _,H,I,rfl,q⟩
 ·refine SeqAt.RcNeAt.lists_lengths p1.isList p2.isList (by simp only [List.size_toArray]; simpa using (by lia:its.length ≠ its2.length)) hu X.prog X.w X.xe _ ?_
  have e:decide (ns = ms) = false:=decide_eq_false (fun z=>hl (by rw [z]))
  rw [e] at q
  exact ⟨.bl true,H,I,rfl,q⟩
theorem aY7 (hu:X.A.units < cLine):OpR X (compareOp .Eq) (fun x y H Q=>∃ (a b:Addr) (ns ms:List Int),x = .ref a ∧ y = .ref b ∧ SqL X.K H a (ns.map V.int) ∧ SqL X.K H b (ms.map V.int) ∧ Q (.bl (decide (ns = ms))) H):=by
 intro pins s σ H x y v u Q I rx ry h
 obtain ⟨a,b,ns,ms,rfl,rfl,ha,hb,q⟩:=h
 cases rx
 cases ry
 obtain ⟨its,r1,p1,_⟩:=I.list ha
 obtain ⟨its2,r2,p2,_⟩:=I.list hb
 have i1:IntsAre its ns:=D7 r1
 have i2:IntsAre its2 ms:=D7 r2
 have l1:=i1.length
 have l2:=i2.length
 by_cases hl:ns.length = ms.length
 ·refine SeqAt.RcAt.lists (e:=fun j=>ns.getD j 0 == ms.getD j 0) p1.isList p2.isList (by simp only [List.size_toArray]; lia) hu (ao8 i1 i2) X.prog X.w X.xe _ ?_
  rw [List.size_toArray,l1,av7 ns ms hl]
  exact ⟨.bl _,H,I,rfl,q⟩
 ·refine SeqAt.RcAt.lists_lengths p1.isList p2.isList (by simp only [List.size_toArray]; simpa using (by lia:its.length ≠ its2.length)) hu X.prog X.w X.xe _ ?_
  have e:decide (ns = ms) = false:=decide_eq_false (fun z=>hl (by rw [z]))
  rw [e] at q
  exact ⟨.bl false,H,I,rfl,q⟩
end
end L2
namespace L2
open PySem PySem.Spec PyProof.Rows
section
variable {K:PySem.W.Frag}
theorem au3:PySem.W.kitOne K (.type "NoneType") (.type "bool") = some false:=A6 (by decide +kernel)
theorem ap7:PySem.W.kitOne K (.type "str") (.type "bool") = some false:=A6 (by decide +kernel)
theorem ar2:PySem.W.kitOne K (.type "list") (.type "bool") = some false:=A6 (by decide +kernel)
end
end L2
namespace L2
open PySem
theorem aV9 (xs:Array Nat) (j:Nat) (mono:xs.toList.Pairwise (· < ·)):∀ fuel lo hi,hi - lo ≤ fuel → lo ≤ hi → hi ≤ xs.size → (∀ i,i < lo → xs.getD i j < j) → (∀ i,hi ≤ i → i < xs.size → j ≤ xs.getD i j) →
  SetTable.below.go xs j fuel lo hi ≤ xs.size ∧ (∀ i,i < SetTable.below.go xs j fuel lo hi → xs.getD i j < j) ∧ ∀ i,SetTable.below.go xs j fuel lo hi ≤ i → i < xs.size → j ≤ xs.getD i j:=by
 have le:∀ a b,a ≤ b → b < xs.size → xs.getD a j ≤ xs.getD b j:=fun a b h hb=>by
  rcases Nat.lt_or_eq_of_le h with h | h
  ·have:=List.pairwise_iff_getElem.mp mono a b (by simp; lia) (by simpa using hb) h
   simp only [Array.getElem_toList] at this
   simp only [Array.getD_eq_getD_getElem?,Array.getElem?_eq_getElem hb,Array.getElem?_eq_getElem (show a < xs.size by lia),Option.getD_some]
   lia
  ·rw [h]; exact Nat.le_refl _
 intro fuel
 induction fuel with
 | zero =>
  intro lo hi h1 h2 h3 h4 h5
  have e:lo = hi:=by lia
  subst e
  exact ⟨h3,h4,h5⟩
 | succ fuel ih =>
  intro lo hi h1 h2 h3 h4 h5
  unfold SetTable.below.go
  by_cases hl:lo < hi
  ·rw [if_pos hl]
   dsimp only
   by_cases hm:xs.getD ((lo + hi) / 2) j < j
   ·rw [if_pos hm]
    refine ih _ _ (by lia) (by lia) h3 (fun i hi'=>?_) h5
    exact Nat.lt_of_le_of_lt (le i ((lo + hi) / 2) (by lia) (by lia)) hm
   ·rw [if_neg hm]
    refine ih _ _ (by lia) (by lia) (by lia) h4 (fun i hi' hs=>?_)
    exact Nat.le_trans (by lia) (le ((lo + hi) / 2) i hi' hs)
  ·rw [if_neg hl]
   have e:lo = hi:=by lia
   subst e
   exact ⟨h3,h4,h5⟩
theorem X9 (xs:Array Nat) (j:Nat) (mono:xs.toList.Pairwise (· < ·)):SetTable.below xs j ≤ xs.size ∧ (∀ i,i < SetTable.below xs j → xs.getD i j < j) ∧ ∀ i,SetTable.below xs j ≤ i → i < xs.size → j ≤ xs.getD i j :=
 aV9 xs j mono xs.size 0 xs.size (by lia) (by lia) (Nat.le_refl _) (fun i h=>absurd h (by lia)) (fun i h h'=>absurd h' (by lia))
theorem aq2 (xs:Array Nat) (j:Nat) (mono:xs.toList.Pairwise (· < ·)) (hn:xs[SetTable.below xs j]? ≠ some j):(SetTable.insertAt xs (SetTable.below xs j) j).toList.Pairwise (· < ·):=by
 obtain ⟨h1,h2,h3⟩:=X9 xs j mono
 have e:(SetTable.insertAt xs (SetTable.below xs j) j).toList = xs.toList.take (SetTable.below xs j) ++ j :: xs.toList.drop (SetTable.below xs j):=by
  simp [SetTable.insertAt,List.extract_eq_take_drop,List.take_of_length_le]
 rw [e]
 generalize hp:SetTable.below xs j = p at *
 have gt:∀ i,p ≤ i → (h:i < xs.size) → j < xs[i]:=fun i hi h=>by
  have q:=h3 i hi h
  rw [Array.getD_eq_getD_getElem?,Array.getElem?_eq_getElem h,Option.getD_some] at q
  rcases Nat.lt_or_eq_of_le q with q | q
  ·exact q
  ·exfalso
   have hps:p < xs.size:=by lia
   have q2:=h3 p (Nat.le_refl _) hps
   rw [Array.getD_eq_getD_getElem?,Array.getElem?_eq_getElem hps,Option.getD_some] at q2
   rcases Nat.lt_or_eq_of_le hi with z | z
   ·have:=List.pairwise_iff_getElem.mp mono p i (by simpa using hps) (by simpa using h) z
    simp only [Array.getElem_toList] at this
    lia
   ·subst z
    exact hn (by rw [Array.getElem?_eq_getElem h,← q])
 rw [List.pairwise_append,List.pairwise_cons]
 refine ⟨mono.sublist (List.take_sublist _ _),⟨fun a ha=>?_,mono.sublist (List.drop_sublist _ _)⟩,fun a ha b hb=>?_⟩
 ·obtain ⟨i,hi,rfl⟩:=List.getElem_of_mem ha
  rw [List.getElem_drop]
  rw [List.length_drop,Array.length_toList] at hi
  have:=gt (p + i) (by lia) (by lia)
  simpa using this
 ·obtain ⟨i,hi,rfl⟩:=List.getElem_of_mem ha
  rw [List.length_take,Array.length_toList] at hi
  have q:=h2 i (by lia)
  rw [Array.getD_eq_getD_getElem?,Array.getElem?_eq_getElem (by lia),Option.getD_some] at q
  rw [List.getElem_take]
  rw [Array.getElem_toList]
  rcases List.mem_cons.mp hb with rfl | hb
  ·exact q
  ·obtain ⟨k,hk,rfl⟩:=List.getElem_of_mem hb
   rw [List.getElem_drop]
   rw [List.length_drop,Array.length_toList] at hk
   have:=gt (p + k) (by lia) (by lia)
   rw [Array.getElem_toList]
   lia
structure JT (L:Bool) (t:SetTable):Prop where
 led:t.led = L
 dum:t.dummies = #[]
 mono:t.place.toList.Pairwise (· < ·)
theorem aJ1 (j:Nat):SetTable.has #[] j = false:=by simp [SetTable.has]
theorem aG1 (t:SetTable) (j:Nat) (h:t.dummies = #[]):(t.slot j = .empty ∧ t.place[SetTable.below t.place j]? ≠ some j) ∨ ∃ i,t.slot j = .live i:=by
 unfold SetTable.slot
 rw [h,aJ1]
 dsimp only
 by_cases e:(t.place[SetTable.below t.place j]? == some j) = true
 ·rw [if_pos e]; exact .inr ⟨_,rfl⟩
 ·rw [if_neg e]
  refine .inl ⟨by simp,fun q=>e ?_⟩
  rw [q]; simp
theorem aA2 (t:SetTable) (hd:t.dummies = #[]) (f:Nat → Int) (h:Int):∀ (fuel:Nat) (p:SetTable.Probe) (j:Nat) (d:Option Nat),p.dummy = none → SetTable.probe.go t f h fuel p = some (.empty j d) →
  d = none ∧ t.place[SetTable.below t.place j]? ≠ some j:=by
 intro fuel
 induction fuel with
 | zero=>intro p j d _ e; simp [SetTable.probe.go] at e
 | succ fuel ih =>
  intro p j d hp e
  unfold SetTable.probe.go at e
  rcases aG1 t p.j hd with ⟨q,q2⟩ | ⟨i,q⟩
  ·rw [q] at e
   injection e with e
   injection e with e1 e2
   subst e1
   exact ⟨e2 ▸ hp,q2⟩
  ·rw [q] at e
   dsimp only at e
   have ha:(t.advance p).dummy = none:=by
    unfold SetTable.advance
    split
    ·exact hp
    ·exact hp
   split at e
   ·cases e
   ·exact ih _ j d ha e
theorem R5 {L:Bool} {t:SetTable} (n:Nat) (h:JT L t):JT L (t.standIn n) where
 led:=h.led
 dum:=rfl
 mono:=by
  show (Array.range n).toList.Pairwise (· < ·)
  rw [Array.toList_range]
  exact List.pairwise_lt_range
theorem aO1 {L:Bool} {t:SetTable} (es:Array (Int × Value)) (h:Int) (x:Value) (J:JT L t):JT L (layNew t es h x).2.1:=by
 unfold layNew
 cases q:t.freeSlot h with
 | none=>exact R5 _ J
 | some r =>
  obtain ⟨slot,wasDummy⟩:=r
  dsimp only
  have hs:t.place[SetTable.below t.place slot]? ≠ some slot:=by
   unfold SetTable.freeSlot at q
   cases e:t.probe (fun _=>h + 1) h (t.probeStart h) with
   | none=>rw [e] at q; cases q
   | some m =>
    rw [e] at q
    cases m with
    | candidate _ _ _=>cases q
    | empty j d =>
     obtain ⟨rfl,z⟩:=aA2 t J.dum _ h _ _ j d rfl e
     have q1:=Option.some.inj q
     injection q1 with q2 _
     subst q2
     exact z
  have Jp:JT L (t.put slot).1:=by
   refine ⟨J.led,?_,aq2 t.place slot J.mono hs⟩
   show (if SetTable.has t.dummies slot = true then _ else t.dummies) = #[]
   rw [J.dum,aJ1]
   rfl
  unfold SetTable.orStandIn
  split
  ·exact Jp
  ·exact R5 _ Jp
theorem a56 {L:Bool} {mask finger moves:Nat} {plain:Bool} {hs:Array Int} {t:SetTable} {o:Array Nat} (h:SetTable.laid mask finger moves L plain hs = some (t,o)):JT L t:=by
 unfold SetTable.laid at h
 cases q:SetTable.layClean mask hs with
 | none=>rw [q] at h; cases h
 | some owner =>
  rw [q] at h
  have e:=Option.some.inj h
  injection e with e1 _
  subst e1
  refine ⟨rfl,rfl,?_⟩
  show (List.map (fun x=>x.1) ((List.range (mask + 1)).filterMap fun j=>(owner.getD j none).map (j,·))).toArray.toList.Pairwise (· < ·)
  have:∀ l:List Nat,List.Sublist (List.map (fun x:Nat × Nat=>x.1) (l.filterMap fun j=>(owner.getD j none).map (j,·))) l:=by
   intro l
   induction l with
   | nil=>exact List.Sublist.refl _
   | cons a r ih =>
    rw [List.filterMap_cons]
    cases (owner.getD a none) with
    | none=>exact ih.cons _
    | some k=>exact ih.cons₂ _
  exact (List.pairwise_lt_range (n:=mask + 1)).sublist (by simpa using this (List.range (mask + 1)))
theorem az2 {L:Bool} {t:SetTable} (es:Array (Int × Value)) (wanted:Nat) (J:JT L t):JT L (relayAll t es wanted).2.1:=by
 unfold relayAll
 cases q:t.relaid (es.map (·.1)) wanted with
 | none=>exact R5 _ J
 | some r =>
  obtain ⟨t',order⟩:=r
  dsimp only
  split
  ·unfold SetTable.relaid at q
   rw [J.led] at q
   exact a56 q
  ·exact R5 _ J
theorem au5 {L:Bool} {t:SetTable} (J:JT L t):JT L { t with plain:=false }:=⟨J.led,J.dum,J.mono⟩
theorem aE5 {xs:Array Nat} (mono:xs.toList.Pairwise (· < ·)) (k:Nat) (hk:k < xs.size):SetTable.below xs (xs[k] + 1) = k + 1:=by
 obtain ⟨h1,h2,h3⟩:=X9 xs (xs[k] + 1) mono
 have q1:¬ SetTable.below xs (xs[k] + 1) ≤ k:=fun q=>by
  have:=h3 k q hk
  rw [Array.getD_eq_getD_getElem?,Array.getElem?_eq_getElem hk,Option.getD_some] at this
  lia
 have q2:¬ k + 1 < SetTable.below xs (xs[k] + 1):=fun q=>by
  have hk1:k + 1 < xs.size:=by lia
  have:=h2 (k + 1) q
  rw [Array.getD_eq_getD_getElem?,Array.getElem?_eq_getElem hk1,Option.getD_some] at this
  have z:=List.pairwise_iff_getElem.mp mono k (k + 1) (by simpa using hk) (by simpa using hk1) (by lia)
  simp only [Array.getElem_toList] at z
  lia
 lia
theorem ax5 {xs:Array Nat} (mono:xs.toList.Pairwise (· < ·)):SetTable.below xs 0 = 0:=by
 obtain ⟨h1,h2,h3⟩:=X9 xs 0 mono
 rcases Nat.eq_zero_or_pos (SetTable.below xs 0) with h | h
 ·exact h
 ·exact absurd (h2 0 h) (by lia)
theorem X2 {α:Type}:∀ (l:List α) (i:Nat) (h:i < l.length),List.Perm (l[i] :: l.eraseIdx i) l
 | a :: l,0,_=>List.Perm.refl _
 | a :: l,i + 1,h=>(List.Perm.swap _ _ _).trans ((X2 l i (by simpa using h)).cons a)
theorem ai3 {α:Type} (next:Nat → Nat) (xs:Array α):List.Perm (pickOrder next xs).toList xs.toList:=by
 have go:∀ (fuel k:Nat) (left:List α) (out:Array α),left.length = fuel → List.Perm (pickOrder.go next fuel k left out).toList (out.toList ++ left):=by
  intro fuel
  induction fuel with
  | zero =>
   intro k left out h
   have e:left = []:=List.eq_nil_of_length_eq_zero h
   subst e
   simp [pickOrder.go]
  | succ fuel ih =>
   intro k left out h
   unfold pickOrder.go
   have hlt:next k % left.length < left.length:=Nat.mod_lt _ (by lia)
   rw [List.getElem?_eq_getElem hlt]
   dsimp only
   refine (ih (k + 1) _ _ (by rw [List.length_eraseIdx_of_lt hlt]; lia)).trans ?_
   rw [Array.toList_push,List.append_assoc]
   exact List.Perm.append_left _ (X2 left _ hlt)
 exact (go xs.size 0 xs.toList #[] (by simp)).trans (by simp)
end L2
namespace L2
open PySem
section
variable {prog:Program} {w:World} {κ:Type} [DecidableEq κ]
def M4 (knd:KeyKind prog w κ) (h:Heap) (a:Addr) (S:κ → Bool) (n:Nat):Prop :=
 ∃ o es ep t,h.get? a = some o ∧ o.ExactSet ∧ o.data = .set es ep t ∧ (ElemsOf knd es.toList ∧ (∀ k,S k = true ↔ ∃ e ∈ es.toList,knd.is k e.2 = true) ∧ es.size < scanBound ∧ t.fits es.size = true ∧ es.size = n) ∧ JT (!w.params.followText "set-order") t
variable {knd:KeyKind prog w κ} {A:Around} {E:Value → Shared → Prop} {s:Shared}
theorem M4.of_get {h h':Heap} {a:Addr} {S:κ → Bool} {n:Nat} (x:M4 knd h a S n) (k:∀ o,h.get? a = some o → h'.get? a = some o):M4 knd h' a S n:=by
 obtain ⟨o,es,ep,t,e,r⟩:=x
 exact ⟨o,es,ep,t,k o e,r⟩
theorem M4.congr {h:Heap} {a:Addr} {S S':κ → Bool} {n n':Nat} (x:M4 knd h a S n) (e:∀ k,S k = S' k) (en:n = n'):M4 knd h a S' n':=by
 obtain rfl:S = S':=funext e
 subst en
 exact x
theorem M4.new (h:Heap) {l:Bool} (hl:l = !w.params.followText "set-order"):M4 knd (h.push { cls:=.type "set",dict:=none,data:=.set #[] 0 (.fresh 0 0 l) }) h.objs.size (fun _=>false) 0:=by
 refine ⟨_,#[],0,_,Heap.get?_push_size _ rfl,⟨rfl,rfl,rfl⟩,rfl,⟨fun e he=>absurd he (by simp),fun k=>by simp,by decide,by simp [SetTable.fits,SetTable.fresh,SetTable.fill],rfl⟩,hl,rfl,?_⟩
 exact List.Pairwise.nil
theorem M4.store {h:Heap} {a:Addr} {o:Obj} {es es':Array (Int × Value)} {ep:Nat} {t t':SetTable} {S:κ → Bool} (ho:h.get? a = some o) (hx:o.ExactSet) (hd:o.data = .set es ep t)
  (el:ElemsOf knd es'.toList) (mem:∀ k,S k = true ↔ ∃ e ∈ es'.toList,knd.is k e.2 = true) (hb:es'.size < scanBound) (hf:t'.fits es'.size = true) (J:JT (!w.params.followText "set-order") t') :
  (h.update a (Obj.putSet es' t')).get? a = some { o with data:=.set es' (ep + 1) t' } ∧ M4 knd (h.update a (Obj.putSet es' t')) a S es'.size:=by
 have g:(h.update a (Obj.putSet es' t')).get? a = some { o with data:=.set es' (ep + 1) t' }:=(SetOf_store (knd:=knd) (S':=S) ho hx hd el mem hb hf).1
 exact ⟨g,_,es',ep + 1,t',g,hx,rfl,⟨el,mem,hb,hf,rfl⟩,J⟩
theorem aW2 {g:Bool → Sem Unit} (hg:∀ (b:Bool) (s₁:Shared) (Q':Unit → Shared → Prop),Q' () s₁ → wpAny (model prog w) A (g b) Q' E s₁)
  {a:Addr} {o:Obj} {es es1:Array (Int × Value)} {ep:Nat} {t t2:SetTable} {S:κ → Bool} {wd:Bool} {R:Option Bool → Shared → Prop} (ho:s.heap.get? a = some o) (hx:o.ExactSet) (hd:o.data = .set es ep t)
  (el:ElemsOf knd es1.toList) (mem:∀ k,S k = true ↔ ∃ e ∈ es1.toList,knd.is k e.2 = true) (hb:es1.size < scanBound) (hf:t2.fits es1.size = true) (J:JT (!w.params.followText "set-order") t2)
  (fin:∀ h',Heap.SameBut a s.heap h' → M4 knd h' a S es1.size → R (some true) { s with heap:=h' }) :
  wpAny (model prog w) A (do
    storeSet a es1 t2
    if (!wd && t2.tooFull) = true then do
      g (relayAll t2 es1 (SetTable.grown es1.size)).2.2
      storeSet a (relayAll t2 es1 (SetTable.grown es1.size)).1 (relayAll t2 es1 (SetTable.grown es1.size)).2.1
      pure (some true)
     else pure (some true)) R E s:=by
 obtain ⟨g1,x1⟩:=M4.store (knd:=knd) ho hx hd el mem hb hf J
 have sb1:=Heap.SameBut.update s.heap a (Obj.putSet es1 t2)
 refine wpAny_bind (wpAny_storeSet_of ho hd ?_ (fits_of_scanBound hb))
 by_cases c:(!wd && t2.tooFull) = true
 ·rw [if_pos c]
  have pm:=relayAll_perm t2 es1 (SetTable.grown es1.size)
  have ft:=relayAll_fits t2 es1 (SetTable.grown es1.size)
  have J2:=az2 (t:=t2) es1 (SetTable.grown es1.size) J
  generalize relayAll t2 es1 (SetTable.grown es1.size) = r at pm ft J2 ⊢
  obtain ⟨es2,t3,gave⟩:=r
  dsimp only at pm ft J2 ⊢
  have sz:es2.size = es1.size:=by simpa using pm.length_eq
  refine wpAny_bind (hg _ _ _ (wpAny_bind (wpAny_storeSet_of g1 rfl ?_ (by rw [sz]; exact fits_of_scanBound hb))))
  obtain ⟨_,x2⟩:=M4.store (knd:=knd) (S:=S) g1 hx rfl (el.perm pm) (fun k=>(mem k).trans ⟨fun ⟨e,he,q⟩=>⟨e,pm.mem_iff.mpr he,q⟩,fun ⟨e,he,q⟩=>⟨e,pm.mem_iff.mp he,q⟩⟩) (by rw [sz]; exact hb) ft J2
  rw [sz] at x2
  exact wpAny_pure (fin _ (sb1.trans (Heap.SameBut.update _ a _)) x2)
 ·rw [if_neg c]
  exact wpAny_pure (fin _ sb1 x1)
theorem bh0 {a:Addr} {S:κ → Bool} {n:Nat} {k:κ} {x:Value} {Q:Bool → Shared → Prop} (hk:knd.is k x = true) (hsc:x.scannable = true) (hS:M4 knd s.heap a S n) (room:n + 1 < scanBound)
  (fin:∀ h',Heap.SameBut a s.heap h' → M4 knd h' a (fun k'=>S k' || decide (k' = k)) (if S k then n else n + 1) → Q (!S k) { s with heap:=h' }) :
  wpAny (model prog w) A (setAddHashed a x (knd.hash k)) Q E s:=by
 obtain ⟨o,es,ep,t,ho,hx,hd,⟨el,mem,hb,hf,hn⟩,J⟩:=hS
 have quiet:∀ (b:Bool) (s₁:Shared) (Q':Unit → Shared → Prop),Q' () s₁ → wpAny (model prog w) A (match b with | true=>rule "set.scan.the-table-gave-way" | false=>pure ()) Q' E s₁:=fun b s₁ Q' z=>by
  cases b
  ·exact wpAny_pure z
  ·exact wpAny_rule z
 unfold setAddHashed setAddHashedIn
 refine wpAny_holding (wpAny_bind (wpAny_setState_of ho hd hf ?_))
 dsimp only
 rw [if_pos (byScan_of hsc hb el)]
 unfold setAddByScan
 refine wpAny_bind (wpAny_bind (wpAny_rule (wpAny_bind (wpAny_setScan_of hk ho hd hf el ?_))))
 cases found:List.findIdx? (fun e=>knd.is k e.2) es.toList with
 | some j =>
  obtain ⟨hj,pj,_⟩:=List.findIdx?_eq_some_iff_getElem.mp found
  have there:S k = true:=(mem k).mpr ⟨_,List.getElem_mem hj,pj⟩
  dsimp only
  refine wpAny_pure (wpAny_pure ?_)
  have z:=fin s.heap (Heap.SameBut.refl a s.heap) ⟨o,es,ep,t,ho,hx,hd,⟨el,fun k'=>?_,hb,hf,by rw [there]; exact hn⟩,J⟩
  ·rw [there] at z
   exact z
  ·rw [← mem k',Bool.or_eq_true,decide_eq_true_eq]
   exact ⟨fun q=>q.elim id fun e=>by rw [e]; exact there,.inl⟩
 | none =>
  have away:S k = false:=by
   cases q:S k with
   | false=>rfl
   | true =>
    obtain ⟨e,he,pe⟩:=(mem k).mp q
    exact absurd pe (by simpa using List.findIdx?_eq_none_iff.mp found e he)
  dsimp only
  have pm:=layNew_perm t es (knd.hash k) x
  have ft:=layNew_fits t es (knd.hash k) x
  have J1:=aO1 es (knd.hash k) x J
  generalize layNew t es (knd.hash k) x = r at pm ft J1 ⊢
  obtain ⟨es1,t1,wd,gave⟩:=r
  dsimp only at pm ft J1 ⊢
  rw [Array.toList_push] at pm
  have sz:es1.size = n + 1:=by
   have:=pm.length_eq
   rw [List.length_append] at this
   simp at this
   lia
  have last:∀ h',Heap.SameBut a s.heap h' → M4 knd h' a (fun k'=>S k' || decide (k' = k)) es1.size → Q true { s with heap:=h' }:=fun h' sb q=>by
   have z:=fin h' sb
   rw [away] at z
   rw [sz] at q
   exact z q
  have go:∀ t2:SetTable,t2.fits es1.size = true → JT (!w.params.followText "set-order") t2 → ∀ (R:Option Bool → Shared → Prop),(∀ h',Heap.SameBut a s.heap h' → M4 knd h' a (fun k'=>S k' || decide (k' = k)) es1.size → R (some true) { s with heap:=h' }) → wpAny (model prog w) A (do
    storeSet a es1 t2
    if (!wd && t2.tooFull) = true then do
      (match (relayAll t2 es1 (SetTable.grown es1.size)).2.2 with | true=>rule "set.scan.the-table-gave-way" | false=>pure ())
      storeSet a (relayAll t2 es1 (SetTable.grown es1.size)).1 (relayAll t2 es1 (SetTable.grown es1.size)).2.1
      pure (some true)
     else pure (some true)) R E s:=fun t2 f2 J2 R hR =>
   aW2 quiet ho hx hd ((el.push hk hsc).perm pm) (mem_push_iff hk mem pm) (by rw [sz]; exact room) f2 J2 hR
  refine wpAny_bind (quiet _ _ _ ?_)
  by_cases c:t1.plain = true
  ·rw [if_pos c]
   refine wpAny_bind ?_
   rw [hashByValue_scannable 8 hsc]
   refine wpAny_pure ?_
   refine go _ ?_ ?_ _ fun h' sb q=>wpAny_pure (last h' sb q)
   ·split
    ·exact ft
    ·exact SetTable.fits_plain_off ft
   ·split
    ·exact J1
    ·exact au5 J1
  ·rw [if_neg c]
   refine wpAny_bind (wpAny_pure ?_)
   rw [if_pos rfl]
   exact go _ ft J1 _ fun h' sb q=>wpAny_pure (last h' sb q)
end
end L2
namespace L2
open PySem
theorem u9:Slot "set_iterator" "__next__" "set_iterator.__next__" :=
 .of (owner:="set_iterator") (n:="__next__") (by rw [typeLookup_type,builtinLookup_eq_fast]; kernel_rfl)
  (by decide +kernel) (by decide +kernel) (by decide +kernel)
  (by first | exact .inl (by decide +kernel) | exact .inr (by decide +kernel)) (by rw [isSubtype_type]; kernel_rfl)
theorem S3:Slot "set_iterator" "__iter__" "set_iterator.__iter__" :=
 .of (owner:="set_iterator") (n:="__iter__") (by rw [typeLookup_type,builtinLookup_eq_fast]; kernel_rfl)
  (by decide +kernel) (by decide +kernel) (by decide +kernel)
  (by first | exact .inl (by decide +kernel) | exact .inr (by decide +kernel)) (by rw [isSubtype_type]; kernel_rfl)
theorem E5:entryFor table "set_iterator.__next__" = some Builtin.«set_iterator.__next__»:=entryFor_of_fast (by kernel_rfl)
theorem ac7:entryFor table "set_iterator.__iter__" = some Builtin.«dict_keyiterator.__iter__» :=
 entryFor_alias (id':="dict_keyiterator.__iter__") (by kernel_rfl)
  (by first | rfl | decide +kernel | (unfold String.splitOn; simp +decide [String.splitOnAux])) (by decide +kernel) (by kernel_rfl)
theorem ae5:entryFor table "set.__iter__" = some Builtin.«frozenset.__iter__» :=
 entryFor_alias (id':="frozenset.__iter__") (by kernel_rfl)
  (by first | rfl | decide +kernel | (unfold String.splitOn; simp +decide [String.splitOnAux])) (by decide +kernel) (by kernel_rfl)
theorem F5 (a:Value):argsOk "set_iterator.__next__" ⟨[a],[]⟩:=by unfold argsOk; kernel_rfl
theorem ad9 (a:Value):argsOk "set_iterator.__iter__" ⟨[a],[]⟩:=by unfold argsOk; kernel_rfl
abbrev W6 (first:Value) (i:Nat) (a:Addr) (n ep:Nat):Obj:={ cls:=.type "set_iterator",dict:=none,data:=.fields #[first,.int i 0,.ref a,.int n 0,.int ep 0],slots:=#[] }
section
variable {prog:Program} {w:World} {A:Around} {E:Value → Shared → Prop} {s:Shared} {a I:Addr} {o:Obj} {es:Array (Int × Value)} {ep:Nat} {t:SetTable}
theorem af4 {Q:Bool → Shared → Prop} (h:Q (w.params.followText "set-order") s):wpAny (model prog w) A setsByText Q E s:=wpAny_bind (wpAny_askSetting (wpAny_pure h))
theorem as2 {Q:Array (Int × Value) → Shared → Prop} (ht:w.params.followText "set-order" = true) (ho:s.heap.get? a = some o) (hd:o.data = .set es ep t) (hf:t.fits es.size = true)
  (h:Q (pickOrder (w.params.setOrder a ep) es) s):wpAny (model prog w) A (setWalk a) Q E s:=by
 unfold setWalk
 refine wpAny_bind (wpAny_setState_of ho hd hf ?_)
 dsimp only
 refine wpAny_bind (af4 ?_)
 rw [ht]
 simp only [if_true]
 exact wpAny_bind (wpAny_askSetting (wpAny_pure h))
theorem aq1 {sl k:Nat} {Q:Option (Value × Nat) → Shared → Prop} (ht:w.params.followText "set-order" = true) (ho:s.heap.get? a = some o) (hd:o.data = .set es ep t) (hf:t.fits es.size = true)
  (h:Q (((pickOrder (w.params.setOrder a ep) es)[k]?).map fun e=>(e.2,sl)) s):wpAny (model prog w) A (setNext a sl k ep) Q E s:=by
 unfold setNext
 refine wpAny_bind (wpAny_setState_of ho hd hf ?_)
 dsimp only
 refine wpAny_bind (af4 ?_)
 rw [ht]
 simp only [if_true,bne_self_eq_false,Bool.false_eq_true,if_false]
 exact wpAny_bind (as2 ht ho hd hf (wpAny_pure h))
theorem ak4 {sl k:Nat} {Q:Option (Value × Nat) → Shared → Prop} (ht:w.params.followText "set-order" = false) (ho:s.heap.get? a = some o) (hd:o.data = .set es ep t) (hf:t.fits es.size = true) (J:JT true t)
  (hp:(!t.plain && decide (es.size > 1)) = false) (hs:SetTable.below t.place sl = k)
  (h:Q (match es[k]?,t.place[k]? with | some (_,x),some j=>some (x,j + 1) | _,_=>none) s):wpAny (model prog w) A (setNext a sl k ep) Q E s:=by
 unfold setNext
 refine wpAny_bind (wpAny_setState_of ho hd hf ?_)
 dsimp only
 refine wpAny_bind (af4 ?_)
 rw [ht]
 simp only [Bool.false_eq_true,if_false]
 show wpAny _ _ (if (!t.plain && decide (es.size > 1)) = true then unsupported _ else _) _ _ s
 rw [hp]
 simp only [Bool.false_eq_true,if_false]
 refine wpAny_bind ?_
 show wpAny _ _ (if (!t.led && !es.isEmpty) = true then unsupported _ else pure ()) _ _ s
 rw [J.led]
 simp only [Bool.not_true,Bool.false_and,Bool.false_eq_true,if_false]
 refine wpAny_pure ?_
 rw [hs]
 exact wpAny_pure h
theorem M5 {Q:Array (Int × Value) → Shared → Prop} (ho:s.heap.get? a = some o) (hd:o.data = .set es ep t) (hf:t.fits es.size = true) (h:Q es s):wpAny (model prog w) A (setEntries a) Q E s:=by
 unfold setEntries
 exact wpAny_bind (wpAny_setState_of ho hd hf (wpAny_pure h))
theorem aG5 {slot:Nat → Nat} {k n:Nat} {x:Value} {Q:Option Value → Shared → Prop} (hI:s.heap.get? I = some (W6 (.int (slot k:Nat) 0) k a n ep)) (ho:s.heap.get? a = some o) (hd:o.data = .set es ep t) (hf:t.fits es.size = true) (hn:es.size = n)
  (hnx:∀ (B:Around) (Q':Option (Value × Nat) → Shared → Prop) (E':Value → Shared → Prop),Q' (some (x,slot (k + 1))) s → wpAny (model prog w) B (setNext a (slot k) k ep) Q' E' s)
  (hQ:∀ h',h'.get? I = some (W6 (.int (slot (k + 1):Nat) 0) (k + 1) a n ep) → Heap.SameBut I s.heap h' → Q (some x) { s with heap:=h' }):wpAny (model prog w) A (pyNext (.ref I)) Q E s:=by
 have hT:s.TypeIs (.ref I) "set_iterator":=⟨_,hI,rfl⟩
 unfold pyNext
 refine wpAny_bind (wpAny_attempt (wpAny_callSpecial?_slot (name:=Str.ofString "__next__") hT u9
  (wpAny_call_entry u9 hT E5 ?_ (F5 _))))
 show wpAny _ _ (fieldsOf (.ref I) >>= _) _ _ s
 refine wpAny_bind (wpAny_fieldsOf hI rfl ?_)
 show wpAny _ _ (setEntries a >>= _) _ _ s
 refine wpAny_bind (M5 ho hd hf ?_)
 rw [hn]
 simp only [bne_self_eq_false,Bool.false_eq_true,if_false]
 show wpAny _ _ (setNext a ((slot k:Nat):Int).toNat ((k:Nat):Int).toNat ((ep:Nat):Int).toNat >>= _) _ _ s
 simp only [Int.toNat_natCast]
 refine wpAny_bind (hnx _ _ _ ?_)
 dsimp only
 refine wpAny_bind (wpAny_setField_rec hI (by simp) fun h1 g1 s1=>?_)
 refine wpAny_bind (wpAny_setField_rec g1 (by simp) fun h2 g2 s2=>wpAny_pure ⟨x,rfl,wpAny_pure (hQ h2 ?_ (s1.trans s2))⟩)
 rw [g2]
 simp [rawInt]
theorem am1 {α:Type} {h1:Heap} {Q:Option Value → Shared → Prop} (hh:A.handled = none) (hQ:∀ h',(∀ b ob,h1.get? b = some ob → h'.get? b = some ob) → Q none { s with heap:=h' }) :
  wpAny (model prog w) A.in1 (newExc (.type "StopIteration") [] >>= fun e=>(raiseNew e:Sem α)) (fun _ _=>False)
   (fun e s'=>wpAny (model prog w) A (do if ← isInstance e (.type "StopIteration") then pure none else throw e) Q E s') { s with heap:=h1 }:=by
 refine wpAny_bind ?_
 simp only [newExc,newTuple]
 refine wpAny_bind (wpAny_newObj_type ?_ (by size_fits))
 refine wpAny_bind (m:=firstArgMember _ _) (wpAny_of_eq (a:=Value.none) (by first | rfl | (simp only [firstArgMember]; rfl)) ?_)
 refine wpAny_newObj_type ?_ (by size_fits)
 simp only [raiseNew]
 refine wpAny_bind (wpAny_handled ?_)
 rw [show A.in1.handled = none from hh]
 refine wpAny_bind (wpAny_pure (wpAny_throw ?_))
 refine wpAny_bind (wpAny_isInstance (T:="StopIteration") (b:=true) ⟨_,Heap.get?_push_size _ rfl,rfl⟩ isSubtype_stop ?_)
 exact wpAny_pure (hQ _ fun b ob e=>Heap.get?_push_of_some _ (Heap.get?_push_of_some _ e))
theorem aD6 {first:Nat} {k n:Nat} {Q:Option Value → Shared → Prop} (hh:A.handled = none) (hI:s.heap.get? I = some (W6 (.int (first:Nat) 0) k a n ep)) (ho:s.heap.get? a = some o) (hd:o.data = .set es ep t) (hf:t.fits es.size = true) (hn:es.size = n)
  (hnx:∀ (B:Around) (Q':Option (Value × Nat) → Shared → Prop) (E':Value → Shared → Prop),Q' none s → wpAny (model prog w) B (setNext a first k ep) Q' E' s)
  (hQ:∀ h',(∀ b ob,b ≠ I → s.heap.get? b = some ob → h'.get? b = some ob) → Q none { s with heap:=h' }):wpAny (model prog w) A (pyNext (.ref I)) Q E s:=by
 have hT:s.TypeIs (.ref I) "set_iterator":=⟨_,hI,rfl⟩
 unfold pyNext
 refine wpAny_bind (wpAny_attempt (wpAny_callSpecial?_slot (name:=Str.ofString "__next__") hT u9
  (wpAny_call_entry u9 hT E5 ?_ (F5 _))))
 show wpAny _ _ (fieldsOf (.ref I) >>= _) _ _ s
 refine wpAny_bind (wpAny_fieldsOf hI rfl ?_)
 show wpAny _ _ (setEntries a >>= _) _ _ s
 refine wpAny_bind (M5 ho hd hf ?_)
 rw [hn]
 simp only [bne_self_eq_false,Bool.false_eq_true,if_false]
 show wpAny _ _ (setNext a ((first:Nat):Int).toNat ((k:Nat):Int).toNat ((ep:Nat):Int).toNat >>= _) _ _ s
 simp only [Int.toNat_natCast]
 refine wpAny_bind (hnx _ _ _ ?_)
 dsimp only
 refine wpAny_bind (wpAny_setField_rec hI (by simp) fun h1 g1 s1=>?_)
 refine wpAny_mono (am1 (Q:=Q) (E:=E) hh fun h' kp=>hQ h' fun b ob hb e=>kp b ob (s1.extBut b ob hb e)) (fun _ _ z=>z.elim) fun e s' z=>z
theorem aZ8 {src:Source} {n:Nat} {Q:Nat → Shared → Prop} (hn:n ≠ 0) (h:∀ i d,i < n → Q i { s with drawn:=d }):wpAny (model prog w) A (choose src n) Q E s :=
 fun _ _ _=>⟨hn,h _ _ (Nat.mod_lt _ (Nat.pos_of_ne_zero hn))⟩
theorem aC1 {α:Type}:∀ (n:Nat) (xs:List α) (s:Shared) {Q:List α → Shared → Prop},xs.length = n → (∀ ys d,ys.Perm xs → Q ys { s with drawn:=d }) → wpAny (model prog w) A (drawOrder n xs) Q E s:=by
 intro n
 induction n with
 | zero =>
  intro xs s Q hn h
  obtain rfl:xs = []:=List.eq_nil_of_length_eq_zero hn
  exact wpAny_pure (h [] s.drawn (List.Perm.refl _))
 | succ n ih =>
  intro xs s Q hn h
  match xs,hn with
  | x :: r,hn =>
   show wpAny _ _ (choose .order (x :: r).length >>= _) _ _ s
   refine wpAny_bind (aZ8 (by simp) fun i d hi=>?_)
   rw [List.getElem?_eq_getElem hi]
   dsimp only
   refine wpAny_bind (ih _ _ (by rw [List.length_eraseIdx_of_lt hi]; lia) fun ys d' pm=>wpAny_pure (h _ d' ((pm.cons _).trans (X2 (x :: r) i hi))))
theorem aL0 {Q:Bool → Shared → Prop} (ho:s.heap.get? a = some o) (hd:o.data = .set es ep t) (hf:t.fits es.size = true) (h:Q (!w.params.followText "set-order" && (!t.plain && decide (es.size > 1))) s):wpAny (model prog w) A (setDrawn a) Q E s:=by
 unfold setDrawn
 refine wpAny_bind (wpAny_setState_of ho hd hf ?_)
 dsimp only
 exact wpAny_bind (af4 (wpAny_pure h))
theorem av0 {T:Addr} {ps:List Nat} {k n p:Nat} {x:Value} {h0:Int} {Q:Option Value → Shared → Prop} (hI:s.heap.get? I = some (W6 (.ref T) k a n ep)) (hTu:s.heap.get? T = some { cls:=.type "tuple",data:=.seq (ps.map fun (i:Nat)=>rawInt i).toArray })
  (ho:s.heap.get? a = some o) (hd:o.data = .set es ep t) (hf:t.fits es.size = true) (hn:es.size = n) (hp:ps[k]? = some p) (hx:es[p]? = some (h0,x))
  (hQ:∀ h',h'.get? I = some (W6 (.ref T) (k + 1) a n ep) → Heap.SameBut I s.heap h' → Q (some x) { s with heap:=h' }):wpAny (model prog w) A (pyNext (.ref I)) Q E s:=by
 have hT:s.TypeIs (.ref I) "set_iterator":=⟨_,hI,rfl⟩
 unfold pyNext
 refine wpAny_bind (wpAny_attempt (wpAny_callSpecial?_slot (name:=Str.ofString "__next__") hT u9
  (wpAny_call_entry u9 hT E5 ?_ (F5 _))))
 show wpAny _ _ (fieldsOf (.ref I) >>= _) _ _ s
 refine wpAny_bind (wpAny_fieldsOf hI rfl ?_)
 show wpAny _ _ (setEntries a >>= _) _ _ s
 refine wpAny_bind (M5 ho hd hf ?_)
 rw [hn]
 simp only [bne_self_eq_false,Bool.false_eq_true,if_false]
 show wpAny _ _ (seqItems? (.ref T) >>= _) _ _ s
 refine wpAny_bind (wpAny_seqItems hTu rfl ?_)
 dsimp only
 have e:(ps.map fun (i:Nat)=>rawInt i).toArray[((k:Nat):Int).toNat]? = some (.int (p:Nat) 0):=by
  rw [Int.toNat_natCast,List.getElem?_toArray,List.getElem?_map,hp]
  rfl
 rw [e]
 dsimp only
 show wpAny _ _ (setNextDrawn a ((p:Nat):Int).toNat ((ep:Nat):Int).toNat >>= _) _ _ s
 simp only [Int.toNat_natCast]
 unfold setNextDrawn
 refine wpAny_bind (wpAny_bind (wpAny_setState_of ho hd hf ?_))
 dsimp only
 simp only [bne_self_eq_false,Bool.false_eq_true,if_false,hx]
 refine wpAny_pure ?_
 refine wpAny_bind (wpAny_setField_rec hI (by simp) fun h2 g2 s2=>wpAny_pure ⟨x,rfl,wpAny_pure (hQ h2 ?_ s2)⟩)
 rw [g2]
 simp [rawInt]
theorem ax0 {T:Addr} {ps:List Nat} {k n:Nat} {Q:Option Value → Shared → Prop} (hh:A.handled = none) (hI:s.heap.get? I = some (W6 (.ref T) k a n ep)) (hTu:s.heap.get? T = some { cls:=.type "tuple",data:=.seq (ps.map fun (i:Nat)=>rawInt i).toArray })
  (ho:s.heap.get? a = some o) (hd:o.data = .set es ep t) (hf:t.fits es.size = true) (hn:es.size = n) (hp:ps[k]? = none)
  (hQ:∀ h',(∀ b ob,b ≠ I → s.heap.get? b = some ob → h'.get? b = some ob) → Q none { s with heap:=h' }):wpAny (model prog w) A (pyNext (.ref I)) Q E s:=by
 have hT:s.TypeIs (.ref I) "set_iterator":=⟨_,hI,rfl⟩
 unfold pyNext
 refine wpAny_bind (wpAny_attempt (wpAny_callSpecial?_slot (name:=Str.ofString "__next__") hT u9
  (wpAny_call_entry u9 hT E5 ?_ (F5 _))))
 show wpAny _ _ (fieldsOf (.ref I) >>= _) _ _ s
 refine wpAny_bind (wpAny_fieldsOf hI rfl ?_)
 show wpAny _ _ (setEntries a >>= _) _ _ s
 refine wpAny_bind (M5 ho hd hf ?_)
 rw [hn]
 simp only [bne_self_eq_false,Bool.false_eq_true,if_false]
 show wpAny _ _ (seqItems? (.ref T) >>= _) _ _ s
 refine wpAny_bind (wpAny_seqItems hTu rfl ?_)
 dsimp only
 have e:(ps.map fun (i:Nat)=>rawInt i).toArray[((k:Nat):Int).toNat]? = none:=by
  rw [Int.toNat_natCast,List.getElem?_toArray,List.getElem?_map,hp]
  rfl
 rw [e]
 dsimp only
 refine wpAny_bind (wpAny_setField_rec hI (by simp) fun h1 g1 s1=>?_)
 refine wpAny_bind (wpAny_setField_rec g1 (by simp) fun h2 g2 s2=>?_)
 refine wpAny_mono (am1 (Q:=Q) (E:=E) hh fun h' kp=>hQ h' fun b ob hb e=>kp b ob (s2.extBut b ob hb (s1.extBut b ob hb e))) (fun _ _ z=>z.elim) fun e s' z=>z
theorem aj6 {first:Value} {k n:Nat} {Q:Value → Shared → Prop} (hI:s.heap.get? I = some (W6 first k a n ep)) (h:Q (.ref I) s):wpAny (model prog w) A (pyIter (.ref I)) Q E s:=by
 have hT:s.TypeIs (.ref I) "set_iterator":=⟨_,hI,rfl⟩
 refine wpAny_pyIter_slot hT S3 (wpAny_call_entry S3 hT ac7 ?_ (ad9 _))
 show wpAny _ _ (ret (.ref I)) _ _ s
 exact wpAny_pure ⟨_,rfl,"set_iterator",_,hT,u9.lookup,h⟩
def aX1 (prog:Program) (w:World) (A:Around) (a I N:Addr) (n:Nat) (xs:List Value) (s:Shared):Prop :=
 ∃ (fp:List Addr) (St:Nat → Shared → Prop),WalksS prog w A I fp [I] (fun a b=>b = a) n (fun i v=>xs[i]? = some v) St ∧ St 0 s ∧ (∀ b ∈ fp,(b = a ∨ N ≤ b) ∧ b < s.heap.objs.size) ∧ I ∈ fp
theorem aK8 {slot:Nat → Nat} {n:Nat} {xs:List Value} (hh:A.handled = none) (hne:a ≠ I) (hd:o.data = .set es ep t) (hf:t.fits es.size = true) (hn:es.size = n) (hxs:xs.length = n)
  (step:∀ (k:Nat) (s:Shared) (B:Around) (Q':Option (Value × Nat) → Shared → Prop) (E':Value → Shared → Prop),k ≤ n → s.heap.get? a = some o → Q' ((xs[k]?).map fun x=>(x,slot (k + 1))) s → wpAny (model prog w) B (setNext a (slot k) k ep) Q' E' s) :
  WalksS prog w A I [I,a] [I] (fun a b=>b = a) n (fun i v=>xs[i]? = some v) (fun k s=>s.heap.get? I = some (W6 (.int (slot k:Nat) 0) k a n ep) ∧ s.heap.get? a = some o) where
 sub:=fun b hb=>by simp at hb; simp [hb]
 grefl:=fun _=>rfl
 gtrans:=fun _ _ _ p q=>q.trans p
 frame:=fun i s h' tk st _ kp=>⟨kp I (by simp) _ st.1,kp a (by simp) _ st.2⟩
 item:=fun i s Q E hi st hQ=>by
  have hx:xs[i]? = some (xs[i]'(by lia)):=List.getElem?_eq_getElem (by lia)
  refine aG5 (x:=xs[i]'(by lia)) st.1 st.2 hd hf hn (fun B Q' E' q=>step i s B Q' E' (by lia) st.2 (by rw [hx]; exact q)) fun h' g sb=>?_
  exact hQ _ _ hx ⟨g,sb.extBut a o hne st.2⟩ ⟨fun b ob hb e=>sb.extBut b ob (fun z=>hb (by simp [z])) e,rfl,rfl,rfl,Nat.le_refl _⟩
 done:=fun s Q E st hQ=>by
  have hx:xs[n]? = none:=List.getElem?_eq_none (by lia)
  refine aD6 hh st.1 st.2 hd hf hn (fun B Q' E' q=>step n s B Q' E' (Nat.le_refl _) st.2 (by rw [hx]; exact q)) fun h' kp=>?_
  exact hQ _ ⟨fun b ob hb e=>kp b ob (fun z=>hb (by simp [z])) e,rfl,rfl,rfl,Nat.le_refl _⟩
 self:=fun i s Q E st q=>aj6 st.1 q
theorem av2 {T:Addr} {ps:List Nat} {n:Nat} {xs:List Value} (hh:A.handled = none) (hne:a ≠ I) (hnT:T ≠ I) (hd:o.data = .set es ep t) (hf:t.fits es.size = true) (hn:es.size = n) (hps:ps.length = n)
  (hx:∀ (k p:Nat),ps[k]? = some p → ∃ h0 x,es[p]? = some (h0,x) ∧ xs[k]? = some x) :
  WalksS prog w A I [I,a,T] [I] (fun a b=>b = a) n (fun i v=>xs[i]? = some v) (fun k s=>s.heap.get? I = some (W6 (.ref T) k a n ep) ∧ s.heap.get? a = some o ∧ s.heap.get? T = some { cls:=.type "tuple",data:=.seq (ps.map fun (i:Nat)=>rawInt i).toArray }) where
 sub:=fun b hb=>by simp at hb; simp [hb]
 grefl:=fun _=>rfl
 gtrans:=fun _ _ _ p q=>q.trans p
 frame:=fun i s h' tk st _ kp=>⟨kp I (by simp) _ st.1,kp a (by simp) _ st.2.1,kp T (by simp) _ st.2.2⟩
 item:=fun i s Q E hi st hQ=>by
  have hp:ps[i]? = some (ps[i]'(by lia)):=List.getElem?_eq_getElem (by lia)
  obtain ⟨h0,x,e1,e2⟩:=hx i _ hp
  refine av0 st.1 st.2.2 st.2.1 hd hf hn hp e1 fun h' g sb=>?_
  exact hQ _ _ e2 ⟨g,sb.extBut a o hne st.2.1,sb.extBut T _ hnT st.2.2⟩ ⟨fun b ob hb e=>sb.extBut b ob (fun z=>hb (by simp [z])) e,rfl,rfl,rfl,Nat.le_refl _⟩
 done:=fun s Q E st hQ=>by
  refine ax0 hh st.1 st.2.2 st.2.1 hd hf hn (List.getElem?_eq_none (by lia)) fun h' kp=>?_
  exact hQ _ ⟨fun b ob hb e=>kp b ob (fun z=>hb (by simp [z])) e,rfl,rfl,rfl,Nat.le_refl _⟩
 self:=fun i s Q E st q=>aj6 st.1 q
theorem aE9 {Q:Value → Shared → Prop} (ho:s.heap.get? a = some o) (hx:o.ExactSet) (hd:o.data = .set es ep t) (hf:t.fits es.size = true) (J:JT (!w.params.followText "set-order") t) (hz:es.size ≤ sizeLine)
  (hQ:∀ (I:Addr) (xs:List Value) (h':Heap) (d),xs.Perm (es.toList.map (·.2)) → s.heap.objs.size ≤ I → (∀ b ob,s.heap.get? b = some ob → h'.get? b = some ob) →
   (∀ B:Around,B.handled = none → aX1 prog w B a I s.heap.objs.size es.size xs { s with heap:=h',drawn:=d }) → Q (.ref I) { s with heap:=h',drawn:=d }):wpAny (model prog w) A (pyIter (.ref a)) Q E s:=by
 have hT:s.TypeIs (.ref a) "set":=⟨o,ho,hx.1⟩
 have hal:a < s.heap.objs.size:=Heap.lt_size ho
 refine wpAny_pyIter_slot hT F.slot_set_iter (wpAny_call_entry F.slot_set_iter hT ae5 ?_ (F.args_set_iter_1 _))
 show wpAny _ _ (Builtin.Frozenset.sizeOf a >>= _) _ _ s
 refine wpAny_bind (wpAny_bind (M5 ho hd hf (wpAny_pure ?_)))
 refine wpAny_bind (aL0 ho hd hf ?_)
 by_cases c:(!w.params.followText "set-order" && (!t.plain && decide (es.size > 1))) = true
 ·rw [c]
  simp only [if_true]
  refine wpAny_bind (aC1 es.size (List.range es.size) s (by simp) fun ps d pm=>?_)
  have hps:ps.length = es.size:=by simpa using pm.length_eq
  simp only [newTuple]
  refine wpAny_bind (wpAny_newObj_type ?_ ?_)
  case refine_2 =>
   show (List.map (fun (i:Nat)=>rawInt i) ps).toArray.size ≤ sizeLine
   rw [List.size_toArray,List.length_map,hps]
   exact hz
  have ho':(s.heap.push { cls:=.type "tuple",data:=.seq (ps.map fun (i:Nat)=>rawInt i).toArray }).get? a = some o:=Heap.get?_push_of_some _ ho
  refine wpAny_bind (wpAny_setEpoch_of ho' hd hf ?_)
  refine wpAny_bind (wpAny_newObj_type ?_)
  have eI:(s.heap.push { cls:=.type "tuple",data:=.seq (ps.map fun (i:Nat)=>rawInt i).toArray }).objs.size = s.heap.objs.size + 1:=Heap.size_push ..
  refine wpAny_pure ⟨_,rfl,"set_iterator",_,⟨_,Heap.get?_push_size _ rfl,rfl⟩,u9.lookup,?_⟩
  refine hQ _ ((ps.map fun p=>(es[p]?).map (·.2)).filterMap id) _ d ?_ (by rw [eI]; exact Nat.le_succ _) (fun b ob e=>Heap.get?_push_of_some _ (Heap.get?_push_of_some _ e)) fun B hB=>?_
  ·refine ((pm.map _).filterMap _).trans ?_
   rw [List.filterMap_map]
   have:(List.range es.size).filterMap (id ∘ fun p=>(es[p]?).map (·.2)) = ((List.range es.size).filterMap fun p=>es[p]?).map (·.2):=by
    rw [List.map_filterMap]
    rfl
   rw [this,filterMap_getElem?_range]
  ·have key:∀ (l:List Nat),(∀ p ∈ l,p < es.size) → ∀ (k p:Nat),l[k]? = some p → ∃ h0 x,es[p]? = some (h0,x) ∧ ((l.map fun p=>(es[p]?).map (·.2)).filterMap id)[k]? = some x:=by
    intro l
    induction l with
    | nil=>intro _ k p e; simp at e
    | cons q r ih =>
     intro hl k p e
     have hq:=hl q List.mem_cons_self
     have eq:es[q]? = some es[q]:=Array.getElem?_eq_getElem hq
     have e2:((q :: r).map fun p=>(es[p]?).map (·.2)).filterMap id = es[q].2 :: (r.map fun p=>(es[p]?).map (·.2)).filterMap id:=by
      rw [List.map_cons,eq]
      rfl
     rw [e2]
     cases k with
     | zero =>
      have:q = p:=by simpa using e
      subst this
      exact ⟨es[q].1,es[q].2,eq,rfl⟩
     | succ k=>exact ih (fun p hp=>hl p (List.mem_cons_of_mem _ hp)) k p (by simpa using e)
   refine ⟨_,_,av2 (o:=o) (T:=s.heap.objs.size) (ps:=ps) hB (by rw [eI]; exact Nat.ne_of_lt (Nat.lt_succ_of_lt hal)) (by rw [eI]; exact Nat.ne_of_lt (Nat.lt_succ_self _)) hd hf rfl hps (key ps fun p hp=>by simpa using pm.mem_iff.mp hp),⟨Heap.get?_push_size _ rfl,Heap.get?_push_of_some _ ho',Heap.get?_push_of_some _ (Heap.get?_push_size _ rfl)⟩,fun b hb=>?_,by simp⟩
   simp only [List.mem_cons,List.not_mem_nil,or_false] at hb
   rw [Heap.size_push]
   rcases hb with rfl | rfl | rfl
   ·exact ⟨.inr (by rw [eI]; exact Nat.le_succ _),Nat.lt_succ_self _⟩
   ·exact ⟨.inl rfl,by rw [eI]; exact Nat.lt_succ_of_lt (Nat.lt_succ_of_lt hal)⟩
   ·exact ⟨.inr (Nat.le_refl _),by rw [eI]; exact Nat.lt_succ_of_lt (Nat.lt_succ_self _)⟩
 ·rw [Bool.eq_false_iff.mpr c]
  simp only [Bool.false_eq_true,if_false]
  refine wpAny_bind (wpAny_pure (wpAny_bind (wpAny_setEpoch_of ho hd hf ?_)))
  refine wpAny_bind (wpAny_newObj_type ?_)
  refine wpAny_pure ⟨_,rfl,"set_iterator",_,⟨_,Heap.get?_push_size _ rfl,rfl⟩,u9.lookup,?_⟩
  have hne:a ≠ s.heap.objs.size:=Nat.ne_of_lt hal
  have go:∀ (slot:Nat → Nat) (xs:List Value),slot 0 = 0 → xs.Perm (es.toList.map (·.2)) → (∀ (k:Nat) (s:Shared) (B:Around) (Q':Option (Value × Nat) → Shared → Prop) (E':Value → Shared → Prop),k ≤ es.size → s.heap.get? a = some o → Q' ((xs[k]?).map fun x=>(x,slot (k + 1))) s → wpAny (model prog w) B (setNext a (slot k) k ep) Q' E' s) →
    Q (.ref s.heap.objs.size) { s with heap:=s.heap.push (W6 (rawInt 0) 0 a es.size ep) }:=fun slot xs h0 pm step=>by
   refine hQ _ xs _ s.drawn pm (Nat.le_refl _) (fun b ob e=>Heap.get?_push_of_some _ e) fun B hB=>⟨_,_,aK8 (slot:=slot) hB hne hd hf rfl (by simpa using pm.length_eq) step,⟨?_,Heap.get?_push_of_some _ ho⟩,fun b hb=>?_,by simp⟩
   ·rw [h0]
    exact Heap.get?_push_size _ rfl
   ·simp only [List.mem_cons,List.not_mem_nil,or_false] at hb
    rw [Heap.size_push]
    rcases hb with rfl | rfl
    ·exact ⟨.inr (Nat.le_refl _),Nat.lt_succ_self _⟩
    ·exact ⟨.inl rfl,Nat.lt_succ_of_lt hal⟩
  cases ht:w.params.followText "set-order" with
  | true =>
   refine go (fun _=>0) ((pickOrder (w.params.setOrder a ep) es).toList.map (·.2)) rfl ((ai3 _ es).map _) fun k s' B Q' E' hk ho' q=>aq1 ht ho' hd hf ?_
   have e:(((pickOrder (w.params.setOrder a ep) es).toList.map (·.2))[k]?).map (fun x=>(x,0)) = ((pickOrder (w.params.setOrder a ep) es)[k]?).map fun e=>(e.2,0):=by
    rw [List.getElem?_map,Array.getElem?_toList,Option.map_map]
    rfl
   rw [← e]
   exact q
  | false =>
   rw [ht] at c J
   have hpl:t.place.size = es.size:=by
    simp only [SetTable.fits,Bool.and_eq_true,beq_iff_eq] at hf
    exact hf.1
   refine go (fun k=>match k with | 0=>0 | k + 1=>t.place.getD k 0 + 1) (es.toList.map (·.2)) rfl (List.Perm.refl _) fun k s' B Q' E' hk ho' q=>ak4 ht ho' hd hf J (by simpa using c) ?_ ?_
   ·cases k with
    | zero=>exact ax5 J.mono
    | succ k =>
     have hk':k < t.place.size:=by lia
     have e:t.place.getD k 0 = t.place[k]:=by simp [Array.getD,hk']
     show SetTable.below t.place (t.place.getD k 0 + 1) = k + 1
     rw [e]
     exact aE5 J.mono k hk'
   ·rcases Nat.lt_or_eq_of_le hk with hlt | heq
    ·have hk':k < t.place.size:=by lia
     have e2:t.place.getD k 0 = t.place[k]:=by simp [Array.getD,hk']
     have e3:(es.toList.map (·.2))[k]? = some es[k].2:=by simp [hlt]
     rw [e3] at q
     simp only [Array.getElem?_eq_getElem hlt,Array.getElem?_eq_getElem hk']
     rw [← e2]
     exact q
    ·have e3:(es.toList.map (·.2))[k]? = none:=by simp [heq]
     rw [e3] at q
     have e4:es[k]? = none:=by simp [heq]
     simp only [e4]
     exact q
end
end L2
namespace L2
open PySem PyProof.Rows
theorem aC0:typeLookup (.type "set") "__len__" = pure (some (.builtin "set.__len__")):=F.slot_set_len.lookup
theorem al2:splitId "set.__len__" = some ("set","__len__"):=by kernel_rfl
section
variable {prog:Program} {w:World} {A:Around} {E:Value → Shared → Prop} {s:Shared} {a:Addr} {o:Obj} {es:Array (Int × Value)} {ep:Nat} {t:SetTable}
theorem aU4 {Q:Bool → Shared → Prop} (hT:s.TypeIs (.ref a) "set") (h:Q false s):wpAny (model prog w) A (Builtin.List.listLengthHint (.ref a)) Q E s:=by
 unfold Builtin.List.listLengthHint
 refine wpAny_bind (wpAny_specialOf hT aC0 ?_)
 simp only [al2]
 refine wpAny_bind (wpAny_isInstance hT sub_set_self ?_)
 simp only [Bool.not_true,Bool.false_eq_true,if_false]
 show wpAny _ _ (typeOf (.ref a) >>= _) _ _ s
 exact wpAny_bind (wpAny_typeOf hT (wpAny_pure h))
theorem aB3 {Q:List Value → Shared → Prop} (hh:A.handled = none) (ho:s.heap.get? a = some o) (hx:o.ExactSet) (hd:o.data = .set es ep t) (hf:t.fits es.size = true) (J:JT (!w.params.followText "set-order") t) (hz:es.size ≤ sizeLine)
  (hQ:∀ (h':Heap) (d) (tk:Nat) (xs:List Value),xs.Perm (es.toList.map (·.2)) → s.heap.objs.size < h'.objs.size → (∀ b ob,s.heap.get? b = some ob → h'.get? b = some ob) → Q xs { s with heap:=h',drawn:=d,toks:=tk }):wpAny (model prog w) A (collect (.ref a)) Q E s:=by
 have hal:a < s.heap.objs.size:=Heap.lt_size ho
 unfold collect
 refine wpAny_bind (wpAny_runValue (codeAny_builtin F.entry_proto_collect ?_))
 rw [Around.under_plainId F.plain_proto_collect _]
 show wpAny _ A.in1 (newList [] >>= fun l=>again (.builtin "list.__iadd__" ⟨[l,.ref a],[]⟩)) _ _ s
 refine wpAny_bind (wpAny_newObj_type ?_)
 refine wpAny_pure ⟨plainId_quiet F.plain_list_iadd _,codeAny_builtin F.entry_list_iadd ?_⟩
 rw [Around.under_plainId F.plain_list_iadd _]
 generalize hH1:s.heap.push { cls:=.type "list",data:=.seq ([]:List Value).toArray } = H1
 have sz1:H1.objs.size = s.heap.objs.size + 1:=by rw [← hH1]; exact Heap.size_push ..
 have old1:∀ b ob,s.heap.get? b = some ob → H1.get? b = some ob:=fun b ob e=>by rw [← hH1]; exact Heap.get?_push_of_some _ e
 have gS:H1.get? s.heap.objs.size = some { cls:=.type "list",data:=.seq ([]:List Value).toArray }:=by rw [← hH1]; exact Heap.get?_push_size _ rfl
 show wpAny _ A.in1 (Builtin.List.listExtendWith (.ref s.heap.objs.size) (.ref a) (.ref s.heap.objs.size)) _ _ { s with heap:=H1 }
 unfold Builtin.List.listExtendWith
 have ho1:=old1 a o ho
 refine wpAny_bind (wpAny_typeOf (T:="set") ⟨o,ho1,hx.1⟩ ?_)
 have h1:Builtin.List.listSameRef (.ref s.heap.objs.size) (.ref a) = false:=by simpa [Builtin.List.listSameRef] using Nat.ne_of_gt hal
 have h2:(Value.type "set" == Value.type "list") = false:=by decide
 have h3:(Value.type "set" == Value.type "tuple") = false:=by decide
 simp only [h1,h2,h3,Bool.or_false,Bool.false_eq_true,if_false]
 refine wpAny_bind (aE9 (s:={ s with heap:=H1 }) ho1 hx hd hf J hz fun I xs h' d pm hI old2 walks=>?_)
 refine wpAny_bind (wpAny_holding (aU4 ⟨o,old2 a o ho1,hx.1⟩ ?_))
 show wpAny _ A.in1 (rule "list.extend.makes-room" >>= fun _=>Builtin.List.listTouch (.ref s.heap.objs.size) >>= fun _ =>
  again (.builtin "list.extend.loop" ⟨[.ref s.heap.objs.size,.ref I,.ref s.heap.objs.size],[]⟩)) _ _ _
 refine wpAny_bind (wpAny_rule (wpAny_bind ?_))
 have g2:=old2 _ _ gS
 show wpAny _ A.in1 (updateSeq s.heap.objs.size (·.push .none) >>= fun _=>updateSeq s.heap.objs.size (·.pop)) _ _ _
 refine wpAny_bind (wpAny_updateSeq g2 rfl ?_)
 have g3:=Heap.get?_update_self (Obj.mapSeq (·.push Value.none)) g2 rfl
 refine wpAny_updateSeq g3 rfl ?_
 have g4:=Heap.get?_update_self (Obj.mapSeq (·.pop)) g3 rfl
 have oth:∀ b ob,b ≠ s.heap.objs.size → h'.get? b = some ob → ((h'.update s.heap.objs.size (Obj.mapSeq (·.push Value.none))).update s.heap.objs.size (Obj.mapSeq (·.pop))).get? b = some ob :=
  fun b ob hb e=>(Heap.get?_update_other _ _ (Ne.symm hb)).trans ((Heap.get?_update_other _ _ (Ne.symm hb)).trans e)
 obtain ⟨fp,St,W,st,hfp,_⟩:=walks A.in1 hh
 have hSf:s.heap.objs.size ∉ fp:=fun hm=>by
  rcases (hfp _ hm).1 with e | e
  ·exact Nat.lt_irrefl _ (e ▸ hal)
  ·have e':H1.objs.size ≤ s.heap.objs.size:=e
   rw [sz1] at e'
   exact Nat.lt_irrefl _ e'
 refine wpAny_pure ⟨plainId_quiet F.plain_extend_loop _,codeAny_extend_loopS W hz _ hSf _ es.size 0 _ _ _ rfl (Nat.zero_le _)
  (W.frame 0 ({ s with heap:=h',drawn:=d }:Shared) _ s.toks st (Nat.le_refl _) fun b hb ob e=>oth b ob (fun z=>hSf (z ▸ hb)) e) g4 (ItemsOf.nil _) fun s' acc' c' hm hS' hacc=>?_⟩
 show wpAny _ A (load s.heap.objs.size >>= _) _ _ s'
 refine wpAny_bind (wpAny_load hS' (wpAny_pure ?_))
 have e1:s'.gens = s.gens:=hm.gens
 have e2:s'.drawn = d:=hm.drawn
 have e3:s'.os = s.os:=hm.os
 have es':s' = { s with heap:=s'.heap,drawn:=d,toks:=s'.toks }:=by
  obtain ⟨h0,g0,d0,t0,o0⟩:=s'
  simp only at e1 e2 e3
  subst e1 e2 e3
  rfl
 have exs:acc'.toList = xs:=by
  have hl:xs.length = es.size:=by simpa using pm.length_eq
  apply List.ext_getElem
  ·rw [Array.length_toList,hacc.1,hl]
  ·intro i q1 q2
   have this:xs[i]? = some acc'[i]:=hacc.2 i acc'[i] (by simp)
   rw [List.getElem?_eq_getElem q2] at this
   simpa using (Option.some.inj this).symm
 have big:s.heap.objs.size < s'.heap.objs.size:=Heap.lt_size hS'
 rw [exs,es']
 refine hQ _ d _ xs pm big fun b ob e=>?_
 have hb:b ≠ s.heap.objs.size:=Nat.ne_of_lt (Heap.lt_size e)
 refine hm.heap b ob ?_ (oth b ob hb (old2 b ob (old1 b ob e)))
 simp only [List.mem_cons,List.not_mem_nil,or_false,not_or]
 refine ⟨hb,fun z=>?_⟩
 have hI':H1.objs.size ≤ I:=hI
 rw [sz1,← z] at hI'
 exact Nat.lt_irrefl _ (Nat.lt_of_lt_of_le (Nat.lt_succ_of_lt (Heap.lt_size e)) hI')
theorem ak9 (h:ElemsOf (intKind prog w) es.toList):∃ ks:List Int,IntsAre (es.toList.map (·.2)) ks ∧ ∀ k,k ∈ ks ↔ ∃ e ∈ es.toList,(intKind prog w).is k e.2 = true:=by
 have go:∀ l:List (Int × Value),ElemsOf (intKind prog w) l → ∃ ks:List Int,IntsAre (l.map (·.2)) ks ∧ ∀ k,k ∈ ks ↔ ∃ e ∈ l,(intKind prog w).is k e.2 = true:=by
  intro l
  induction l with
  | nil=>intro _; exact ⟨[],.nil,by simp⟩
  | cons e r ih =>
   intro h
   obtain ⟨ks,h1,h2⟩:=ih h.tail
   obtain ⟨⟨k,hk,_⟩,_⟩:=h.head
   obtain ⟨tk,ek⟩:=Value.isInt_shape (k:=k) (v:=e.2) hk
   refine ⟨k :: ks,?_,fun k'=>?_⟩
   ·rw [List.map_cons,ek]
    exact .cons k tk h1
   ·rw [List.mem_cons,h2 k']
    constructor
    ·rintro (rfl | ⟨e',he,q⟩)
     ·exact ⟨e,List.mem_cons_self,hk⟩
     ·exact ⟨e',List.mem_cons_of_mem _ he,q⟩
    ·rintro ⟨e',he,q⟩
     rcases List.mem_cons.mp he with rfl | he
     ·exact .inl ((intKind prog w).inj e'.2 k' k q hk)
     ·exact .inr ⟨e',he,q⟩
 exact go _ h
theorem IntsAre.perm {vs us:List Value} (p:us.Perm vs):∀ {ns:List Int},IntsAre vs ns → ∃ ms,IntsAre us ms ∧ ms.Perm ns:=by
 induction p with
 | nil=>intro ns h; exact ⟨ns,h,List.Perm.refl _⟩
 | cons x _ ih =>
  intro ns h
  cases h with
  | cons n t h=>obtain ⟨ms,h1,h2⟩:=ih h; exact ⟨n :: ms,.cons n t h1,h2.cons n⟩
 | swap x y l =>
  intro ns h
  cases h with
  | cons n t h=>cases h with
   | cons m u h=>exact ⟨_,.cons m u (.cons n t h),List.Perm.swap _ _ _⟩
 | trans _ _ ih1 ih2 =>
  intro ns h
  obtain ⟨ms,h1,h2⟩:=ih2 h
  obtain ⟨ls,h3,h4⟩:=ih1 h1
  exact ⟨ls,h3,h4.trans h2⟩
theorem aC6 {S:Int → Bool} {n:Nat} {Q:Value → Shared → Prop} (hh:A.handled = none) (hS:M4 (intKind prog w) s.heap a S n) (h64:n < 64)
  (h:∀ (l:Addr) (h':Heap) (d) (tk e:Nat) (out:Array Value) (ns:List Int),IntsAre out.toList ns → ns.Pairwise (· ≤ ·) → (∀ k,k ∈ ns ↔ S k = true) → ns.length = n → s.heap.objs.size ≤ l → (∀ b ob,s.heap.get? b = some ob → h'.get? b = some ob) →
   h'.get? l = some (seqObj "list" out e) → Q (.ref l) { s with heap:=h',drawn:=d,toks:=tk }):wpAny (model prog w) A (call (.builtin "sorted") [.ref a]) Q E s:=by
 obtain ⟨o,es,ep,t,ho,hx,hd,⟨el,mem,hb,hf,hn⟩,J⟩:=hS
 obtain ⟨ks,ik,mk⟩:=ak9 el
 refine Calls.call_function_entry kind_sorted plain_sorted entry_sorted (args_sorted1 _) ?_
 unfold Builtin.«sorted»
 refine wpAny_bind (m:=checkCount "sorted" 1 1 _) (wpAny_pure ?_)
 refine wpAny_bind (aB3 hh ho hx hd hf J (fits_of_scanBound hb) fun h1 d tk xs pm big old=>?_)
 obtain ⟨ms,im,pms⟩:=IntsAre.perm pm ik
 have hxl:xs.length = n:=by rw [← hn]; simpa using pm.length_eq
 refine wpAny_bind (wpAny_newList ?_ (by rw [hxl]; exact Nat.le_trans (Nat.le_of_lt h64) (by decide)))
 have hoL:(h1.push (seqObj "list" xs.toArray 0)).get? h1.objs.size = some (seqObj "list" xs.toArray 0):=Heap.get?_push_size _ rfl
 show wpAny _ _ _ _ _ { s with heap:=h1.push (seqObj "list" xs.toArray 0),drawn:=d,toks:=tk }
 refine wpAny_bind (wpAny_holding (wpAny_call_entry slot_list_sort ⟨_,hoL,rfl⟩ entry_list_sort (list_sort_tree hoL im (by lia) fun out ns a1 a2 a3=>⟨_,rfl,?_⟩) (args_list_sort _)))
 obtain ⟨e,he⟩:=sortedHeap_at (out:=out) hoL
 refine wpAny_pure ⟨_,rfl,h h1.objs.size _ d tk e out ns a1 a3 (fun k=>?_) ?_ ?_ (fun b ob q=>?_) he⟩
 ·rw [a2.mem_iff,pms.mem_iff,mk k,mem k]
 ·rw [a2.length_eq,pms.length_eq,← ik.length,List.length_map,Array.length_toList,hn]
 ·exact Nat.le_of_lt big
 ·have q1:=old b ob q
  have hlt:=Heap.lt_size q1
  rw [sortedHeap_old (Nat.ne_of_lt hlt) (by rw [Heap.size_push]; exact Nat.lt_succ_of_lt hlt)]
  exact Heap.get?_push_of_some _ q1
end
end L2
namespace L2
open PySem PyProof.Rows
section
variable {prog:Program} {w:World} {A:Around} {R:Result → Shared → Prop} {I:Addr} {fp wr:List Addr} {G:Array GenState → Array GenState → Prop} {n:Nat} {P:Nat → Value → Prop} {St:Nat → Shared → Prop}
abbrev T3 (prog:Program) (w:World) (val:Nat → Int) (i:Nat) (h:Heap) (S:Addr):Prop:=M4 (intKind prog w) h S (fun k=>(firstMet val i).any (· == k)) (firstMet val i).length
theorem az7 (W:WalksS prog w A.in1 I fp wr G n P St) (S:Addr) (hSf:S ∉ fp) (val:Nat → Int) (hval:∀ i v,P i v → ∃ t,v = .int (val i) t) (hb:n + 1 < scanBound) :
  ∀ (k i:Nat) (s:Shared),n - i = k → i ≤ n → St i s → T3 prog w val i s.heap S → (∀ s',Moved (S :: wr) G s s' → T3 prog w val n s'.heap S → R (.ok (.ret .none)) s') →
   codeAny (model prog w) A (.builtin "set.update.loop" ⟨[.ref S,.ref I],[]⟩) R s:=by
 have hSw:S ∉ wr:=fun z=>hSf (W.sub _ z)
 have sub:∀ b ∈ wr,b ∈ S :: wr:=fun b q=>List.mem_cons_of_mem _ q
 intro k
 induction k with
 | zero =>
  intro i s hk hi st x fin
  obtain rfl:i = n:=by lia
  refine codeAny_builtin PyProof.Rows.F.entry_set_update_loop ?_
  rw [Around.under_plainId PyProof.Rows.F.plain_set_update_loop _]
  show wpAny _ A.in1 (pyNext (.ref I) >>= _) _ _ s
  refine wpAny_bind (W.done s _ _ st fun s' m=>?_)
  show wpAny _ A.in1 (ret Value.none) _ _ s'
  exact wpAny_pure (fin s' (m.mono sub) (x.of_get fun o e=>m.heap S _ hSw e))
 | succ k ih =>
  intro i s hk hi st x fin
  have lt:i < n:=by lia
  refine codeAny_builtin PyProof.Rows.F.entry_set_update_loop ?_
  rw [Around.under_plainId PyProof.Rows.F.plain_set_update_loop _]
  show wpAny _ A.in1 (pyNext (.ref I) >>= _) _ _ s
  refine wpAny_bind (W.item i s _ _ lt st fun v s' pv st' m=>?_)
  obtain ⟨t,rfl⟩:=hval i v pv
  have x':T3 prog w val i s'.heap S:=x.of_get fun o e=>m.heap S _ hSw e
  show wpAny _ A.in1 (holding [Value.int (val i) t] (setAdd S (.int (val i) t)) >>= _) _ _ s'
  refine wpAny_bind (wpAny_holding ?_)
  unfold setAdd
  refine wpAny_holding (wpAny_bind ((intKind prog w).pyHash (k:=val i) (intKind_is _ _ _ _) ?_))
  have room:(firstMet val i).length + 1 < scanBound:=by have:=firstMet_length_le val i; lia
  refine bh0 (knd:=intKind prog w) (s:={ s' with toks:=s'.toks + 1 }) (intKind_is _ _ _ _) rfl x' room fun h' sb x2=>?_
  have x3:T3 prog w val (i + 1) h' S:=x2.congr (fun k'=>by rw [firstMet_succ,step_any]) (by rw [firstMet_succ,step_length])
  refine wpAny_pure ⟨plainId_quiet PyProof.Rows.F.plain_set_update_loop _,ih (i + 1) _ (by lia) lt (W.frame _ s' _ _ st' (Nat.le_succ _) fun b hb o e=>?_) x3 fun s'' m2 x4=>?_⟩
  ·rw [sb.2 b (fun z:b = S=>hSf (z ▸ hb))]; exact e
  ·refine fin s'' (Moved.trans W.gtrans ((m.mono sub).then_heap (Nat.le_succ _) fun b o hb e=>?_) m2) x4
   rw [sb.2 b (fun z:b = S=>hb (z ▸ List.mem_cons_self))]; exact e
end
section
variable {prog:Program} {w:World} {A:Around} {E:Value → Shared → Prop} {s:Shared}
abbrev K5 (w:World):Obj:={ cls:=.type "set",dict:=none,data:=.set #[] 0 (.fresh 0 0 (!w.params.followText "set-order")) }
theorem ad5 (a:Value) {Q:Value → Shared → Prop} (h:Q (.ref s.heap.objs.size) { s with heap:=s.heap.push (K5 w) }) :
  codeAny (model prog w) A (.call (.builtin "set.__new__") ⟨[.type "set",a],[]⟩) (wants Q E) s:=by
 refine codeAny_of_tree ?_
 show wpAny _ A.in1 (do checkBuiltinCall "set.__new__" ⟨[.type "set",a],[]⟩; again (.builtin "set.__new__" ⟨[.type "set",a],[]⟩)) _ _ s
 refine wpAny_bind (wpAny_of_eq (PySem.F.newCall_set_1 a) (wpAny_pure ⟨plainId_quiet PySem.F.plain_set_new _,codeAny_builtin PySem.F.entry_set_new ?_⟩))
 rw [Around.under_plainId PySem.F.plain_set_new _]
 unfold Builtin.«set.__new__» Builtin.Frozenset.newClass
 have hsub:=sub_set_self
 obtain ⟨hp,g,d,tk,os⟩:=s
 dsimp only
 wp_walk
 refine wpAny_askSetting (wpAny_pure ?_)
 dsimp only
 simp only [newObj]
 exact wpAny_bind (wpAny_alloc (wpAny_pure (wpAny_pure h)))
set_option maxHeartbeats 3200000 in
theorem aw1 {l:Addr} {items:Array Value} {ns:List Int} {Q:Value → Shared → Prop} (hh:A.handled = none) (hl:s.heap.IsList l items) (hi:IntsAre items.toList ns) (hb:items.size + 1 < scanBound)
  (h:∀ (h':Heap) (tk:Nat),T3 prog w (fun i=>ns.getD i 0) items.size h' s.heap.objs.size → (∀ b o,b < s.heap.objs.size → s.heap.get? b = some o → h'.get? b = some o) → Q (.ref s.heap.objs.size) { s with heap:=h',toks:=tk }) :
  wpAny (model prog w) A (call (.type "set") [.ref l]) Q E s:=by
 obtain ⟨c,tl,hmro⟩:=PySem.F.called_set.mro
 have hmade:=PySem.F.called_set.made
 have hsub:=PySem.F.called_set.sub
 refine wpAny_call (codeAny_of_tree ?_)
 show wpAny _ _ (callAny (.type "set") _) _ _ _
 refine wpAny_pure ⟨Code.quiet_builtin _ (by decide +kernel),codeAny_builtin PySem.F.entry_type_call ?_⟩
 rw [Around.under_plain (weight_type_call_type "set" [.ref l] []) rfl]
 have h1:=PySem.F.called_set.notType
 have h2:=PySem.F.called_set.canCreate
 have hct:=PySem.F.typeCall_set_1 (.ref l)
 repeat (any_goals (first | assumption | wp_step))
 refine codeAny_mono (ad5 (.ref l) (E:=E) (Q:=fun obj s₁=>obj = .ref s.heap.objs.size ∧ s₁ = { s with heap:=s.heap.push (K5 w) }) ⟨rfl,rfl⟩) fun r s₁ hr=>?_
 cases r with
 | error e=>exact hr
 | ok fl =>
  cases fl with
  | ret obj =>
   obtain ⟨rfl,rfl⟩:=hr
   have hS:(s.heap.push (K5 w)).get? s.heap.objs.size = some (K5 w):=Heap.get?_push_size _ rfl
   have hT:Shared.TypeIs { s with heap:=s.heap.push (K5 w) } (.ref s.heap.objs.size) "set":=⟨_,hS,rfl⟩
   have hli:=PySem.F.called_set.init.lookup
   have hbi:=PySem.F.called_set.init.bind (.ref s.heap.objs.size)
   repeat (any_goals (first | assumption | wp_step))
   refine codeAny_mono (codeAny_call_builtin (R:=wants (fun r s₂=>r = .none ∧ ∃ h' tk,s₂ = { s with heap:=h',toks:=tk } ∧ T3 prog w (fun i=>ns.getD i 0) items.size h' s.heap.objs.size ∧
     (∀ b o,b < s.heap.objs.size → s.heap.get? b = some o → h'.get? b = some o)) E) PySem.F.called_set.init.plain PySem.F.entry_set_init (check_set_init_1 hT ?_)) fun r₂ s₂ hr₂=>?_
   ·obtain ⟨ol,hol,hcl,nl,hdl⟩:=id hl
    have hol':(s.heap.push (K5 w)).get? l = some ol:=Heap.get?_push_of_some _ hol
    have hTl:Shared.TypeIs { s with heap:=s.heap.push (K5 w) } (.ref l) "list":=⟨ol,hol',hcl⟩
    have hsls:=PySem.F.sub_list_set
    have hslf:=PySem.F.sub_list_frozenset
    have hne:(Value.type "list" == Value.type "dict") = false:=by decide
    have hl1:(s.heap.push (K5 w)).IsList l items:=⟨_,hol',hcl,nl,hdl⟩
    unfold Builtin.«set.__init__» noKeywords Builtin.Frozenset.updateFrom
    generalize hPI:pyIter = PI
    wp_walk
    subst hPI
    refine wpAny_pyIter_list hl1 (wpAny_bind (wpAny_runValue ?_))
    have hlS:l < s.heap.objs.size:=Heap.lt_size hol
    have hneI:l ≠ (s.heap.push (K5 w)).objs.size:=by rw [Heap.size_push]; exact Nat.ne_of_lt (Nat.lt_succ_of_lt hlS)
    have hSf:s.heap.objs.size ∉ [(s.heap.push (K5 w)).objs.size,l]:=by
     rw [Heap.size_push]
     simp only [List.mem_cons,List.not_mem_nil,or_false,not_or]
     exact ⟨Nat.ne_of_lt (Nat.lt_succ_self _),Nat.ne_of_gt hlS⟩
    refine az7 ((Walks.list (by simpa using hh) _ l hneI items).toS) s.heap.objs.size hSf (fun i=>ns.getD i 0) (fun i v hv=>PyProof.Rows.IntsAre.int_at hi i v (by rw [Array.getElem?_toList]; exact hv)) hb (items.size - 0) 0 _ (by lia) (Nat.zero_le _)
     ⟨⟨_,Heap.get?_push_size _ rfl,rfl,rfl⟩,(hl1.push _)⟩ ?hS0 ?hR
    case hS0 =>
     exact ((M4.new (knd:=intKind prog w) s.heap rfl).congr (fun _=>rfl) rfl).of_get fun o e=>Heap.get?_push_of_some _ e
    case hR =>
     intro s' m x
     obtain ⟨h',g',d',tk',os'⟩:=s'
     have eg:g' = s.gens:=m.gens
     have ed:d' = s.drawn:=m.drawn
     have eo:os' = s.os:=m.os
     subst eg ed eo
     show wpAny _ _ _ _ _ _
     refine wpAny_pure ?_
     show wpAny _ _ (ret Value.none) _ _ _
     refine wpAny_pure ⟨rfl,h',tk',rfl,x,fun b o q e=>?_⟩
     refine m.heap b o ?_ (Heap.get?_push_of_some _ (Heap.get?_push_of_some _ e))
     simp only [List.mem_cons,List.not_mem_nil,or_false,not_or]
     refine ⟨Nat.ne_of_lt q,?_⟩
     rw [Heap.size_push]
     exact Nat.ne_of_lt (Nat.lt_succ_of_lt q)
   ·cases r₂ with
    | error e=>exact hr₂
    | ok fl₂ =>
     cases fl₂ with
     | ret r =>
      obtain ⟨rfl,h',tk,rfl,x,kp⟩:=hr₂
      repeat (any_goals (first | assumption | wp_step))
      exact h _ _ x kp
     | _=>exact hr₂.elim
  | _=>exact hr.elim
end
end L2
namespace L2
open PySem PySem.W PyProof.Rows
def ev {α:Type} (lt:Nat → Nat → Bool):KasT α → α
 | .ret a=>a
 | .ask i j k=>ev lt (k (lt i j))
theorem V2 {α β:Type} (lt:Nat → Nat → Bool) (f:α → KasT β):∀ t:KasT α,ev lt (t.bind f) = ev lt (f (ev lt t))
 | .ret _=>rfl
 | .ask i j k=>V2 lt f (k (lt i j))
section
variable {r:Nat → Int}
abbrev ltR (r:Nat → Int):Nat → Nat → Bool:=fun i j=>decide (r i < r j)
abbrev ky (r:Nat → Int) (p:Array Nat) (k:Nat):Int:=r (p.getD k 0)
theorem W9 {α:Type} (lt:Nat → Nat → Bool) (i j:Nat) (k:Bool → KasT α):ev lt (.ask i j k) = ev lt (k (lt i j)):=rfl
theorem aB1 {i j:Nat} (c:r i < r j):ltR r i j = true:=decide_eq_true c
theorem ax1 {i j:Nat} (c:¬ r i < r j):ltR r i j = false:=decide_eq_false c
def Up (r:Nat → Int) (p:Array Nat) (b:Nat):Prop:=∀ i,0 < i → i < b → ky r p (i - 1) ≤ ky r p i
def Dn (r:Nat → Int) (p:Array Nat) (b:Nat):Prop:=∀ i,0 < i → i < b → ky r p i ≤ ky r p (i - 1)
def Eqs (r:Nat → Int) (p:Array Nat) (a b:Nat):Prop:=∀ i,a < i → i < b → ky r p i = ky r p (i - 1)
theorem Up.mono {p:Array Nat} {b:Nat} (h:Up r p b):∀ i j,i ≤ j → j < b → ky r p i ≤ ky r p j:=by
 intro i j hij hj
 induction j with
 | zero =>
  have:i = 0:=by lia
  subst this; exact Int.le_refl _
 | succ j ih =>
  rcases Nat.lt_or_eq_of_le hij with q | q
  ·exact Int.le_trans (ih (by lia) (by lia)) (h (j + 1) (by lia) hj)
  ·rw [q]; exact Int.le_refl _
theorem Dn.mono {p:Array Nat} {b:Nat} (h:Dn r p b):∀ i j,i ≤ j → j < b → ky r p j ≤ ky r p i:=by
 intro i j hij hj
 induction j with
 | zero =>
  have:i = 0:=by lia
  subst this; exact Int.le_refl _
 | succ j ih =>
  rcases Nat.lt_or_eq_of_le hij with q | q
  ·exact Int.le_trans (h (j + 1) (by lia) hj) (ih (by lia) (by lia))
  ·rw [q]; exact Int.le_refl _
theorem Eqs.all {p:Array Nat} {a b:Nat} (h:Eqs r p a b):∀ i,a ≤ i → i < b → ky r p i = ky r p a:=by
 intro i hi hb
 induction i with
 | zero =>
  have:a = 0:=by lia
  subst this; rfl
 | succ i ih =>
  rcases Nat.lt_or_eq_of_le hi with q | q
  ·rw [h (i + 1) q hb]; exact ih (by lia) (by lia)
  ·rw [q]
theorem ah3 {p:Array Nat} {i j:Nat} (hj:j ≤ p.size) (k:Nat):(kas_rev p i j).getD k 0 = if i ≤ k ∧ k < j then p.getD (i + j - 1 - k) 0 else p.getD k 0:=by
 unfold kas_rev
 have e:=getElem?_mirror (xs:=p) (i:=i) hj ((j - i) / 2) (by lia) k
 rw [Array.getD_eq_getD_getElem?,e]
 by_cases c:i ≤ k ∧ k < j
 ·rw [if_pos c]
  by_cases d:i ≤ k ∧ k < i + (j - i) / 2 ∨ j - (j - i) / 2 ≤ k ∧ k < j
  ·rw [if_pos d,Array.getD_eq_getD_getElem?]
  ·rw [if_neg d]
   have:i + j - 1 - k = k:=by lia
   rw [this,Array.getD_eq_getD_getElem?]
 ·rw [if_neg c,if_neg (by lia),Array.getD_eq_getD_getElem?]
theorem au8 {p:Array Nat} {i j:Nat} (hj:j ≤ p.size) (h:Eqs r p i j) (k:Nat):ky r (kas_rev p i j) k = ky r p k:=by
 show r _ = r _
 rw [ah3 hj]
 by_cases c:i ≤ k ∧ k < j
 ·rw [if_pos c]
  have e1:ky r p (i + j - 1 - k) = ky r p i:=h.all _ (by lia) (by lia)
  have e2:ky r p k = ky r p i:=h.all _ c.1 c.2
  exact e1.trans e2.symm
 ·rw [if_neg c]
theorem Q2 (p:Array Nat) (i j:Nat):(kas_rev p i j).size = p.size:=mirror_size _ _ _ _
theorem K6 (p:Array Nat) (i j:Nat):(kas_rev p i j).Perm p:=mirror_perm _ _ _ _
theorem aV3 (p:Array Nat):∀ f n,1 ≤ n → Up r p n → n ≤ ev (ltR r) (kas_asc p f n) ∧ ev (ltR r) (kas_asc p f n) ≤ n + f ∧ Up r p (ev (ltR r) (kas_asc p f n)) ∧
  (ev (ltR r) (kas_asc p f n) < n + f → ky r p (ev (ltR r) (kas_asc p f n)) < ky r p (ev (ltR r) (kas_asc p f n) - 1)):=by
 intro f
 induction f with
 | zero=>intro n h1 h; exact ⟨Nat.le_refl _,Nat.le_refl _,h,fun q=>absurd q (Nat.lt_irrefl _)⟩
 | succ f ih =>
  intro n h1 h
  unfold kas_asc
  rw [W9]
  by_cases c:r (p.getD n 0) < r (p.getD (n - 1) 0)
  ·rw [aB1 c,if_pos rfl]
   exact ⟨Nat.le_refl _,by show n ≤ n + (f + 1); lia,h,fun _=>c⟩
  ·rw [ax1 c,if_neg (by simp)]
   obtain ⟨q1,q2,q3,q4⟩:=ih (n + 1) (by lia) (fun i hi hb=>by
    rcases Nat.lt_or_eq_of_le (Nat.le_of_lt_succ hb) with z | z
    ·exact h i hi z
    ·subst z; exact Int.not_lt.mp c)
   exact ⟨by lia,by lia,q3,fun z=>q4 (by lia)⟩
theorem a46:∀ (f:Nat) (p:Array Nat) (n q:Nat),q < n → n + f ≤ p.size → Dn r p n → Eqs r p (n - (q + 1)) n →
  ∃ p' n' q',ev (ltR r) (kas_desc f p n q) = (p',n',q') ∧ q' < n' ∧ n ≤ n' ∧ n' ≤ n + f ∧ p'.size = p.size ∧ p'.Perm p ∧ Dn r p' n' ∧ Eqs r p' (n' - (q' + 1)) n':=by
 intro f
 induction f with
 | zero=>intro p n q hq hz hd he; exact ⟨p,n,q,rfl,hq,Nat.le_refl _,Nat.le_refl _,rfl,Array.Perm.refl _,hd,he⟩
 | succ f ih =>
  intro p n q hq hz hd he
  unfold kas_desc
  rw [W9]
  by_cases c:r (p.getD n 0) < r (p.getD (n - 1) 0)
  ·rw [aB1 c,if_pos rfl]
   have step:∀ p1:Array Nat,p1.size = p.size → p1.Perm p → (∀ k,ky r p1 k = ky r p k) → ∃ p' n' q',ev (ltR r) (kas_desc f p1 (n + 1) 0) = (p',n',q') ∧ q' < n' ∧ n ≤ n' ∧ n' ≤ n + (f + 1) ∧ p'.size = p.size ∧ p'.Perm p ∧ Dn r p' n' ∧ Eqs r p' (n' - (q' + 1)) n':=fun p1 s1 pm hk=>by
    obtain ⟨p',n',q',e,a1,a2,a3,a4,a5,a6,a7⟩:=ih p1 (n + 1) 0 (by lia) (by lia) (fun i hi hb=>by
     rw [hk,hk]
     rcases Nat.lt_or_eq_of_le (Nat.le_of_lt_succ hb) with z | z
     ·exact hd i hi z
     ·subst z; exact Int.le_of_lt c) (fun i hi hb=>by lia)
    exact ⟨p',n',q',e,a1,by lia,by lia,a4.trans s1,a5.trans pm,a6,a7⟩
   by_cases cq:q > 0
   ·rw [if_pos cq]
    exact step _ (Q2 _ _ _) (K6 _ _ _) (au8 (by lia) he)
   ·rw [if_neg cq]
    exact step p rfl (Array.Perm.refl _) fun _=>rfl
  ·rw [ax1 c,if_neg (by simp)]
   rw [W9]
   by_cases d:r (p.getD (n - 1) 0) < r (p.getD n 0)
   ·rw [aB1 d,if_pos rfl]
    exact ⟨p,n,q,rfl,hq,Nat.le_refl _,by lia,rfl,Array.Perm.refl _,hd,he⟩
   ·rw [ax1 d,if_neg (by simp)]
    have eqn:ky r p n = ky r p (n - 1):=Int.le_antisymm (Int.not_lt.mp d) (Int.not_lt.mp c)
    obtain ⟨p',n',q',e,a1,a2,a3,a4,a5,a6,a7⟩:=ih p (n + 1) (q + 1) (by lia) (by lia) (fun i hi hb=>by
     rcases Nat.lt_or_eq_of_le (Nat.le_of_lt_succ hb) with z | z
     ·exact hd i hi z
     ·subst z; exact Int.le_of_eq eqn) (fun i hi hb=>by
     rcases Nat.lt_or_eq_of_le (Nat.le_of_lt_succ hb) with z | z
     ·exact he i (by lia) z
     ·subst z; exact eqn)
    exact ⟨p',n',q',e,a1,by lia,by lia,a4,a5,a6,a7⟩
def Run (r:Nat → Int) (p:Array Nat) (nrem:Nat) (x:Nat × Array Nat):Prop:=x.1 ≤ nrem ∧ 1 ≤ x.1 ∧ x.2.size = p.size ∧ x.2.Perm p ∧ Up r x.2 x.1
theorem ay0 {p:Array Nat} {n nrem:Nat} (h1:1 ≤ n) (hn:n ≤ nrem) (hz:nrem ≤ p.size) (hd:Dn r p n):Run r p nrem (ev (ltR r) (kas_tail3 n nrem p)):=by
 unfold kas_tail3
 rw [V2]
 have hu:Up r (kas_rev p 0 n) n:=fun i hi hb=>by
  show r _ ≤ r _
  rw [ah3 (by lia),ah3 (by lia),if_pos (by lia),if_pos (by lia)]
  exact hd.mono (0 + n - 1 - i) (0 + n - 1 - (i - 1)) (by lia) (by lia)
 obtain ⟨a1,a2,a3,_⟩:=aV3 (kas_rev p 0 n) (nrem - n) n h1 hu
 exact ⟨by show ev (ltR r) _ ≤ _; lia,by show 1 ≤ ev (ltR r) _; lia,Q2 _ _ _,K6 _ _ _,a3⟩
theorem Run.of {p p1:Array Nat} {nrem:Nat} {x:Nat × Array Nat} (h:Run r p1 nrem x) (s:p1.size = p.size) (m:p1.Perm p):Run r p nrem x:=⟨h.1,h.2.1,h.2.2.1.trans s,h.2.2.2.1.trans m,h.2.2.2.2⟩
theorem ad4 {p:Array Nat} {n nrem:Nat} (hn:n + 1 ≤ nrem) (hz:nrem ≤ p.size) (hd:Dn r p (n + 1)):Run r p nrem (ev (ltR r) (kas_descPart n nrem p)):=by
 unfold kas_descPart
 rw [V2]
 obtain ⟨p',n',q',e,a1,a2,a3,a4,a5,a6,a7⟩:=a46 (nrem - (n + 1)) p (n + 1) 0 (by lia) (by lia) hd (fun i hi hb=>by lia)
 rw [e]
 dsimp only
 by_cases c:q' > 0
 ·rw [if_pos c]
  have k:=au8 (r:=r) (by lia) a7
  exact (ay0 (p:=kas_rev p' (n' - (q' + 1)) n') (by lia) (by lia) (by rw [Q2]; lia) (fun i hi hb=>by rw [k,k]; exact a6 i hi hb)).of ((Q2 _ _ _).trans a4) ((K6 _ _ _).trans a5)
 ·rw [if_neg c]
  exact (ay0 (p:=p') (by lia) (by lia) (by lia) a6).of a4 a5
theorem ay5 {p:Array Nat} {nrem:Nat} (h1:1 ≤ nrem) (hz:nrem ≤ p.size):Run r p nrem (ev (ltR r) (kas_count nrem p)):=by
 unfold kas_count
 rw [V2]
 obtain ⟨a1,a2,a3,a4⟩:=aV3 (r:=r) p (nrem - 1) 1 (Nat.le_refl _) (fun i hi hb=>by lia)
 generalize ev (ltR r) (kas_asc p (nrem - 1) 1) = n at *
 by_cases c:(n == nrem) = true
 ·rw [if_pos c]
  exact ⟨by show n ≤ nrem; lia,a1,rfl,Array.Perm.refl _,a3⟩
 ·rw [if_neg c]
  have hne:n ≠ nrem:=by simpa using c
  have stop:=a4 (by lia)
  by_cases c2:n > 1
  ·rw [if_pos c2]
   rw [W9]
   by_cases d:r (p.getD 0 0) < r (p.getD (n - 1) 0)
   ·rw [aB1 d,if_pos rfl]
    exact ⟨by show n ≤ nrem; lia,a1,rfl,Array.Perm.refl _,a3⟩
   ·rw [ax1 d,if_neg (by simp)]
    have eqs:Eqs r p 0 n:=fun i hi hb=>by
     have q1:=a3.mono 0 (i - 1) (by lia) (by lia)
     have q2:=a3.mono (i - 1) i (by lia) hb
     have q3:=a3.mono i (n - 1) (by lia) (by lia)
     have q4:ky r p (n - 1) ≤ ky r p 0:=Int.not_lt.mp d
     lia
    have k:=au8 (r:=r) (by lia) eqs
    refine (ad4 (p:=kas_rev p 0 n) (by lia) (by rw [Q2]; exact hz) (fun i hi hb=>?_)).of (Q2 _ _ _) (K6 _ _ _)
    rw [k,k]
    rcases Nat.lt_or_eq_of_le (Nat.le_of_lt_succ hb) with z | z
    ·exact Int.le_of_eq (eqs i hi z)
    ·subst z; exact Int.le_of_lt stop
  ·rw [if_neg c2]
   obtain rfl:n = 1:=by lia
   exact ad4 (by lia) hz (fun i hi hb=>by
    obtain rfl:i = 1:=by lia
    exact Int.le_of_lt stop)
theorem aU3 {p:Array Nat} {k:Nat} (hu:Up r p k):∀ f l m,m - l ≤ f → l ≤ m → m ≤ k → (∀ i,i < l → ky r p i ≤ ky r p k) → (∀ i,m ≤ i → i < k → ky r p k < ky r p i) →
  ev (ltR r) (kas_place p k f l m) ≤ k ∧ (∀ i,i < ev (ltR r) (kas_place p k f l m) → ky r p i ≤ ky r p k) ∧ ∀ i,ev (ltR r) (kas_place p k f l m) ≤ i → i < k → ky r p k < ky r p i:=by
 intro f
 induction f with
 | zero =>
  intro l m h1 h2 h3 h4 h5
  obtain rfl:l = m:=by lia
  exact ⟨h3,h4,h5⟩
 | succ f ih =>
  intro l m h1 h2 h3 h4 h5
  unfold kas_place
  by_cases c:l ≥ m
  ·rw [if_pos c]
   obtain rfl:l = m:=by lia
   exact ⟨h3,h4,h5⟩
  ·rw [if_neg c]
   rw [W9]
   by_cases d:r (p.getD k 0) < r (p.getD ((l + m) / 2) 0)
   ·rw [aB1 d,if_pos rfl]
    refine ih l ((l + m) / 2) (by lia) (by lia) (by lia) h4 (fun i hi hb=>?_)
    exact Int.lt_of_lt_of_le d (hu.mono _ i hi hb)
   ·rw [ax1 d,if_neg (by simp)]
    refine ih ((l + m) / 2 + 1) m (by lia) (by lia) h3 (fun i hi=>?_) h5
    exact Int.le_trans (hu.mono i ((l + m) / 2) (by lia) (by lia)) (Int.not_lt.mp d)
theorem ad7 {p:Array Nat} {k l:Nat} (hk:k < p.size) (hl:l ≤ k) (i:Nat):(bubble p k (k - l)).getD i 0 = if i = l then p.getD k 0 else if l < i ∧ i ≤ k then p.getD (i - 1) 0 else p.getD i 0:=by
 have e:=getElem?_bubble hk (k - l) (by lia) i
 rw [show k - (k - l) = l by lia] at e
 rw [Array.getD_eq_getD_getElem?,e]
 by_cases c1:i = l
 ·rw [if_pos c1,if_pos c1,Array.getD_eq_getD_getElem?]
 ·rw [if_neg c1,if_neg c1]
  by_cases c2:l < i ∧ i ≤ k
  ·rw [if_pos c2,if_pos c2,Array.getD_eq_getD_getElem?]
  ·rw [if_neg c2,if_neg c2,Array.getD_eq_getD_getElem?]
theorem a77:∀ (f:Nat) (p:Array Nat) (k:Nat),k + f ≤ p.size → Up r p k → (ev (ltR r) (kas_bin f p k)).Perm p ∧ Up r (ev (ltR r) (kas_bin f p k)) (k + f):=by
 intro f
 induction f with
 | zero=>intro p k hz hu; exact ⟨Array.Perm.refl _,hu⟩
 | succ f ih =>
  intro p k hz hu
  unfold kas_bin
  rw [V2]
  obtain ⟨b1,b2,b3⟩:=aU3 hu k 0 k (by lia) (by lia) (Nat.le_refl _) (fun i hi=>absurd hi (by lia)) (fun i hi hb=>absurd hb (by lia))
  generalize ev (ltR r) (kas_place p k k 0 k) = l at *
  have hk:k < p.size:=by lia
  obtain ⟨c1,c2⟩:=ih (bubble p k (k - l)) (k + 1) (by rw [bubble_size]; lia) (fun i hi hb=>by
   show r _ ≤ r _
   rw [ad7 hk b1,ad7 hk b1]
   by_cases e1:i - 1 = l
   ·rw [if_pos e1,if_neg (show ¬ i = l by lia),if_pos (by lia)]
    have:=b3 (i - 1) (by lia) (by lia)
    exact Int.le_of_lt this
   ·rw [if_neg e1]
    by_cases e2:i = l
    ·rw [if_pos e2,if_neg (by lia)]
     exact b2 (i - 1) (by lia)
    ·rw [if_neg e2]
     by_cases e3:l < i
     ·rw [if_pos (by lia),if_pos (by lia)]
      exact hu (i - 1) (by lia) (by lia)
     ·rw [if_neg (by lia),if_neg (by lia)]
      exact hu i hi (by lia))
  exact ⟨c1.trans (bubble_perm _ _ _),by rw [show k + (f + 1) = k + 1 + f by lia]; exact c2⟩
theorem aY0 {n:Nat} (hn:1 ≤ n):(ev (ltR r) (kas_sort n)).Perm (List.range n).toArray ∧ Up r (ev (ltR r) (kas_sort n)) n:=by
 unfold kas_sort
 rw [V2]
 obtain ⟨h1,h2,h3,h4,h5⟩:=ay5 (r:=r) (p:=(List.range n).toArray) (nrem:=n) hn (by simp)
 generalize ev (ltR r) (kas_count n (List.range n).toArray) = x at *
 have hs:x.2.size = n:=by rw [h3]; simp
 by_cases c:x.1 < n
 ·rw [if_pos c]
  have hm:max x.1 1 = x.1:=by lia
  rw [hm]
  obtain ⟨c1,c2⟩:=a77 (r:=r) (n - x.1) x.2 x.1 (by lia) h5
  rw [show x.1 + (n - x.1) = n by lia] at c2
  exact ⟨c1.trans h4,c2⟩
 ·rw [if_neg c]
  have:x.1 = n:=by lia
  rw [this] at h5
  exact ⟨h4,h5⟩
def X3 {α:Type} (lt:Nat → Nat → Bool) (n:Nat):KasT α → Prop
 | .ret _=>True
 | .ask i j k=>i < n ∧ j < n ∧ X3 lt n (k (lt i j))
theorem X3.bind {α β:Type} {lt:Nat → Nat → Bool} {n:Nat} {f:α → KasT β}:∀ {t:KasT α},X3 lt n t → X3 lt n (f (ev lt t)) → X3 lt n (t.bind f)
 | .ret _,_,h=>h
 | .ask i j k,h,h'=>⟨h.1,h.2.1,X3.bind (t:=k (lt i j)) h.2.2 h'⟩
def InN (n:Nat) (p:Array Nat):Prop:=0 < n ∧ ∀ x ∈ p.toList,x < n
theorem InN.at {n:Nat} {p:Array Nat} (h:InN n p) (k:Nat):p.getD k 0 < n:=by
 rw [Array.getD_eq_getD_getElem?]
 cases e:p[k]? with
 | none=>exact h.1
 | some x=>exact h.2 x (by rw [Array.mem_toList_iff]; exact Array.mem_of_getElem? e)
theorem InN.perm {n:Nat} {p p':Array Nat} (h:InN n p) (m:p'.Perm p):InN n p':=⟨h.1,fun x hx=>h.2 x (by
 rw [Array.mem_toList_iff] at hx ⊢
 exact (Array.Perm.mem_iff m).mp hx)⟩
variable {n₀:Nat}
theorem aj2 {p:Array Nat} (h:InN n₀ p):∀ f n,X3 (ltR r) n₀ (kas_asc p f n)
 | 0,_=>True.intro
 | f + 1,n=>by
  unfold kas_asc
  refine ⟨h.at _,h.at _,?_⟩
  dsimp only
  split
  ·exact True.intro
  ·exact aj2 h f (n + 1)
theorem V0:∀ (f:Nat) {p:Array Nat} (n q:Nat),InN n₀ p → X3 (ltR r) n₀ (kas_desc f p n q)
 | 0,_,_,_,_=>True.intro
 | f + 1,p,n,q,h=>by
  unfold kas_desc
  refine ⟨h.at _,h.at _,?_⟩
  dsimp only
  split
  ·split
   ·exact V0 f _ _ (h.perm (K6 _ _ _))
   ·exact V0 f _ _ h
  ·refine ⟨h.at _,h.at _,?_⟩
   dsimp only
   split
   ·exact True.intro
   ·exact V0 f _ _ h
theorem V1:∀ (f:Nat) (p:Array Nat) (n q:Nat),(ev (ltR r) (kas_desc f p n q)).1.Perm p
 | 0,p,_,_=>Array.Perm.refl _
 | f + 1,p,n,q=>by
  unfold kas_desc
  rw [W9]
  split
  ·split
   ·exact (V1 f _ _ _).trans (K6 _ _ _)
   ·exact V1 f _ _ _
  ·rw [W9]
   split
   ·exact Array.Perm.refl _
   ·exact V1 f _ _ _
theorem af9 {p:Array Nat} (n nrem:Nat) (h:InN n₀ p):X3 (ltR r) n₀ (kas_tail3 n nrem p):=(aj2 (h.perm (K6 _ _ _)) _ _).bind True.intro
theorem W5 {p:Array Nat} (n nrem:Nat) (h:InN n₀ p):X3 (ltR r) n₀ (kas_descPart n nrem p):=by
 refine (V0 _ _ _ h).bind ?_
 have pm:=V1 (r:=r) (nrem - (n + 1)) p (n + 1) 0
 split
 ·exact af9 _ _ ((h.perm pm).perm (K6 _ _ _))
 ·exact af9 _ _ (h.perm pm)
theorem aE1 {p:Array Nat} (nrem:Nat) (h:InN n₀ p):X3 (ltR r) n₀ (kas_count nrem p):=by
 refine (aj2 h _ _).bind ?_
 split
 ·exact True.intro
 ·split
  ·refine ⟨h.at _,h.at _,?_⟩
   dsimp only
   split
   ·exact True.intro
   ·exact W5 _ _ (h.perm (K6 _ _ _))
  ·exact W5 _ _ h
theorem Y1 {p:Array Nat} {k:Nat} (h:InN n₀ p):∀ f l m,X3 (ltR r) n₀ (kas_place p k f l m)
 | 0,_,_=>True.intro
 | f + 1,l,m=>by
  unfold kas_place
  split
  ·exact True.intro
  ·refine ⟨h.at _,h.at _,?_⟩
   dsimp only
   split
   ·exact Y1 h f _ _
   ·exact Y1 h f _ _
theorem aA6:∀ (f:Nat) {p:Array Nat} (k:Nat),InN n₀ p → X3 (ltR r) n₀ (kas_bin f p k)
 | 0,_,_,_=>True.intro
 | f + 1,p,k,h=>(Y1 h _ _ _).bind (aA6 f _ (h.perm (bubble_perm _ _ _)))
theorem aM1 {n:Nat} (hn:1 ≤ n):X3 (ltR r) n (kas_sort n):=by
 have h:InN n (List.range n).toArray:=⟨hn,fun x hx=>by simpa using hx⟩
 refine (aE1 n h).bind ?_
 obtain ⟨h1,h2,h3,h4,h5⟩:=ay5 (r:=r) (p:=(List.range n).toArray) (nrem:=n) hn (by simp)
 split
 ·exact aA6 _ _ (h.perm h4)
 ·exact True.intro
theorem a58 {cmp:Nat → Nat → (Bool → Shared → Prop) → Shared → Prop} {J:Shared → Prop} {n:Nat} {lt:Nat → Nat → Bool} {α:Type} (hc:∀ i j C s,i < n → j < n → J s → (∀ s',J s' → C (lt i j) s') → cmp i j C s) :
  ∀ (t:KasT α) (s:Shared) (Q:α → Shared → Prop),X3 lt n t → J s → (∀ s',J s' → Q (ev lt t) s') → t.kasWp cmp Q s
 | .ret a,s,Q,_,hJ,h=>h s hJ
 | .ask i j k,s,Q,ha,hJ,h=>hc i j _ s ha.1 ha.2.1 hJ fun s' hJ'=>a58 hc (k (lt i j)) s' Q ha.2.2 hJ' h
theorem az4 {α:Type} {xs:List α} {r:Nat → Int} {p:Array Nat} (hp:p.Perm (List.range xs.length).toArray) (hu:Up r p xs.length) (d:α) (key:α → Int) (hk:∀ i,i < xs.length → r i = key (xs.getD i d)) :
  (p.toList.map fun i=>xs.getD i d).Perm xs ∧ (p.toList.map fun i=>xs.getD i d).Pairwise (fun a b=>key a ≤ key b):=by
 have hpl:p.toList.Perm (List.range xs.length):=by simpa using Array.perm_iff_toList_perm.mp hp
 have hlen:p.toList.length = xs.length:=by simpa using hpl.length_eq
 constructor
 ·refine (hpl.map _).trans ?_
  have:(List.range xs.length).map (fun i=>xs.getD i d) = xs:=by
   apply List.ext_getElem
   ·simp
   ·intro i h1 h2
    simp [List.getD,h2]
  rw [this]
 ·rw [List.pairwise_iff_getElem]
  intro i j hi hj hij
  rw [List.length_map] at hi hj
  rw [List.getElem_map,List.getElem_map]
  have m:∀ k (hk:k < p.toList.length),p.toList[k] < xs.length:=fun k hk=>by
   have:=hpl.mem_iff.mp (List.getElem_mem hk)
   simpa using this
  rw [← hk _ (m i hi),← hk _ (m j hj)]
  have q:=hu.mono i j (by lia) (by lia)
  have e:∀ k (hk:k < p.toList.length),p.getD k 0 = p.toList[k]:=fun k hk=>by
   have hk':k < p.size:=by simpa using hk
   simp [Array.getD,hk']
  rw [ky,ky,e i hi,e j hj] at q
  exact q
end
end L2
namespace L2
open PySem PySem.Spec PyProof.Rows
def ac8 (x:Int):List Int → List Int
 | []=>[x]
 | y :: r=>if x < y then x :: y :: r else if x = y then y :: r else y :: ac8 x r
def A0 (ns:List Int):List Int:=ns.foldr ac8 []
theorem aj7 (x k:Int):∀ l:List Int,k ∈ ac8 x l ↔ k = x ∨ k ∈ l
 | []=>by simp [ac8]
 | y :: r=>by
  unfold ac8
  split
  ·simp
  ·split
   ·rename_i h; subst h; simp
   ·rw [List.mem_cons,aj7 x k r,List.mem_cons]
    constructor
    ·rintro (h | h | h)
     ·exact .inr (.inl h)
     ·exact .inl h
     ·exact .inr (.inr h)
    ·rintro (h | h | h)
     ·exact .inr (.inl h)
     ·exact .inl h
     ·exact .inr (.inr h)
theorem am0 (x:Int):∀ l:List Int,l.Pairwise (· < ·) → (ac8 x l).Pairwise (· < ·)
 | [],_=>by simp [ac8]
 | y :: r,h=>by
  rw [List.pairwise_cons] at h
  unfold ac8
  split
  ·rename_i hlt
   rw [List.pairwise_cons,List.pairwise_cons]
   refine ⟨fun a ha=>?_,h⟩
   rcases List.mem_cons.mp ha with rfl | ha
   ·exact hlt
   ·exact Int.lt_trans hlt (h.1 a ha)
  ·split
   ·rw [List.pairwise_cons]; exact h
   ·rename_i h1 h2
    rw [List.pairwise_cons]
    refine ⟨fun a ha=>?_,am0 x r h.2⟩
    rcases (aj7 x a r).mp ha with rfl | ha
    ·lia
    ·exact h.1 a ha
theorem J4 (k:Int):∀ ns:List Int,k ∈ A0 ns ↔ k ∈ ns
 | []=>Iff.rfl
 | x :: r=>by
  show k ∈ ac8 x (A0 r) ↔ _
  rw [aj7,J4 k r,List.mem_cons]
theorem K9:∀ ns:List Int,(A0 ns).Pairwise (· < ·)
 | []=>List.Pairwise.nil
 | x :: r=>am0 x _ (K9 r)
theorem L6 {l:List Int} (h:l.Pairwise (· < ·)):l.Nodup:=h.imp fun {a b} q e=>by rw [e] at q; exact Int.lt_irrefl _ q
theorem J6:∀ (l1 l2:List Int),l1.Nodup → (∀ x ∈ l1,x ∈ l2) → l2.length ≤ l1.length → l1.Perm l2
 | [],l2,_,_,h=>by
  have:l2 = []:=List.eq_nil_of_length_eq_zero (by simpa using h)
  subst this; exact List.Perm.refl _
 | a :: r,l2,hn,hs,hl=>by
  rw [List.nodup_cons] at hn
  have ha:=hs a List.mem_cons_self
  have p:=List.perm_cons_erase ha
  refine ((J6 r (l2.erase a) hn.2 (fun x hx=>?_) ?_).cons a).trans p.symm
  ·have hne:x ≠ a:=fun e=>hn.1 (e ▸ hx)
   exact (List.mem_erase_of_ne hne).mpr (hs x (List.mem_cons_of_mem _ hx))
  ·have:=p.length_eq
   rw [List.length_cons] at this hl
   lia
theorem aw3:∀ {l1 l2:List Int},l1.Pairwise (· < ·) → l2.Pairwise (· < ·) → (∀ k,k ∈ l1 ↔ k ∈ l2) → l1 = l2
 | [],[],_,_,_=>rfl
 | [],b :: r,_,_,h=>absurd ((h b).mpr List.mem_cons_self) (by simp)
 | a :: r,[],_,_,h=>absurd ((h a).mp List.mem_cons_self) (by simp)
 | a :: r,b :: t,h1,h2,h=>by
  rw [List.pairwise_cons] at h1 h2
  have e:a = b:=by
   rcases List.mem_cons.mp ((h a).mp List.mem_cons_self) with q | q
   ·exact q
   ·rcases List.mem_cons.mp ((h b).mpr List.mem_cons_self) with q' | q'
    ·exact q'.symm
    ·have z1:=h2.1 a q
     have z2:=h1.1 b q'
     lia
  subst e
  have:r = t:=aw3 h1.2 h2.2 fun k=>by
   have q:=h k
   rw [List.mem_cons,List.mem_cons] at q
   constructor
   ·intro hk
    rcases q.mp (.inr hk) with e | z
    ·have:=h1.1 k hk; lia
    ·exact z
   ·intro hk
    rcases q.mpr (.inr hk) with e | z
    ·have:=h2.1 k hk; lia
    ·exact z
  rw [this]
theorem aL3 {ns' ns:List Int} (hp:ns'.Pairwise (· ≤ ·)) (hm:∀ k,k ∈ ns' ↔ k ∈ ns) (hl:ns'.length = (A0 ns).length):ns' = A0 ns:=by
 have pm:=J6 (A0 ns) ns' (L6 (K9 ns)) (fun x hx=>(hm x).mpr ((J4 x ns).mp hx)) (Nat.le_of_eq hl)
 have nd:ns'.Nodup:=pm.nodup_iff.mp (L6 (K9 ns))
 refine aw3 ((hp.and nd).imp fun {a b} q=>?_) (K9 ns) fun k=>by rw [hm,J4]
 have:=q.1
 have:=q.2
 lia
theorem R6 (ns:List Int) (k:Int):(firstMet (fun i=>ns.getD i 0) ns.length).any (· == k) = decide (k ∈ ns):=by
 rw [firstMet_any]
 have e:(List.range ns.length).map (fun i=>ns.getD i 0) = ns:=by
  apply List.ext_getElem
  ·simp
  ·intro i h1 h2
   simp [List.getD,h2]
 rw [e,Bool.eq_iff_iff,List.any_eq_true,decide_eq_true_iff]
 constructor
 ·rintro ⟨x,hx,q⟩
  rw [← eq_of_beq q]; exact hx
 ·intro h
  exact ⟨k,h,beq_self_eq_true k⟩
theorem S8 (val:Nat → Int):∀ i,(firstMet val i).Nodup
 | 0=>List.nodup_nil
 | i + 1=>by
  rw [firstMet_succ]
  unfold step_dedup
  have ih:=S8 val i
  by_cases h:(firstMet val i).any (· == val i) = true
  ·rw [if_pos h]; exact ih
  ·rw [if_neg h,List.nodup_append]
   refine ⟨ih,by simp,fun a ha b hb e=>h ?_⟩
   rw [List.mem_singleton] at hb
   rw [List.any_eq_true]
   exact ⟨a,ha,by rw [e,hb]; exact beq_self_eq_true _⟩
theorem Z2 (ns:List Int):(firstMet (fun i=>ns.getD i 0) ns.length).length = (A0 ns).length:=by
 have m:∀ k,k ∈ firstMet (fun i=>ns.getD i 0) ns.length ↔ k ∈ ns:=fun k=>by
  have:=R6 ns k
  rw [Bool.eq_iff_iff,List.any_eq_true,decide_eq_true_iff] at this
  rw [← this]
  exact ⟨fun h=>⟨k,h,beq_self_eq_true k⟩,fun ⟨x,hx,q⟩=>by rw [← eq_of_beq q]; exact hx⟩
 have n1:=S8 (fun i=>ns.getD i 0) ns.length
 have n2:=L6 (K9 ns)
 rcases Nat.le_total (firstMet (fun i=>ns.getD i 0) ns.length).length (A0 ns).length with h | h
 ·exact (J6 (A0 ns) _ n2 (fun x hx=>(m x).mpr ((J4 x ns).mp hx)) h).length_eq.symm
 ·exact (J6 _ (A0 ns) n1 (fun x hx=>(J4 x ns).mpr ((m x).mp hx)) h).length_eq
theorem ab5 (ns:List Int):(A0 ns).length ≤ ns.length:=by
 induction ns with
 | nil=>exact Nat.le_refl _
 | cons x r ih =>
  have:∀ l:List Int,(ac8 x l).length ≤ l.length + 1:=by
   intro l
   induction l with
   | nil=>simp [ac8]
   | cons y t ih =>
    unfold ac8; split <;> try split
    all_goals simp only [List.length_cons]
    all_goals lia
  have q:=this (A0 r)
  show (ac8 x (A0 r)).length ≤ _
  rw [List.length_cons]
  lia
section
variable {X:Cx}
def aw7 (X:Cx) (l:Addr) (ns:List Int):HO:=.ext fun h=>M4 (intKind X.prog X.w) h l (fun k=>decide (k ∈ ns)) (A0 ns).length
theorem ak7 (hc:X.calm = true):B0 X (.type "set") (fun xs H Q=>∃ (p:Addr) (ns:List Int),xs = [.ref p] ∧ SqL X.K H p (ns.map V.int) ∧ ns.length < 4000 ∧ ∀ l,H l = none → Q (.ref l) (upd H l (aw7 X l ns))):=by
 intro pins s σ H xs us Q I r h
 obtain ⟨p,ns,rfl,hq,hlt,q⟩:=h
 obtain ⟨u,rfl,rx⟩:=P7 r
 cases rx
 obtain ⟨its,r',pl,hz⟩:=I.list hq
 have hi:IntsAre its ns:=D7 r'
 have hlen:its.length = ns.length:=hi.length
 refine aw1 (I.ok.hd hc) pl.isList (ns:=ns) (by simpa using hi) (by show its.toArray.size + 1 < 4096; rw [List.size_toArray]; lia) fun h' tk x kp=>?_
 have x':M4 (intKind X.prog X.w) h' s.heap.objs.size (fun k=>decide (k ∈ ns)) (A0 ns).length:=x.congr (fun k=>by
  rw [List.size_toArray,hlen]; exact R6 ns k) (by rw [List.size_toArray,hlen]; exact Z2 ns)
 have he:∃ o,h'.get? s.heap.objs.size = some o:=let ⟨o,_,_,_,e,_⟩:=x'; ⟨o,e⟩
 exact ⟨.ref s.heap.objs.size,_,I.laid (t':=tk) (o:=aw7 X s.heap.objs.size ns) (fun b o e=>kp b o (Heap.lt_size e) e) (Nat.le_refl _) ⟨x',he,fun h1 h2 y k=>y.of_get k⟩,rfl,q _ (I.hok.fresh (Nat.le_refl _))⟩
theorem aI3 {pins:List (Addr × Obj)} {σ:St} {H:Hp} {s:Shared} {p:Addr} {ns:List Int} (I:Inv X pins σ H s) (e:H p = some (aw7 X p ns)):M4 (intKind X.prog X.w) s.heap p (fun k=>decide (k ∈ ns)) (A0 ns).length :=
 (show w6 X.prog X.w H s.heap p (aw7 X p ns) from I.hok p _ e).1
theorem ae4 (hc:X.calm = true):B0 X (.builtin "sorted") (fun xs H Q=>∃ (p:Addr) (ns:List Int),xs = [.ref p] ∧ H p = some (aw7 X p ns) ∧ ns.length < 64 ∧ ∀ l,H l = none → Q (.ref l) (upd H l (.lst ((A0 ns).map V.int)))):=by
 intro pins s σ H xs us Q I r h
 obtain ⟨p,ns,rfl,he,hlt,q⟩:=h
 obtain ⟨u,rfl,rx⟩:=P7 r
 cases rx
 have hl:=ab5 ns
 refine aC6 (I.ok.hd hc) (aI3 I he) (by lia) fun l h' d tk e out ns' a1 a2 a3 a4 hlz kp g=>?_
 have e2:ns' = A0 ns:=aL3 a2 (fun k=>by rw [a3,decide_eq_true_iff]) a4
 subst e2
 have fr:=I.hok.fresh hlz
 have new:w6 X.prog X.w (upd H l (.lst ((A0 ns).map V.int))) h' l (.lst ((A0 ns).map V.int)):=⟨by rw [List.length_map]; exact Nat.le_of_lt (n5 (by lia)),out.toList,e,Q3 a1,by simpa [seqObj] using g⟩
 exact ⟨.ref l,_,I.call' (s':={ s with heap:=h',drawn:=d,toks:=tk }) (ch:=[]) rfl (Un.track (Un.kept kp) hlz fr) (HOk.track (I.hok.kept kp) fr new) I.bare (fun b z=>nomatch z),rfl,q l fr⟩
theorem call_len_set:B0 X (.builtin "len") (fun xs H Q=>∃ (p:Addr) (ns:List Int),xs = [.ref p] ∧ H p = some (aw7 X p ns) ∧ Q (.int (A0 ns).length) H):=by
 intro pins s σ H xs us Q I r h
 obtain ⟨p,ns,rfl,he,q⟩:=h
 obtain ⟨u,rfl,rx⟩:=P7 r
 cases rx
 obtain ⟨o,es,ep,t,ho,hx,hd,⟨el,mem,hb,hf,hn⟩,J⟩:=aI3 I he
 refine PySem.call_len_set ho hx hd hf (by have h4:es.size < 4096:=hb; lia) ?_
 rw [hn]
 exact ⟨.int (A0 ns).length,H,I.tok _,⟨_,rfl⟩,q⟩
end
def EqV (X:Cx) (H:Hp) (n:Nat) (x y:V) (b:Bool):Prop :=
 ∀ (A:Around) (pins:List (Addr × Obj)) (s:Shared) (σ:St) (u v:Value),Inv X pins σ H s → x8 x u → x8 y v → A.units + n < cLine → SeqAt.EqAt A s u v b
structure EqRep (X:Cx) {δ:Type} [DecidableEq δ] (n:Nat) (R:Hp → V → δ → Prop):Prop where
 eq:∀ H x y dx dy,R H x dx → R H y dy → EqV X H n x y (decide (dx = dy))
 fn:∀ pins s σ H x d d',Inv X pins σ H s → R H x d → R H x d' → d = d'
section
variable {X:Cx}
variable {δ:Type} [DecidableEq δ] {n:Nat} {R:Hp → V → δ → Prop}
def bd9 (K:PySem.W.Frag) (R:Hp → V → δ → Prop):Hp → V → List δ → Prop:=fun H x ds=>∃ a xs,x = .ref a ∧ SqT K H a xs ∧ Paired (R H) xs ds
def av8 (K:PySem.W.Frag) (R:Hp → V → δ → Prop):Hp → V → List δ → Prop:=fun H x ds=>∃ a xs,x = .ref a ∧ SqL K H a xs ∧ Paired (R H) xs ds
theorem m3 {α β:Type} {Rl:α → β → Prop}:∀ {xs:List α} {ds:List β},Paired Rl xs ds → ∀ (i:Nat) (x:α),xs[i]? = some x → ∃ d,ds[i]? = some d ∧ Rl x d
 | _,_,.nil,i,x,h=>by simp at h
 | _,_,.cons r t,0,x,h=>by simp at h; subst h; exact ⟨_,rfl,r⟩
 | _,_,.cons r t,i + 1,x,h=>by
  obtain ⟨d,e,q⟩:=m3 t i x (by simpa using h)
  exact ⟨d,by simpa using e,q⟩
theorem ar5 (ds ds':List δ) (h:ds.length = ds'.length):((List.range ds.length).all fun j=>decide (ds[j]? = ds'[j]?)) = decide (ds = ds'):=by
 rw [Bool.eq_iff_iff,List.all_eq_true,decide_eq_true_iff]
 constructor
 ·intro q
  apply List.ext_getElem?
  intro i
  by_cases hi:i < ds.length
  ·exact of_decide_eq_true (q i (by simpa using hi))
  ·rw [List.getElem?_eq_none (by lia),List.getElem?_eq_none (by lia)]
 ·rintro rfl i hi
  simp
theorem ag5 (ep:EqRep X n R) {H:Hp} {A:Around} {pins:List (Addr × Obj)} {s:Shared} {σ:St} (I:Inv X pins σ H s) {xs ys:List V} {ds ds':List δ} {us vs:List Value} (hx:Paired (R H) xs ds) (hy:Paired (R H) ys ds') (ru:u0 xs us) (rv:u0 ys vs)
  (hu:A.units + n < cLine):∀ j (h1:j < us.toArray.size) (h2:j < vs.toArray.size),SeqAt.EqAt A s us.toArray[j] vs.toArray[j] (decide (ds[j]? = ds'[j]?)):=fun j h1 h2=>by
 have l1:=ru.length
 have l2:=rv.length
 rw [List.size_toArray] at h1 h2
 have e1:xs[j]? = some (xs[j]'(by lia)):=List.getElem?_eq_getElem _
 have e2:ys[j]? = some (ys[j]'(by lia)):=List.getElem?_eq_getElem _
 obtain ⟨d,q1,r1⟩:=m3 hx j _ e1
 obtain ⟨d',q2,r2⟩:=m3 hy j _ e2
 obtain ⟨u,w1,s1⟩:=ru.get e1
 obtain ⟨v,w2,s2⟩:=rv.get e2
 have z1:us.toArray[j] = u:=by rw [List.getElem?_eq_getElem h1] at w1; simpa using w1
 have z2:vs.toArray[j] = v:=by rw [List.getElem?_eq_getElem h2] at w2; simpa using w2
 rw [z1,z2,q1,q2]
 have:decide (some d = some d') = decide (d = d'):=by rw [Bool.eq_iff_iff]; simp
 rw [this]
 exact ep.eq H _ _ _ _ r1 r2 A pins s σ u v I s1 s2 hu
theorem aa7 (ep:EqRep X n R) {H:Hp} {pins:List (Addr × Obj)} {s:Shared} {σ:St} (I:Inv X pins σ H s):∀ {xs:List V} {ds ds':List δ},Paired (R H) xs ds → Paired (R H) xs ds' → ds = ds'
 | _,_,_,.nil,.nil=>rfl
 | _,_,_,.cons r t,.cons r' t'=>by rw [ep.fn pins s σ H _ _ _ I r r',aa7 ep I t t']
theorem aE7 (ep:EqRep X n R):EqRep X (n + 1) (bd9 X.K R) where
 eq:=fun H x y dx dy hx hy A pins s σ u v I ru rv hu=>by
  obtain ⟨a,xs,rfl,ha,px⟩:=hx
  obtain ⟨b,ys,rfl,hb,py⟩:=hy
  cases ru
  cases rv
  by_cases hab:a = b
  ·subst hab
   have:=I.tuple_inj ha hb
   subst this
   rw [aa7 ep I px py,decide_eq_true rfl]
   exact SeqAt.EqAt.same _
  ·obtain ⟨us,r1,p1,_⟩:=I.tuple ha
   obtain ⟨vs,r2,p2,_⟩:=I.tuple hb
   have l1:=r1.length
   have l2:=r2.length
   have l3:=Paired.length px
   have l4:=Paired.length py
   have:=SeqAt.RcAt.tuples (A:=A) (e:=fun j=>decide (dx[j]? = dy[j]?)) p1 p2 (by lia) (ag5 ep I px py r1 r2 (by show A.units + 1 + n < cLine; lia))
   refine SeqAt.EqAt.of_refs hab ?_
   have e:((List.range (min us.toArray.size vs.toArray.size)).all (fun j=>decide (dx[j]? = dy[j]?)) && us.toArray.size == vs.toArray.size) = decide (dx = dy):=by
    rw [List.size_toArray,List.size_toArray]
    by_cases hl:dx.length = dy.length
    ·rw [show min us.length vs.length = dx.length by lia,ar5 dx dy hl,show (us.length == vs.length) = true by simp; lia,Bool.and_true]
    ·rw [show (us.length == vs.length) = false by simp; lia,Bool.and_false,decide_eq_false (fun z=>hl (by rw [z]))]
   rw [← e]
   exact this
 fn:=fun pins s σ H x d d' I h h'=>by
  obtain ⟨a,xs,rfl,ha,px⟩:=h
  obtain ⟨b,ys,e,hb,py⟩:=h'
  cases e
  have:=I.tuple_inj ha hb
  subst this
  exact aa7 ep I px py
theorem a93 (ep:EqRep X n R) (hu:X.A.units + 1 + n < cLine):OpR X (compareOp .Eq) (fun x y H Q=>∃ ds ds',av8 X.K R H x ds ∧ av8 X.K R H y ds' ∧ Q (.bl (decide (ds = ds'))) H):=by
 intro pins s σ H x y v u Q I rx ry h
 obtain ⟨dx,dy,⟨a,xs,rfl,ha,px⟩,⟨b,ys,rfl,hb,py⟩,q⟩:=h
 cases rx
 cases ry
 obtain ⟨us,r1,p1,_⟩:=I.list ha
 obtain ⟨vs,r2,p2,_⟩:=I.list hb
 have l1:=r1.length
 have l2:=r2.length
 have l3:=Paired.length px
 have l4:=Paired.length py
 by_cases hl:dx.length = dy.length
 ·refine SeqAt.RcAt.lists (e:=fun j=>decide (dx[j]? = dy[j]?)) p1.isList p2.isList (by simp only [List.size_toArray]; lia) (by lia) (ag5 ep I px py r1 r2 (by show X.A.units + 1 + n < cLine; lia)) X.prog X.w X.xe _ ?_
  rw [List.size_toArray,show us.length = dx.length by lia,ar5 dx dy hl]
  exact ⟨.bl _,H,I,rfl,q⟩
 ·refine SeqAt.RcAt.lists_lengths p1.isList p2.isList (by simp only [List.size_toArray]; simpa using (by lia:us.length ≠ vs.length)) (by lia) X.prog X.w X.xe _ ?_
  rw [decide_eq_false (fun z=>hl (by rw [z]))] at q
  exact ⟨.bl false,H,I,rfl,q⟩
theorem a_3 (ep:EqRep X n R) (hu:X.A.units + 1 + n < cLine):OpR X (compareOp .NotEq) (fun x y H Q=>∃ ds ds',av8 X.K R H x ds ∧ av8 X.K R H y ds' ∧ Q (.bl (!decide (ds = ds'))) H):=by
 intro pins s σ H x y v u Q I rx ry h
 obtain ⟨dx,dy,⟨a,xs,rfl,ha,px⟩,⟨b,ys,rfl,hb,py⟩,q⟩:=h
 cases rx
 cases ry
 obtain ⟨us,r1,p1,_⟩:=I.list ha
 obtain ⟨vs,r2,p2,_⟩:=I.list hb
 have l1:=r1.length
 have l2:=r2.length
 have l3:=Paired.length px
 have l4:=Paired.length py
 by_cases hl:dx.length = dy.length
 ·refine SeqAt.RcNeAt.lists (e:=fun j=>decide (dx[j]? = dy[j]?)) p1.isList p2.isList (by simp only [List.size_toArray]; lia) (by lia) (ag5 ep I px py r1 r2 (by show X.A.units + 1 + n < cLine; lia)) X.prog X.w X.xe _ ?_
  rw [List.size_toArray,show us.length = dx.length by lia,ar5 dx dy hl]
  exact ⟨.bl _,H,I,rfl,q⟩
 ·refine SeqAt.RcNeAt.lists_lengths p1.isList p2.isList (by simp only [List.size_toArray]; simpa using (by lia:us.length ≠ vs.length)) (by lia) X.prog X.w X.xe _ ?_
  rw [decide_eq_false (fun z=>hl (by rw [z]))] at q
  exact ⟨.bl true,H,I,rfl,q⟩
end
end L2
namespace L2
open PySem PySem.Spec PyProof.Rows PySem.W
def Q0:List V → List V → Option Bool
 | [],[]=>some false
 | [],_ :: _=>some true
 | _ :: _,[]=>some false
 | .int a :: r,.int b :: r'=>if a = b then Q0 r r' else some (decide (a < b))
 | .ref a :: r,.ref b :: r'=>if a = b then Q0 r r' else none
 | _,_=>none
section
variable {prog:Program} {w:World} {A:Around} {E:Value → Shared → Prop} {s:Shared}
theorem aX9 {a b:Int} {t u:Tok} {k:Bool} {Q:Bool → Shared → Prop} (h:Q (decide (a < b)) s):wpAny (model prog w) A (oneLt' k (.int a t) (.int b u)) Q E s:=by
 cases k with
 | true=>exact oneLt_int h
 | false=>exact kat_one _ _ (lt_int (show PySem.W.BoolBack Q (.bool (decide (a < b))) s from h))
theorem ai1 {b fin:Bool} {Q:Bool → Shared → Prop}:∀ (xs ys:List V) (us vs:List Value) (i:Nat) (c:Bool),u0 xs us → u0 ys vs → Q0 xs ys = some c → fin = decide (us.length < vs.length) → Q c s → KatLex prog w A b fin Q (us.zip vs) i s
 | [],[],_,_,i,c,.nil,.nil,h,hf,q=>by
  have e:c = false:=by simpa [Q0] using h.symm
  subst e
  refine kat_nil ?_
  rw [hf]; exact q
 | [],y :: ys,_,_,i,c,.nil,.cons _ _,h,hf,q=>by
  have e:c = true:=by simpa [Q0] using h.symm
  subst e
  refine kat_nil ?_
  rw [hf,decide_eq_true (by simp)]; exact q
 | x :: xs,[],_,_,i,c,.cons _ _,.nil,h,hf,q=>by
  have e:c = false:=by cases x <;> simpa [Q0] using h.symm
  subst e
  refine kat_nil ?_
  rw [hf,decide_eq_false (by simp)]; exact q
 | x :: xs,y :: ys,u :: us,v :: vs,i,c,.cons rx tx,.cons ry ty,h,hf,q=>by
  have hf':fin = decide (us.length < vs.length):=by
   rw [hf,List.length_cons,List.length_cons]
   rw [Bool.eq_iff_iff,decide_eq_true_iff,decide_eq_true_iff]
   lia
  rw [List.zip_cons_cons]
  cases x with
  | int m =>
   cases y with
   | int k =>
    obtain ⟨t,rfl⟩:=rx
    obtain ⟨t',rfl⟩:=ry
    refine kat_cons (wpAny_eqBool_int ?_)
    by_cases e:m = k
    ·rw [show (m == k) = true by simpa using e]
     have h':Q0 xs ys = some c:=by simpa [Q0,e] using h
     exact kat_yes (ai1 xs ys us vs (i + 1) c tx ty h' hf' q)
    ·rw [show (m == k) = false by simpa using e]
     have h':decide (m < k) = c:=by simpa [Q0,e] using h
     refine kat_no (aX9 ?_)
     rw [h']; exact q
   | _=>simp [Q0] at h
  | ref m =>
   cases y with
   | ref k =>
    cases rx
    cases ry
    by_cases e:m = k
    ·subst e
     have h':Q0 xs ys = some c:=by simpa [Q0] using h
     exact kat_cons (SeqAt.EqAt.same (.ref m) prog w _ _ (kat_yes (ai1 xs ys us vs (i + 1) c tx ty h' hf' q)))
    ·simp [Q0,e] at h
   | _=>simp [Q0] at h
  | _=>cases y <;> simp [Q0] at h
theorem at7 {a:Addr} {vs:List Value} {n:Nat} {r:Nat → Int} {P:PySem.Fin → Shared → Prop} (ho:s.heap.get? a = some (seqObj "list" vs.toArray n)) (h64:vs.length < 64)
  (hk:∀ (h':Heap),(∀ b o,b ≠ a → s.heap.get? b = some o → h'.get? b = some o) → 2 ≤ vs.length → ∀ Q':SortKind → Shared → Prop,Q' (tuples' true) { s with heap:=h' } → wpAny (model prog w) A (keyKind' vs.toArray) Q' E { s with heap:=h' })
  (hc:∀ (h':Heap),(∀ b o,b ≠ a → s.heap.get? b = some o → h'.get? b = some o) → ∀ i j,i < vs.length → j < vs.length → ∀ C:Bool → Shared → Prop,C (decide (r i < r j)) { s with heap:=h' } → wpAny (model prog w) A (keyLt' (tuples' true) (vs.getD i Value.none) (vs.getD j Value.none)) C (fun _ _=>False) { s with heap:=h' })
  (h:∀ p:Array Nat,p.Perm (List.range vs.length).toArray → Up r p vs.length → P (.done (.ret .none)) { s with heap:=sortedHeap s.heap a vs (p.toList.map fun i=>vs.getD i Value.none).toArray }) :
  wpAny (model prog w) A (Builtin.«list.sort» ⟨[.ref a],[]⟩) P E s:=by
 have ha:a < s.heap.objs.size:=Heap.lt_size ho
 rw [list_sort_plain]
 refine wpAny_bind (listItems_at ho rfl ?_)
 refine wpAny_bind (listUpdate_at ho rfl ?_ (by rw [List.size_toArray,sizeLine_eq]; lia) (Nat.zero_le _))
 obtain ⟨e1,ho1⟩:∃ e1,(s.heap.update a (Obj.mapSeq fun _=>(#[]:Array Value))).get? a = some (seqObj "list" #[] e1):=⟨_,get?_update_seq ho fun _=>#[]⟩
 refine wpAny_bind (seqEpoch_at ho1 rfl ?_)
 refine wpAny_bind (wpAny_newTuple ?_ (by show vs.length ≤ _; rw [sizeLine_eq]; lia))
 refine wpAny_bind (wpAny_newList ?_ (Nat.zero_le _))
 refine wpAny_holding ?_
 have keep:∀ b o,b ≠ a → s.heap.get? b = some o → (((s.heap.update a (Obj.mapSeq fun _=>(#[]:Array Value))).push (seqObj "tuple" vs.toArray 0)).push (seqObj "list" #[] 0)).get? b = some o:=fun b o hb q =>
  Heap.get?_push_of_some _ (Heap.get?_push_of_some _ ((Heap.get?_update_other _ _ (Ne.symm hb)).trans q))
 have ho6:(((s.heap.update a (Obj.mapSeq fun _=>(#[]:Array Value))).push (seqObj "tuple" vs.toArray 0)).push (seqObj "list" #[] 0)).get? a = some (seqObj "list" #[] e1):=Heap.get?_push_of_some _ (Heap.get?_push_of_some _ ho1)
 show wpAny (model prog w) A _ P E { s with heap:=((s.heap.update a (Obj.mapSeq fun _=>(#[]:Array Value))).push (seqObj "tuple" vs.toArray 0)).push (seqObj "list" #[] 0) }
 dsimp only
 by_cases h2:vs.toArray.size < 2
 ·rw [if_pos h2,if_pos h2]
  refine wpAny_bind (wpAny_pure ?_)
  rw [StateT.run_pure]
  refine wpAny_bind (wpAny_pure ?_)
  dsimp only
  refine wpAny_bind (seqEpoch_at ho6 rfl ?_)
  have eo:(arrOf (SortSt.mk' general' (vs.toArray.zip vs.toArray) #[] 7 none)).map (·.2) = (((List.range vs.length).toArray.toList).map fun i=>vs.getD i Value.none).toArray:=by
   have e3:((List.range vs.length).toArray.toList.map fun i=>vs.getD i Value.none) = vs:=by
    apply List.ext_getElem
    ·simp
    ·intro i q1 q2
     simp [List.getD,q2]
   rw [e3]
   show (vs.toArray.zip vs.toArray).map (·.2) = vs.toArray
   apply Array.ext
   ·simp
   ·intro i q1 q2
    simp
  refine wpAny_bind (listUpdate_at ho6 rfl ?_ (Nat.zero_le _) (by rw [eo,List.size_toArray,List.length_map]; simp; rw [sizeLine_eq]; lia))
  simp only [bne_self_eq_false,Bool.false_eq_true,if_false]
  refine wpAny_pure ?_
  rw [eo]
  refine h (List.range vs.length).toArray (Array.Perm.refl _) fun i hi hb=>?_
  rw [List.size_toArray] at h2
  lia
 ·rw [if_neg h2,if_neg h2]
  rw [List.size_toArray] at h2
  refine wpAny_bind (hk _ keep (by lia) _ ?_)
  have run:=kat_run (E:=E) (κ:=tuples' true) (ks:=vs) (vs:=vs) (prog:=prog) (w:=w) (A:=A) (Q:=fun st' s'=>s' = { s with heap:=((s.heap.update a (Obj.mapSeq fun _=>(#[]:Array Value))).push (seqObj "tuple" vs.toArray 0)).push (seqObj "list" #[] 0) } ∧ failedOf st' = none ∧ ∃ p:Array Nat,p.Perm (List.range vs.length).toArray ∧ Up r p vs.length ∧ arrOf st' = p.map (kas_item (vs.toArray.zip vs.toArray)))
   (G:=fun p s'=>s' = { s with heap:=((s.heap.update a (Obj.mapSeq fun _=>(#[]:Array Value))).push (seqObj "tuple" vs.toArray 0)).push (seqObj "list" #[] 0) } ∧ p.Perm (List.range vs.length).toArray ∧ Up r p vs.length) rfl (by lia) h64 (fun p st' s' a1 a2 a3 ⟨b1,b2,b3⟩=>⟨b1,a3,p,b2,b3,a2⟩)
   (a58 (J:=fun s'=>s' = { s with heap:=((s.heap.update a (Obj.mapSeq fun _=>(#[]:Array Value))).push (seqObj "tuple" vs.toArray 0)).push (seqObj "list" #[] 0) }) (lt:=ltR r) (n:=vs.length) (fun i j C s' hi hj hJ q=>by
    subst hJ
    exact hc _ keep i j hi hj C (q _ rfl)) _ _ _ (aM1 (by lia)) rfl fun s' hJ=>⟨hJ,aY0 (by lia)⟩)
  refine wpAny_bind (wpAny_mono run ?_ fun _ _ e=>e)
  rintro ⟨⟨⟩,st'⟩ s' ⟨rfl,hf,p,pm,up,har⟩
  dsimp only
  have hout:=kat_snds (ks:=vs) (vs:=vs) rfl har
  have hsz:(p.toList.map fun i=>vs.getD i Value.none).toArray.size = vs.length:=by rw [List.size_toArray,List.length_map,Array.length_toList,pm.size_eq]; simp
  rw [hout]
  refine wpAny_bind (seqEpoch_at ho6 rfl ?_)
  refine wpAny_bind (listUpdate_at ho6 rfl ?_ (Nat.zero_le _) (by rw [hsz,sizeLine_eq]; lia))
  rw [hf]
  simp only [bne_self_eq_false,Bool.false_eq_true,if_false]
  exact wpAny_pure (h p pm up)
theorem aN7 {l:Addr} {vs:List Value} {r:Nat → Int} {Q:Value → Shared → Prop} (hl:s.heap.IsList l vs.toArray) (h64:vs.length < 64)
  (hk:∀ (A:Around) (E:Value → Shared → Prop) (h':Heap),(∀ b o,s.heap.get? b = some o → h'.get? b = some o) → 2 ≤ vs.length → ∀ Q':SortKind → Shared → Prop,Q' (tuples' true) { s with heap:=h' } → wpAny (model prog w) A (keyKind' vs.toArray) Q' E { s with heap:=h' })
  (hc:∀ (A:Around) (h':Heap),(∀ b o,s.heap.get? b = some o → h'.get? b = some o) → ∀ i j,i < vs.length → j < vs.length → ∀ C:Bool → Shared → Prop,C (decide (r i < r j)) { s with heap:=h' } → wpAny (model prog w) A (keyLt' (tuples' true) (vs.getD i Value.none) (vs.getD j Value.none)) C (fun _ _=>False) { s with heap:=h' })
  (h:∀ (p:Array Nat),p.Perm (List.range vs.length).toArray → Up r p vs.length → Q (.ref (s.heap.objs.size + 1)) { s with heap:=sortedAll s.heap vs (p.toList.map fun i=>vs.getD i Value.none).toArray }) :
  wpAny (model prog w) A (call (.builtin "sorted") [.ref l]) Q E s:=by
 refine Calls.call_function_entry kind_sorted plain_sorted entry_sorted (args_sorted1 _) ?_
 unfold Builtin.«sorted»
 refine wpAny_bind (m:=checkCount "sorted" 1 1 _) (wpAny_pure ?_)
 refine wpAny_bind (collect_list hl ?_ (by rw [sizeLine_eq]; lia))
 refine wpAny_bind (wpAny_newList ?_ (by rw [sizeLine_eq]; lia))
 have sz:((s.heap.push (seqObj "list" #[] 0)).update s.heap.objs.size (Obj.mapSeq (· ++ vs.toArray))).objs.size = s.heap.objs.size + 1:=by rw [Heap.size_update,size_push']
 have hoL:(((s.heap.push (seqObj "list" #[] 0)).update s.heap.objs.size (Obj.mapSeq (· ++ vs.toArray))).push (seqObj "list" vs.toArray 0)).get? (s.heap.objs.size + 1) = some (seqObj "list" vs.toArray 0):=by
  rw [← sz]; exact Heap.get?_push_size _ rfl
 have keep:∀ b o,s.heap.get? b = some o → (((s.heap.push (seqObj "list" #[] 0)).update s.heap.objs.size (Obj.mapSeq (· ++ vs.toArray))).push (seqObj "list" vs.toArray 0)).get? b = some o:=fun b o q =>
  Heap.get?_push_of_some _ ((Heap.get?_update_other _ _ (Nat.ne_of_gt (Heap.lt_size q))).trans (Heap.get?_push_of_some _ q))
 show wpAny _ _ _ _ _ { s with heap:=((s.heap.push (seqObj "list" #[] 0)).update s.heap.objs.size (Obj.mapSeq (· ++ vs.toArray))).push (seqObj "list" vs.toArray 0) }
 rw [sz]
 refine wpAny_bind (wpAny_holding (wpAny_call_entry slot_list_sort ⟨_,hoL,rfl⟩ entry_list_sort (at7 (r:=r) (s:={ s with heap:=((s.heap.push (seqObj "list" #[] 0)).update s.heap.objs.size (Obj.mapSeq (· ++ vs.toArray))).push (seqObj "list" vs.toArray 0) }) hoL h64
  (fun h' kp h2 Q' q=>hk _ _ h' (fun b o e=>kp b o (Nat.ne_of_lt (Nat.lt_succ_of_lt (Heap.lt_size e))) (keep b o e)) h2 Q' q)
  (fun h' kp i j hi hj C q=>hc _ h' (fun b o e=>kp b o (Nat.ne_of_lt (Nat.lt_succ_of_lt (Heap.lt_size e))) (keep b o e)) i j hi hj C q) fun p pm up=>⟨_,rfl,?_⟩) (args_list_sort _)))
 exact wpAny_pure ⟨_,rfl,h p pm up⟩
end
section
variable {X:Cx}
def ab0 (K:PySem.W.Frag) (H:Hp) (as:List Addr) (its:List (List V)):Prop:=Paired (fun a xs=>SqT K H a xs ∧ ∃ i r,xs = V.int i :: r) as its
theorem aA1 {K:PySem.W.Frag} {H:Hp} {as:List Addr} {its:List (List V)} (h:ab0 K H as its):∀ (i:Nat),i < as.length → ∃ a xs,as[i]? = some a ∧ its[i]? = some xs ∧ SqT K H a xs ∧ ∃ j r,xs = V.int j :: r:=fun i hi=>by
 have e:as[i]? = some as[i]:=List.getElem?_eq_getElem hi
 obtain ⟨d,e2,q⟩:=m3 h i _ e
 exact ⟨_,d,e,e2,q.1,q.2⟩
theorem aa8:B0 X (.builtin "sorted") (fun xs H Q=>∃ (p:Addr) (as:List Addr) (its:List (List V)) (r:Nat → Int),xs = [.ref p] ∧ SqL X.K H p (as.map V.ref) ∧ ab0 X.K H as its ∧ as.length < 64 ∧
  (∀ i j x y,its[i]? = some x → its[j]? = some y → Q0 x y = some (decide (r i < r j))) ∧ ∀ q:Array Nat,q.Perm (List.range as.length).toArray → Up r q as.length → ∀ l,H l = none → Q (.ref l) (upd H l (.lst ((q.toList.map fun i=>as.getD i 0).map V.ref)))):=by
 intro pins s σ H xs us Q I r0 h
 obtain ⟨p,as,its,r,rfl,hq,ht,h64,hcmp,q⟩:=h
 obtain ⟨u,rfl,rx⟩:=P7 r0
 cases rx
 obtain ⟨vs,r',pl,hz⟩:=I.list hq
 have evs:vs = as.map Value.ref:=by
  have go:∀ (as:List Addr) (vs:List Value),u0 (as.map V.ref) vs → vs = as.map Value.ref:=by
   intro as
   induction as with
   | nil=>intro vs r; cases r; rfl
   | cons a t ih =>
    intro vs r
    rw [List.map_cons] at r
    cases r with
    | cons r1 r2=>rw [show _ = Value.ref a from r1,ih _ r2]; rfl
  exact go as vs r'
 subst evs
 have hl:(as.map Value.ref).length = as.length:=List.length_map _
 have hget:∀ i a,as[i]? = some a → (as.map Value.ref).getD i Value.none = .ref a:=fun i a e=>by
  rw [List.getD,List.getElem?_map,e]; rfl
 have tl:=Paired.length ht
 refine aN7 (r:=r) pl.isList (by rw [hl]; exact h64) (fun A E h' kp h2 Q' q'=>?_) (fun A h' kp i j hi hj C q'=>?_) fun pq pm up=>?_
 ·-- the kind
  have I':Inv X pins σ H { s with heap:=h' }:=I.kept (t':=s.toks) kp
  have go:∀ (as:List Addr) (its:List (List V)),ab0 X.K H as its → ∃ fs:List Value,KatTups h' (as.map Value.ref) fs ∧ (∀ v ∈ fs,∃ i t,v = .int i t) ∧ fs.length = as.length:=by
   intro as its hT
   unfold ab0 at hT
   induction hT with
   | nil=>exact ⟨[],trivial,fun v hv=>absurd hv (by simp),rfl⟩
   | @cons a xs as its hx t ih =>
    obtain ⟨fs,k1,k2,k3⟩:=ih
    obtain ⟨hS,i,r,rfl⟩:=hx
    obtain ⟨us,ru,pu,_⟩:=I'.tuple hS
    cases ru with
    | @cons _ u _ us r1 r2 =>
     obtain ⟨tk,rfl⟩:=r1
     obtain ⟨o,e1,e2,n,e3⟩:=pu
     refine ⟨.int i tk :: fs,KatTups.cons e1 e2 e3 (by simp) k1,fun v hv=>?_,by rw [List.length_cons,List.length_cons,k3]⟩
     rcases List.mem_cons.mp hv with rfl | hv
     ·exact ⟨i,tk,rfl⟩
     ·exact k2 v hv
  obtain ⟨fs,k1,k2,k3⟩:=go as its ht
  refine kat_kind (T:=.type "int") k1 (by rw [hl] at h2; lia) (fun v hv=>?_) (by decide) q'
  obtain ⟨i,tk,rfl⟩:=k2 v hv
  exact .now
 ·-- a comparison
  have I':Inv X pins σ H { s with heap:=h' }:=I.kept (t':=s.toks) kp
  rw [hl] at hi hj
  obtain ⟨a,x,ea,ex,hS,_⟩:=aA1 ht i hi
  obtain ⟨b,y,eb,ey,hS',_⟩:=aA1 ht j hj
  rw [hget i a ea,hget j b eb]
  obtain ⟨us,ru,⟨o,e1,e2,n,e3⟩,_⟩:=I'.tuple hS
  obtain ⟨us',ru',⟨o',e1',e2',n',e3'⟩,_⟩:=I'.tuple hS'
  refine kat_lt e1 e3 e1' e3' ?_
  exact ai1 x y us us' 0 _ (by simpa using ru) (by simpa using ru') (hcmp i j x y ex ey) (by simp) q'
 ·have sz:(pq.toList.map fun i=>(as.map Value.ref).getD i Value.none) = (pq.toList.map fun i=>as.getD i 0).map Value.ref:=by
   rw [List.map_map]
   apply List.map_congr_left
   intro i hi
   have hi':i < as.length:=by
    have:=(Array.Perm.mem_iff pm (a:=i)).mp (by simpa using hi)
    rw [hl] at this
    simpa using this
   show _ = Value.ref (as.getD i 0)
   rw [hget i as[i] (List.getElem?_eq_getElem hi')]
   simp [List.getD,hi']
  rw [sz]
  rw [hl] at pm up
  obtain ⟨e,he⟩:=sortedAll_at s.heap (as.map Value.ref) ((pq.toList.map fun i=>as.getD i 0).map Value.ref).toArray
  have vr:∀ bs:List Addr,u0 (bs.map V.ref) (bs.map Value.ref):=fun bs=>by
   induction bs with
   | nil=>exact .nil
   | cons b t ih=>exact .cons rfl ih
  have hlen:((pq.toList.map fun i=>as.getD i 0).map V.ref).length ≤ sizeLine:=by
   rw [List.length_map,List.length_map,Array.length_toList,pm.size_eq]
   exact Nat.le_of_lt (n5 (by simp; lia))
  exact ⟨.ref (s.heap.objs.size + 1),_,I.laid (t':=s.toks) (o:=.lst ((pq.toList.map fun i=>as.getD i 0).map V.ref)) (fun b o e=>sortedAll_old e) (Nat.le_succ _) ⟨hlen,_,e,vr _,by simpa [seqObj] using he⟩,rfl,q pq pm up _ (I.hok.fresh (Nat.le_succ _))⟩
end
end L2
namespace L2
open PySem PySem.Spec PyProof.Rows
section
variable {es:List Expr} {env:Env} {c:Const} {i:Nat} {p:Pos}
theorem m6:starEach (.Constant c i p :: es) env = (false,eval (.Constant c i p) env) :: starEach es env:=by rw [starEach]; intro a b h; cases h
theorem b9 {x:Str}:starEach (.Name x p :: es) env = (false,eval (.Name x p) env) :: starEach es env:=by rw [starEach]; intro a b h; cases h
theorem r9 {f:Expr} {as:List Expr} {ks:List Keyword}:starEach (.Call f as ks p :: es) env = (false,eval (.Call f as ks p) env) :: starEach es env:=by rw [starEach]; intro a b h; cases h
theorem O9 {a b:Expr} {o:Operator}:starEach (.BinOp a o b p :: es) env = (false,eval (.BinOp a o b p) env) :: starEach es env:=by rw [starEach]; intro a b h; cases h
theorem ax8 {a:Expr} {o:UnaryOp}:starEach (.UnaryOp o a p :: es) env = (false,eval (.UnaryOp o a p) env) :: starEach es env:=by rw [starEach]; intro a b h; cases h
theorem x6 {a b:Expr}:starEach (.Subscript a b p :: es) env = (false,eval (.Subscript a b p) env) :: starEach es env:=by rw [starEach]; intro a b h; cases h
theorem O4 {a:List Expr}:starEach (.Tuple a i p :: es) env = (false,eval (.Tuple a i p) env) :: starEach es env:=by rw [starEach]; intro a b h; cases h
theorem K4 {a:List Expr}:starEach (.List a p :: es) env = (false,eval (.List a p) env) :: starEach es env:=by rw [starEach]; intro a b h; cases h
theorem V5 {a:Expr} {g:List Comprehension} {s:Scope}:starEach (.ListComp a g s p :: es) env = (false,eval (.ListComp a g s p) env) :: starEach es env:=by rw [starEach]; intro a b h; cases h
theorem ae7 {a:Expr} {x:Str}:starEach (.Attribute a x p :: es) env = (false,eval (.Attribute a x p) env) :: starEach es env:=by rw [starEach]; intro a b h; cases h
end
section
variable {X:Cx}
theorem n9 (K:PySem.W.Frag) (h:X.K = K:=by rfl):IxR X (a80 K):=h ▸ aJ9
theorem j0 (K:PySem.W.Frag) (h:X.K = K:=by rfl):IxR X (a89 K):=h ▸ aQ4
theorem O0 (K:PySem.W.Frag) (h:X.K = K:=by rfl):SlR X (be3 K):=h ▸ a45
theorem Y3 (K:PySem.W.Frag) (h:X.K = K:=by rfl):OpR X (compareOp .In) (rIn K false):=h ▸ aO9
theorem al6 (K:PySem.W.Frag) (h:X.K = K:=by rfl):OpR X (compareOp .NotIn) (rIn K true):=h ▸ at8
def aX3 (K:PySem.W.Frag):List V → Hp → VK → Prop:=fun xs H Q=>∃ p ys,xs = [.ref p] ∧ (SqL K H p ys ∨ SqT K H p ys) ∧ Q (.int ys.length) H
theorem o7 (K:PySem.W.Frag) (h:X.K = K:=by rfl):B0 X (.builtin "len") (aX3 K):=h ▸ au7
def aZ3 (K:PySem.W.Frag):List V → Hp → VK → Prop:=fun xs H Q=>∃ p ys,xs = [.ref p] ∧ (SqL K H p ys ∨ SqT K H p ys) ∧ ∀ l,H l = none → Q (.ref l) (upd H l (.lst ys))
theorem R3 (K:PySem.W.Frag) (h:X.K = K:=by rfl):B0 X (.type "list") (aZ3 K):=h ▸ as6
def aR7 (K:PySem.W.Frag):List V → Hp → VK → Prop:=fun xs H Q=>∃ p ys,xs = [.ref p] ∧ ((SqL K H p ys ∧ ∀ l,H l = none → Q (.ref l) (upd H l (.tup ys))) ∨ (SqT K H p ys ∧ Q (.ref p) H))
theorem M1 (K:PySem.W.Frag) (h:X.K = K:=by rfl):B0 X (.type "tuple") (aR7 K):=h ▸ ak2
def aZ1 (K:PySem.W.Frag):List V → Hp → VK → Prop:=fun xs H Q=>∃ v T t b,xs = [v,.ty T] ∧ TyOf K H v t ∧ PySem.W.kitOne K t (.type T) = some b ∧ Q (.bl b) H
theorem j6 (K:PySem.W.Frag) (h:X.K = K:=by rfl):B0 X (.builtin "isinstance") (aZ1 K):=h ▸ aB5
def bf0 (K:PySem.W.Frag):List V → Hp → VK → Prop:=fun xs H Q=>∃ (p:Addr) (bs:List Bool),xs = [.ref p] ∧ SqL K H p (bs.map V.bl) ∧ Q (.bl (bs.all id)) H
theorem am9 (K:PySem.W.Frag) (hc:X.calm = true) (h:X.K = K:=by rfl):B0 X (.builtin "all") (bf0 K):=h ▸ ai0 hc
def bb9 (K:PySem.W.Frag):List V → Hp → VK → Prop:=fun xs H Q=>∃ (p:Addr) (bs:List Bool),xs = [.ref p] ∧ SqL K H p (bs.map V.bl) ∧ Q (.bl (bs.any id)) H
theorem aO4 (K:PySem.W.Frag) (hc:X.calm = true) (h:X.K = K:=by rfl):B0 X (.builtin "any") (bb9 K):=h ▸ aj3 hc
def aV8 (K:PySem.W.Frag):List V → Hp → VK → Prop:=fun xs H Q=>∃ (p:Addr) (ns:List Int),xs = [.ref p] ∧ SqL K H p (ns.map V.int) ∧ ns.length < 64 ∧ ∀ ns':List Int,ns'.Perm ns → ns'.Pairwise (· ≤ ·) → ∀ l,H l = none → Q (.ref l) (upd H l (.lst (ns'.map V.int)))
theorem Z0 (K:PySem.W.Frag) (h:X.K = K:=by rfl):B0 X (.builtin "sorted") (aV8 K):=h ▸ ab7
def aN3 (P:Program) (w:World) (l:Addr) (ns:List Int):HO:=.ext fun h=>M4 (intKind P w) h l (fun k=>decide (k ∈ ns)) (A0 ns).length
def a64 (K:PySem.W.Frag) (P:Program) (w:World):List V → Hp → VK → Prop:=fun xs H Q=>∃ (p:Addr) (ns:List Int),xs = [.ref p] ∧ SqL K H p (ns.map V.int) ∧ ns.length < 4000 ∧ ∀ l,H l = none → Q (.ref l) (upd H l (aN3 P w l ns))
theorem ac5 (K:PySem.W.Frag) (P:Program) (w:World) (hc:X.calm = true) (h:X.K = K:=by rfl) (hP:X.prog = P:=by rfl) (hw:X.w = w:=by rfl):B0 X (.type "set") (a64 K P w):=by
 subst h hP hw
 exact ak7 hc
def ay1 (P:Program) (w:World):List V → Hp → VK → Prop:=fun xs H Q=>∃ (p:Addr) (ns:List Int),xs = [.ref p] ∧ H p = some (aN3 P w p ns) ∧ ns.length < 64 ∧ ∀ l,H l = none → Q (.ref l) (upd H l (.lst ((A0 ns).map V.int)))
theorem W1 (P:Program) (w:World) (hc:X.calm = true) (hP:X.prog = P:=by rfl) (hw:X.w = w:=by rfl):B0 X (.builtin "sorted") (ay1 P w):=by
 subst hP hw
 exact ae4 hc
def bf1 (P:Program) (w:World):List V → Hp → VK → Prop:=fun xs H Q=>∃ (p:Addr) (ns:List Int),xs = [.ref p] ∧ H p = some (aN3 P w p ns) ∧ Q (.int (A0 ns).length) H
theorem ai5 (P:Program) (w:World) (hP:X.prog = P:=by rfl) (hw:X.w = w:=by rfl):B0 X (.builtin "len") (bf1 P w):=by
 subst hP hw
 exact call_len_set
def ax6 (K:PySem.W.Frag):List V → Hp → VK → Prop:=fun xs H Q=>∃ (p:Addr) (as:List Addr) (its:List (List V)) (r:Nat → Int),xs = [.ref p] ∧ SqL K H p (as.map V.ref) ∧ ab0 K H as its ∧ as.length < 64 ∧
  (∀ i j x y,its[i]? = some x → its[j]? = some y → Q0 x y = some (decide (r i < r j))) ∧ ∀ q:Array Nat,q.Perm (List.range as.length).toArray → Up r q as.length → ∀ l,H l = none → Q (.ref l) (upd H l (.lst ((q.toList.map fun i=>as.getD i 0).map V.ref)))
theorem Q1 (K:PySem.W.Frag) (h:X.K = K:=by rfl):B0 X (.builtin "sorted") (ax6 K):=h ▸ aa8
def bh4 (K:PySem.W.Frag):R2:=fun x y H Q=>∃ (a b:Addr) (ns ms:List Int),x = .ref a ∧ y = .ref b ∧ SqL K H a (ns.map V.int) ∧ SqL K H b (ms.map V.int) ∧ Q (.bl (!decide (ns = ms))) H
def bg4 (K:PySem.W.Frag):R2:=fun x y H Q=>∃ (a b:Addr) (ns ms:List Int),x = .ref a ∧ y = .ref b ∧ SqL K H a (ns.map V.int) ∧ SqL K H b (ms.map V.int) ∧ Q (.bl (decide (ns = ms))) H
theorem a00 (K:PySem.W.Frag) (hu:X.A.units < cLine) (h:X.K = K:=by rfl):OpR X (compareOp .NotEq) (bh4 K):=h ▸ aY5 hu
theorem a44 (K:PySem.W.Frag) (hu:X.A.units < cLine) (h:X.K = K:=by rfl):OpR X (compareOp .Eq) (bg4 K):=h ▸ aY7 hu
section
variable {δ:Type} [DecidableEq δ] {n:Nat} {R:Hp → V → δ → Prop}
def bf7 (K:PySem.W.Frag) (R:Hp → V → δ → Prop):R2:=fun x y H Q=>∃ ds ds',av8 K R H x ds ∧ av8 K R H y ds' ∧ Q (.bl (!decide (ds = ds'))) H
def bh1 (K:PySem.W.Frag) (R:Hp → V → δ → Prop):R2:=fun x y H Q=>∃ ds ds',av8 K R H x ds ∧ av8 K R H y ds' ∧ Q (.bl (decide (ds = ds'))) H
theorem a09 (K:PySem.W.Frag) (ep:EqRep X n R) (hu:X.A.units + 1 + n < cLine) (h:X.K = K:=by rfl):OpR X (compareOp .NotEq) (bf7 K R):=h ▸ a_3 ep hu
theorem aX7 (K:PySem.W.Frag) (ep:EqRep X n R) (hu:X.A.units + 1 + n < cLine) (h:X.K = K:=by rfl):OpR X (compareOp .Eq) (bh1 K R):=h ▸ a93 ep hu
end
def bi2 (K:PySem.W.Frag) (ta:TE):TT:=fun σ H Q=>ta σ H fun x H'=>∃ k,a82 K x H' k ∧ Q k H'
theorem m9 (K:PySem.W.Frag) {a:Expr} {ta:TE} (ha:PE X a ta) (he:∀ whole,isTrue a X.env whole = (do let v ← whole; standAt a.pos; holding [v] (truthy v))) (h:X.K = K:=by rfl):PT X a (bi2 K ta):=h ▸ aT6 ha he
theorem y9 (K:PySem.W.Frag) {tg l:Expr} {tl:TE} (hl:PE X l tl) (h:X.K = K:=by rfl):PI X tg l (a61 K tl):=h ▸ aY2 hl
theorem au1 (K:PySem.W.Frag) {tg l:Expr} {tl:TE} (hl:PE X l tl) (h:X.K = K:=by rfl):PI X tg l (bd3 K tl):=h ▸ ba6 hl
variable {x y z w:Str} {i j k l n:Nat} {px py pz pw pt:Pos}
end
section
variable {X:Cx} {o e:Expr} {es:List Expr} {to:TE} {t:TA} {name:Str} {apos cpos:Pos} {T id:String} {r:V → List V → Hp → VK → Prop}
theorem K8 (K:PySem.W.Frag) (pa:PlainAttrs T) (slot:Slot T name id) (hty:typeOf (.builtin id) = pure (.type "method_descriptor")) (hm:MtR X id r) (ho:PE X o to) (ha:PA X (e :: es) t) (h:X.K = K:=by rfl)
  (hbase:attributeBase o name X.env (eval o X.env) = eval o X.env:=by rfl)
  (hfew:((backTo cpos (starEach (e :: es) X.env)).all (fun x=>!x.1) && (backToKw cpos (keywordEach [] X.env)).all (fun x=>x.1.isSome)
   && decide ((e :: es).length + ([]:List Keyword).length + (if ([]:List Keyword).isEmpty then 0 else 1) < 30)) = true:=by rfl)
  (hline:(apos.endLine == cpos.line) = true:=by rfl) (hs:starEach (e :: es) X.env = (false,eval e X.env) :: starEach es X.env:=by rfl) (hplain:(backTo cpos (starEach es X.env)).any (·.1) = false:=by rfl) :
  PE X (.Call (.Attribute o name apos) (e :: es) [] cpos) (tBM K T r to t):=h ▸ bd6 pa slot hty hm ho ha hbase hfew hline hs hplain
end
end L2
namespace HT
open PySem PySem.Spec PyProof.Rows
section
variable {prog:Program} {w:World} {A:Around} {E:Value → Shared → Prop} {s:Shared}
theorem getItem_tuple_whole {t sl:Addr} {items:Array Value} {vl vu:Value} {lo hi:Option Int} {Q:Value → Shared → Prop} (ht:IsTup s.heap t items) (hs:s.heap.IsSliceOf sl vl vu .none) (pl:IsPart vl lo) (pu:IsPart vu hi)
  (hw:sIx items.size 0 lo = 0 ∧ sIx items.size items.size hi = items.size) (h:Q (.ref t) s):wpAny (model prog w) A (getItem (.ref t) (.ref sl)) Q E s:=by
 obtain ⟨os,hos,hcs,hds⟩:=id hs
 have hTs:s.TypeIs (.ref sl) "slice":=⟨os,hos,hcs⟩
 unfold getItem
 try with_reducible refine wpAny_holding ?_
 first | refine wpAny_bind (wpAny_pure ?_) | skip
 refine wpAny_bind (wpAny_sequenceKey ht.typeIs (by decide) ?_)
 refine wpAny_bind (wpAny_callSpecial?_slot (name:=Str.ofString "__getitem__") ht.typeIs PyProof.Rows.slot_tuple_getitem
  (wpAny_call_entry PyProof.Rows.slot_tuple_getitem ht.typeIs entry_tuple_getitem ?_ (args_tuple_getitem _ _)))
 show wpAny _ _ (Builtin.Tuple.tupleItemsOf (.ref t) >>= _) _ _ s
 refine wpAny_bind (tupleItemsOf_ ht ?_)
 refine wpAny_bind (wpAny_typeOf hTs ?_)
 rw [if_pos (by decide)]
 refine wpAny_bind (Q4 hs pl pu ?_)
 have hyes:((((sIx items.size 0 lo:Nat):Int) == 0 && (1:Int) == 1 && (sIx items.size items.size hi - sIx items.size 0 lo) == items.size) = true):=by
  rw [hw.1,hw.2,Nat.sub_zero]
  simp
 show wpAny _ _ (if (((sIx items.size 0 lo:Nat):Int) == 0 && (1:Int) == 1 && (sIx items.size items.size hi - sIx items.size 0 lo) == items.size) = true then _ else _) _ _ s
 rw [if_pos hyes]
 have hT:=ht.typeIs
 unfold Builtin.Tuple.tupleIsExact
 refine wpAny_bind (wpAny_bind (wpAny_typeOf hT (wpAny_pure ?_)))
 rw [if_pos (by decide)]
 first
  | exact wpAny_bind (wpAny_rule (wpAny_pure ⟨_,rfl,wpAny_pure h⟩))
  | exact wpAny_pure ⟨_,rfl,wpAny_pure h⟩
  | exact wpAny_bind (wpAny_pure (wpAny_pure ⟨_,rfl,wpAny_pure h⟩))
end
end HT
namespace L2
open PySem PySem.Spec PyProof.Rows
section
variable {X:Cx}
def bg2:V → Option Int → Option Int → Hp → VK → Prop:=fun x lo hi H Q=>∃ a xs,x = .ref a ∧ H a = some (.tup xs) ∧ ∀ (p:Addr) (H':Hp),j5 H H' → H' p = some (.tup (S4 xs lo hi)) → Q (.ref p) H'
theorem a04:SlR X bg2:=by
 intro pins s σ H x v vl vu lo hi sl Q I rx hs pl pu h
 obtain ⟨a,xs,rfl,hx,q⟩:=h
 by_cases hw:HT.sIx xs.length 0 lo = 0 ∧ HT.sIx xs.length xs.length hi = xs.length
 ·cases rx
  obtain ⟨its,r,ht,hz⟩:=I.tuple (SqT.of hx)
  have hlen:its.toArray.size = xs.length:=by rw [List.size_toArray]; exact r.length.symm
  refine ⟨"tuple",_,PyProof.Rows.slot_tuple_getitem.lookup,ht.typeIs,?_⟩
  refine HT.getItem_tuple_whole ht hs pl pu (by rw [hlen]; exact hw) ⟨.ref a,H,I,rfl,q _ _ (j5.refl H) ?_⟩
  rw [hx]
  unfold S4
  rw [hw.1,hw.2,Nat.sub_zero,List.drop_zero,List.take_length]
 ·exact ba8 pins s σ H _ v vl vu lo hi sl Q I rx hs pl pu ⟨a,xs,rfl,SqT.of hx,hw,fun p hp=>q _ _ (fun b u q=>by rw [j4 (o4 q hp)]; exact q) i3⟩
end
end L2
namespace L2
open PySem PySem.Spec PyProof.Rows
theorem F9 {α β:Type} {R R':α → β → Prop}:∀ {as:List α} {ds:List β},Paired R as ds → (∀ a b,b ∈ ds → R a b → R' a b) → Paired R' as ds
 | _,_,.nil,_=>.nil
 | _,_,.cons h t,hi=>.cons (hi _ _ (List.mem_cons_self ..) h) (F9 t fun a b hb=>hi a b (List.mem_cons_of_mem _ hb))
end L2
namespace L2
open PySem PySem.Spec PyProof.Rows
theorem Room.units2 {k:Nat} {A:Around} (r:Room k A):A.units + 1 + (0 + 1) < cLine:=by have:=r.un; lia
end L2
namespace L2
open PySem PySem.Spec PyProof.Rows
theorem B2 {X:Cx}:MtR X "list.append" aI5:=aN1
end L2
namespace L2
open PySem PySem.Spec PyProof.Rows
def a86:Hp → V → Key → Prop:=fun _ x k=>x = kV k
section
variable {X:Cx}
theorem aC3:EqRep X 0 a86 where
 eq:=fun H x y dx dy hx hy A pins s σ u v I ru rv hu=>by
  subst hx hy
  rcases dx with i | i <;> rcases dy with j | j
  ·obtain ⟨t,rfl⟩:=ru
   obtain ⟨t',rfl⟩:=rv
   have:=SeqAt.EqAt.int_int (A:=A) (s:=s) i t j t'
   rw [show decide ((Sum.inl i:Key) = Sum.inl j) = (i == j) by rw [Bool.eq_iff_iff]; simp]
   exact this
  ·obtain ⟨t,rfl⟩:=ru
   obtain ⟨t',rfl⟩:=rv
   have:=SeqAt.EqAt.int_str (A:=A) (s:=s) i t j t'
   rw [decide_eq_false (fun z=>nomatch z)]
   exact this
  ·obtain ⟨t,rfl⟩:=ru
   obtain ⟨t',rfl⟩:=rv
   have:=SeqAt.EqAt.str_int (A:=A) (s:=s) i t j t'
   rw [decide_eq_false (fun z=>nomatch z)]
   exact this
  ·obtain ⟨t,rfl⟩:=ru
   obtain ⟨t',rfl⟩:=rv
   have:=SeqAt.EqAt.str_str (A:=A) (s:=s) i t j t'
   rw [show decide ((Sum.inr i:Key) = Sum.inr j) = (i == j) by rw [Bool.eq_iff_iff]; simp]
   exact this
 fn:=fun _ _ _ _ x d d' _ h h'=>by subst h; exact a_4 h'
def inD (ds:List (List Key)) (d:List Key):Bool:=ds.any fun x=>decide (x = d)
theorem af2 {ds:List (List Key)} {d:List Key}:inD ds d = true ↔ d ∈ ds:=by
 unfold inD
 rw [List.any_eq_true]
 constructor
 ·rintro ⟨x,hx,h⟩
  rw [← of_decide_eq_true h]
  exact hx
 ·intro h
  exact ⟨d,h,decide_eq_true rfl⟩
def be1 (K:PySem.W.Frag) (neg:Bool):R2:=fun x y H Q=>∃ (p b:Addr) (as:List Addr) (d:List Key) (ds:List (List Key)),x = .ref b ∧ y = .ref p ∧ SqL K H p (as.map V.ref) ∧ SqT K H b (d.map kV) ∧ Paired (fun a d=>SqT K H a (d.map kV)) as ds ∧ Q (.bl (if neg then !inD ds d else inD ds d)) H
theorem J5 {H:Hp}:∀ d:List Key,Paired (a86 H) (d.map kV) d
 | []=>.nil
 | _ :: t=>.cons rfl (J5 t)
theorem aH6 {pins:List (Addr × Obj)} {σ:St} {H:Hp} {s:Shared} {b:Addr} {as:List Addr} {d:List Key} {ds:List (List Key)} {A:Around} (I:Inv X pins σ H s) (hb:SqT X.K H b (d.map kV)) (hp:Paired (fun a d=>SqT X.K H a (d.map kV)) as ds)
  (hu:A.units + 1 < cLine) {its:List Value} (r:u0 (as.map V.ref) its) :
  ∃ e:Value → Bool,(∀ y,y ∈ its.toArray → SeqAt.EqAt A s y (.ref b) (e y)) ∧ its.toArray.any e = inD ds d:=by
 have ep:=aE7 (X:=X) aC3
 have rd:∀ (j:Nat) a,as[j]? = some a → ∃ d',ds[j]? = some d' ∧ SqT X.K H a (d'.map kV):=fun j a h=>m3 hp j a h
 have evs:its = as.map Value.ref:=by
  have go:∀ (as:List Addr) (vs:List Value),u0 (as.map V.ref) vs → vs = as.map Value.ref:=by
   intro as
   induction as with
   | nil=>intro vs r; cases r; rfl
   | cons a t ih =>
    intro vs r
    rw [List.map_cons] at r
    cases r with
    | cons r1 r2=>rw [show _ = Value.ref a from r1,ih _ r2]; rfl
  exact go as its r
 subst evs
 let e:Value → Bool:=fun y=>match y with
  | .ref a=>(List.range as.length).any fun j=>decide (as[j]? = some a) && decide (ds[j]? = some d)
  | _=>false
 have eR:∀ a,e (.ref a) = true ↔ ∃ j:Nat,as[j]? = some a ∧ ds[j]? = some d:=fun a=>by
  show ((List.range as.length).any fun j=>decide (as[j]? = some a) && decide (ds[j]? = some d)) = true ↔ _
  rw [List.any_eq_true]
  constructor
  ·rintro ⟨j,_,h⟩
   rw [Bool.and_eq_true] at h
   exact ⟨j,of_decide_eq_true h.1,of_decide_eq_true h.2⟩
  ·rintro ⟨j,h1,h2⟩
   exact ⟨j,List.mem_range.mpr (List.getElem?_eq_some_iff.mp h1).1,by rw [Bool.and_eq_true]; exact ⟨decide_eq_true h1,decide_eq_true h2⟩⟩
 have key:∀ (j:Nat) a d',as[j]? = some a → ds[j]? = some d' → e (.ref a) = decide (d' = d):=fun j a d' h1 h2=>by
  rw [Bool.eq_iff_iff,eR,decide_eq_true_iff]
  constructor
  ·rintro ⟨k,g1,g2⟩
   obtain ⟨d1,q1,s1⟩:=rd j a h1
   obtain ⟨d2,q2,s2⟩:=rd k a g1
   rw [h2] at q1
   rw [g2] at q2
   cases q1
   cases q2
   exact ep.fn pins s σ H (.ref a) _ _ I ⟨a,_,rfl,s1,J5 _⟩ ⟨a,_,rfl,s2,J5 _⟩
  ·rintro rfl
   exact ⟨j,h1,h2⟩
 refine ⟨e,fun y hy=>?_,?_⟩
 ·have hy':y ∈ as.map Value.ref:=by simpa using hy
  obtain ⟨a,ha,rfl⟩:=List.mem_map.mp hy'
  obtain ⟨j,hj⟩:=List.getElem?_of_mem ha
  obtain ⟨d',q1,s1⟩:=rd j a hj
  rw [key j a d' hj q1]
  exact ep.eq H (.ref a) (.ref b) d' d ⟨a,_,rfl,s1,J5 _⟩ ⟨b,_,rfl,hb,J5 _⟩ A pins s σ (.ref a) (.ref b) I rfl rfl (by lia)
 ·rw [Bool.eq_iff_iff,af2,Array.any_eq_true']
  constructor
  ·rintro ⟨y,hy,h⟩
   have hy':y ∈ as.map Value.ref:=by simpa using hy
   obtain ⟨a,ha,rfl⟩:=List.mem_map.mp hy'
   obtain ⟨j,_,h2⟩:=(eR a).mp h
   exact List.mem_of_getElem? h2
  ·intro h
   obtain ⟨j,hj⟩:=List.getElem?_of_mem h
   have hl:as.length = ds.length:=Paired.length hp
   have hj':=(List.getElem?_eq_some_iff.mp hj).1
   have ea:as[j]? = some (as[j]'(by lia)):=List.getElem?_eq_getElem (by lia)
   exact ⟨.ref (as[j]'(by lia)),by simp,(eR _).mpr ⟨j,ea,hj⟩⟩
theorem a43 (K:PySem.W.Frag) (hu:X.A.units + 2 < cLine) (h:X.K = K:=by rfl):OpR X (compareOp .In) (be1 K false):=by
 subst h
 intro pins s σ H x y v u Q I rx ry h
 obtain ⟨p,b,as,d,ds,rfl,rfl,hq,hb,hp,q⟩:=h
 cases rx
 cases ry
 obtain ⟨its,r,pl,hz⟩:=I.list hq
 obtain ⟨e,h1,h2⟩:=aH6 (A:=X.A.in1) I hb hp (by show X.A.units + 1 + 1 < cLine; lia) r
 refine SeqAt.in_listAt e pl.isList h1 ⟨.bl _,H,I,rfl,?_⟩
 rw [h2]
 exact q
theorem ag6 (K:PySem.W.Frag) (hu:X.A.units + 2 < cLine) (h:X.K = K:=by rfl):OpR X (compareOp .NotIn) (be1 K true):=by
 subst h
 intro pins s σ H x y v u Q I rx ry h
 obtain ⟨p,b,as,d,ds,rfl,rfl,hq,hb,hp,q⟩:=h
 cases rx
 cases ry
 obtain ⟨its,r,pl,hz⟩:=I.list hq
 obtain ⟨e,h1,h2⟩:=aH6 (A:=X.A.in1) I hb hp (by show X.A.units + 1 + 1 < cLine; lia) r
 refine SeqAt.notIn_listAt e pl.isList h1 ⟨.bl _,H,I,rfl,?_⟩
 rw [h2]
 exact q
theorem Room.unitsT {k:Nat} {A:Around} (r:Room k A):A.units + 2 < cLine:=by have:=r.un; lia
end
end L2
namespace L2
open PySem PySem.Spec PyProof.Rows
section
variable {X:Cx}
def bf5 (i j:Int):Prop:=0 < j ∧ j < 18446744073709551616
theorem aT0:OpR X (binaryOp .FloorDiv) (rI bf5 fun i j=>.int (i / j)):=opI fun i j _ _ _ _ _ hc q=>by
 have h1:(0:Int) < j:=hc.1
 have h2:j < 18446744073709551616:=hc.2
 refine floordiv_int (by lia) (by rw [Int.fdiv_eq_ediv_of_nonneg i (by lia)]; exact q) (.inl (PyProof.noPylong_of_log2 ?_))
 have h3:j.natAbs < 2 ^ 64:=by lia
 have h4:j.natAbs ≠ 0:=by lia
 have:=(Nat.log2_lt h4).mpr h3
 lia
variable {δ:Type} [DecidableEq δ] {n:Nat} {R:Hp → V → δ → Prop}
end
end L2
namespace L2
open PySem PySem.Spec PyProof.Rows
structure DefD (K:PySem.W.Frag) (mg:Str → Option Value) (x:Str) (st:Stmt) (ps:List Str) (dvs:List V):Prop where
 ex:∃ (f:Addr) (fd:FuncData),(∃ (oc:Value) (od:Option Addr) (dV kV doc pm:Value) (an:Option Addr) (cdv ct:Value) (osl:Array (Option Value)),
   fd = PySem.W.fnOf x x (m5 st) (j9 st) (i7 st) dV kV doc pm an cdv ct ∧ K.lookup f = some ⟨oc,od,.func fd,osl⟩ ∧ PySem.W.codeIn K cdv x = true) ∧ PySem.W.keepIn K (.ref f) = true ∧
  (∀ m,m ≤ dvs.length → ∃ ds,u0 (dvs.drop m) ds ∧ O5 K fd ps ds) ∧ mg x = some (.ref f)
structure CalleeD (P:Program) (w:World) (K:PySem.W.Frag) (mg:Str → Option Value) (base:Heap) (k:Nat) (x:Str) (ps:List Str) (dvs:List V) (sp:Sp):Prop where
 ex:∃ (f:Addr) (fd:FuncData),FnOk P w K mg base CX0 k f fd ps sp ∧ (∀ m,m ≤ dvs.length → ∃ ds,u0 (dvs.drop m) ds ∧ O5 K fd ps ds) ∧ PySem.W.keepIn K (.ref f) = true ∧ mg x = some (.ref f)
section
variable {P:Program} {w:World} {K:PySem.W.Frag} {mg:Str → Option Value} {base:Heap}
theorem DefD.ok {x:Str} {st:Stmt} {N ps:List Str} {k:Nat} {dvs:List V} {sp:Sp} (D:DefD K mg x st ps dvs) (S:FnScope N ps (i7 st)) (len:∀ vs H Q E,sp vs H Q E → vs.length = ps.length)
  (hbody:∀ (f:Addr) (cdv:Value) (A:Around) (outer:List Env) (s:Shared) (H:Hp) (vs:List V) (Q:VK) (E:XK),Room k (A.deeper (envOfC x (i7 st) s.heap.objs.size f cdv)) → sp vs H Q E →
   ∃ t,PSs (N4 CX0 P w K mg base N x (i7 st) f cdv A outer s H E).nox (j9 st) t ∧ t { nx:=fun _ H'=>Q .non H',rt:=Q } (start N vs) H):CalleeD P w K mg base (k + 1) x ps dvs sp:=by
 obtain ⟨f,fd,⟨oc,od,dV,kV,doc,pm,an,cdv,ct,osl,rfl,lk,hcd⟩,kp,b,m⟩:=D.ex
 refine ⟨f,_,av3 lk hcd S len fun A outer s H vs Q E hr hsp=>?_,b,kp,m⟩
 obtain ⟨t,h,q⟩:=hbody f cdv A outer s H vs Q E hr hsp
 exact ⟨t,h.nox,q⟩
theorem CalleeD.all {x:Str} {ps:List Str} {k:Nat} {dvs:List V} {sp:Sp} (C:CalleeD P w K mg base k x ps dvs sp):Callee P w K mg base k x ps sp:=by
 obtain ⟨f,fd,F,b,kp,m⟩:=C.ex
 obtain ⟨ds,hv,hb⟩:=b dvs.length (Nat.le_refl _)
 rw [List.drop_length] at hv
 cases hv
 exact ⟨f,fd,F,hb,kp,m⟩
end
end L2
namespace L2
open PySem PySem.Spec PyProof.Rows
section
variable {X:Cx}
def ba4 (K:PySem.W.Frag):R2:=fun x y H Q=>∃ (a b:Addr) (xs:List V),x = .ref a ∧ y = .ref b ∧ SqL K H a xs ∧ SqL K H b [] ∧ Q (.bl (!decide (xs = []))) H
theorem al5 (K:PySem.W.Frag) (hu:X.A.units < cLine) (h:X.K = K:=by rfl):OpR X (compareOp .NotEq) (ba4 K):=by
 subst h
 intro pins s σ H x y v u Q I rx ry h
 obtain ⟨a,b,xs,rfl,rfl,ha,hb,q⟩:=h
 cases rx
 cases ry
 obtain ⟨us,r1,p1,_⟩:=I.list ha
 obtain ⟨vs,r2,p2,_⟩:=I.list hb
 cases r2
 have l1:=r1.length
 cases xs with
 | nil =>
  cases r1
  refine SeqAt.RcNeAt.lists (e:=fun j=>true) p1.isList p2.isList rfl (by lia) (fun j h1 h2=>absurd h1 (by simp)) X.prog X.w X.xe _ ?_
  exact ⟨.bl false,H,I,rfl,q⟩
 | cons x t =>
  refine SeqAt.RcNeAt.lists_lengths p1.isList p2.isList (by simp only [List.size_toArray]; rw [← l1]; simp) (by lia) X.prog X.w X.xe _ ?_
  exact ⟨.bl true,H,I,rfl,q⟩
def ba9 (K:PySem.W.Frag):R2:=fun x y H Q=>∃ (a b:Addr) (xs:List V),x = .ref a ∧ y = .ref b ∧ SqL K H a xs ∧ SqL K H b [] ∧ Q (.bl (decide (xs = []))) H
theorem ab3 (K:PySem.W.Frag) (hu:X.A.units < cLine) (h:X.K = K:=by rfl):OpR X (compareOp .Eq) (ba9 K):=by
 subst h
 intro pins s σ H x y v u Q I rx ry h
 obtain ⟨a,b,xs,rfl,rfl,ha,hb,q⟩:=h
 cases rx
 cases ry
 obtain ⟨us,r1,p1,_⟩:=I.list ha
 obtain ⟨vs,r2,p2,_⟩:=I.list hb
 cases r2
 have l1:=r1.length
 cases xs with
 | nil =>
  cases r1
  refine SeqAt.RcAt.lists (e:=fun j=>true) p1.isList p2.isList rfl (by lia) (fun j h1 h2=>absurd h1 (by simp)) X.prog X.w X.xe _ ?_
  exact ⟨.bl true,H,I,rfl,q⟩
 | cons x t =>
  refine SeqAt.RcAt.lists_lengths p1.isList p2.isList (by simp only [List.size_toArray]; rw [← l1]; simp) (by lia) X.prog X.w X.xe _ ?_
  exact ⟨.bl false,H,I,rfl,q⟩
end
end L2
namespace L2
open PySem PyProof.Rows
def U6 (kf:Nat → Int) (j:Nat):Option Nat → Prop
 | none=>j = 0
 | some i=>i < j ∧ ∀ j',j' < j → kf i ≤ kf j' ∧ (j' < i → kf i < kf j')
def a90 (vs:List Value) (kf:Nat → Int) (xs:Array Value):Option Nat → Prop
 | none=>xs = #[]
 | some i=>∃ v t,vs[i]? = some v ∧ xs = #[v,.int (kf i) t]
theorem aM3 {kf:Nat → Int} {j i:Nat} (b:U6 kf j (some i)) (h:kf j < kf i):U6 kf (j + 1) (some j):=by
 refine ⟨Nat.lt_succ_self _,fun j' hj'=>?_⟩
 by_cases e:j' = j
 ·subst e
  exact ⟨Int.le_refl _,fun z=>absurd z (Nat.lt_irrefl _)⟩
 ·have:=(b.2 j' (by lia)).1
  exact ⟨by lia,fun _=>by lia⟩
theorem aM2 {kf:Nat → Int} {j i:Nat} (b:U6 kf j (some i)) (h:¬ kf j < kf i):U6 kf (j + 1) (some i):=by
 refine ⟨Nat.lt_succ_of_lt b.1,fun j' hj'=>?_⟩
 by_cases e:j' = j
 ·subst e
  have:=b.1
  exact ⟨by lia,fun z=>by lia⟩
 ·exact b.2 j' (by lia)
theorem aF2 {kf:Nat → Int}:U6 kf 1 (some 0):=⟨Nat.one_pos,fun j' hj'=>by
 have e:j' = 0:=by lia
 subst e
 exact ⟨Int.le_refl _,fun z=>absurd z (Nat.lt_irrefl _)⟩⟩
section
variable {prog:Program} {w:World} {A:Around} {E:Value → Shared → Prop} {s:Shared} {R:Result → Shared → Prop}
abbrev kwD:List (Str × Value):=[(Str.ofString "default",.none)]
set_option maxHeartbeats 4000000 in
theorem aO6 {h0:Heap} {l I S:Addr} {vs:List Value} (kf:Nat → Int) (hh:A.handled = none) (hlI:l ≠ I) (hSI:S ≠ I) (fI:h0.get? I = none) (fS:h0.get? S = none) (hl:h0.IsList l vs.toArray)
  (hv:∀ i v,vs[i]? = some v → ∃ (p:Addr) (its:Array Value),v = .ref p ∧ h0.IsList p its ∧ ((its.size:Nat):Int) = kf i ∧ ((its.size:Nat):Int) < 2 ^ 63)
  (hR:∀ (cur:Option Nat) (h':Heap) (tk:Nat),U6 kf vs.length cur → (∀ b o,h0.get? b = some o → h'.get? b = some o) → R (.ok (.ret ((cur.bind fun i=>vs[i]?).getD .none))) { s with heap:=h',toks:=tk }) :
  ∀ (r j:Nat) (cur:Option Nat) (h:Heap) (tk c:Nat) (xs:Array Value),vs.length - j = r → j ≤ vs.length → (∀ b o,h0.get? b = some o → h.get? b = some o) → h.get? S = some (seqObj "list" xs c) → a90 vs kf xs cur → U6 kf j cur → h.IsListIter I l j →
   codeAny (model prog w) A (.builtin "min.loop" ⟨[.ref I,.builtin "len",.ref S],kwD⟩) R { s with heap:=h,toks:=tk }:=by
 have nm:(toString "min" ++ toString ".loop":String) = "min.loop":=by decide
 have W:=Walks.list (prog:=prog) (w:=w) (A:=A.in1) hh I l hlI vs.toArray
 have sz:vs.toArray.size = vs.length:=List.size_toArray ..
 intro r
 induction r with
 | zero =>
  intro j cur h tk c xs hr hj kp gS ka ba it
  obtain rfl:j = vs.length:=by lia
  refine codeAny_builtin PySem.F.entry_min_loop ?_
  rw [Around.under_plainId PySem.F.plain_min_loop _]
  show wpAny _ A.in1 (seqItems? (.ref S) >>= _) _ _ _
  refine wpAny_bind (wpAny_seqItems gS rfl ?_)
  show wpAny _ A.in1 (tryCatch (pyNext (.ref I)) _ >>= _) _ _ _
  have hl1:h.IsList l vs.toArray:=hl.at fun o e=>kp _ _ e
  refine wpAny_bind (wpAny_tryCatch (W.done _ _ _ ⟨by rw [sz]; exact it,hl1⟩ fun h1 tk1 k1=>?_))
  have kp1:∀ b o,h0.get? b = some o → h1.get? b = some o:=fun b o e=>k1 b o (by
   rw [List.mem_singleton]
   rintro rfl
   rw [fI] at e
   cases e) (kp b o e)
  cases cur with
  | none =>
   cases (show xs = #[] from ka)
   show wpAny _ A.in1 (rule _ >>= fun _=>ret Value.none) _ _ _
   exact wpAny_bind (wpAny_rule (wpAny_pure (hR none h1 tk1 ba kp1)))
  | some i =>
   obtain ⟨v,t,ev,rfl⟩:=ka
   have gS1:h1.get? S = some (seqObj "list" #[v,.int (kf i) t] c):=k1 S _ (by rw [List.mem_singleton]; exact hSI) gS
   show wpAny _ A.in1 (updateSeq S (fun _=>#[]) >>= _) _ _ _
   refine wpAny_bind (wpAny_updateSeq gS1 rfl (wpAny_bind (wpAny_letGo (wpAny_pure ?_))))
   have sb:=Heap.SameBut.update h1 S (Obj.mapSeq fun _=>(#[]:Array Value))
   have:=hR (some i) (h1.update S (Obj.mapSeq fun _=>(#[]:Array Value))) tk1 ba (fun b o e=>by
    have:b ≠ S:=by
     rintro rfl
     rw [fS] at e
     cases e
    rw [sb.2 b this]
    exact kp1 b o e)
   rw [show ((some i:Option Nat).bind fun i=>vs[i]?).getD .none = v by rw [Option.bind_some,ev]; rfl] at this
   exact this
 | succ r ih =>
  intro j cur h tk c xs hr hj kp gS ka ba it
  have hlt:j < vs.length:=by lia
  refine codeAny_builtin PySem.F.entry_min_loop ?_
  rw [Around.under_plainId PySem.F.plain_min_loop _]
  show wpAny _ A.in1 (seqItems? (.ref S) >>= _) _ _ _
  refine wpAny_bind (wpAny_seqItems gS rfl ?_)
  show wpAny _ A.in1 (tryCatch (pyNext (.ref I)) _ >>= _) _ _ _
  have hl1:h.IsList l vs.toArray:=hl.at fun o e=>kp _ _ e
  refine wpAny_bind (wpAny_tryCatch (W.item j _ _ _ (by rw [sz]; exact hlt) ⟨it,hl1⟩ fun v h1 tk1 pv st1 k1=>?_))
  have ev:vs[j]? = some v:=by simpa using pv
  have kp1:∀ b o,h0.get? b = some o → h1.get? b = some o:=fun b o e=>k1 b o (by
   rw [List.mem_singleton]
   rintro rfl
   rw [fI] at e
   cases e) (kp b o e)
  have gS1:h1.get? S = some (seqObj "list" xs c):=k1 S _ (by rw [List.mem_singleton]; exact hSI) gS
  obtain ⟨p,its,rfl,lp,lk,l63⟩:=hv j v ev
  show wpAny _ A.in1 (tryCatch (holding [Value.ref p] (call (.builtin "len") [Value.ref p])) _ >>= _) _ _ _
  refine wpAny_bind (wpAny_tryCatch (wpAny_holding (Calls.call_len_list (lp.at fun o e=>kp1 _ _ e) l63 ?_)))
  rw [lk]
  have frame:∀ (ys:Array Value),(∀ b o,h0.get? b = some o → (h1.update S (Obj.mapSeq fun _=>ys)).get? b = some o) ∧ (h1.update S (Obj.mapSeq fun _=>ys)).IsListIter I l (j + 1):=fun ys=>by
   have sb:=Heap.SameBut.update h1 S (Obj.mapSeq fun _=>ys)
   refine ⟨fun b o e=>?_,?_⟩
   ·have:b ≠ S:=by
     rintro rfl
     rw [fS] at e
     cases e
    rw [sb.2 b this]
    exact kp1 b o e
   ·exact st1.1.at fun o e=>by rw [sb.2 I (Ne.symm hSI)]; exact e
  cases cur with
  | none =>
   cases (show xs = #[] from ka)
   obtain rfl:j = 0:=ba
   show wpAny _ A.in1 (updateSeq S (fun _=>#[Value.ref p,.int (kf 0) (tk1 + 1)]) >>= _) _ _ _
   refine wpAny_bind (wpAny_updateSeq gS1 rfl ?_)
   rw [nm]
   exact wpAny_pure ⟨plainId_quiet PySem.F.plain_min_loop _,ih 1 (some 0) _ _ _ _ (by lia) (by lia) (frame _).1 (get?_update_seq gS1 _) ⟨_,_,ev,rfl⟩ aF2 (frame _).2⟩
  | some i =>
   obtain ⟨vb,tb,evb,rfl⟩:=ka
   show wpAny _ A.in1 (tryCatch (holding [Value.ref p,.int (kf j) (tk1 + 1)] (richCompare .Lt (.int (kf j) (tk1 + 1)) (.int (kf i) tb) >>= _)) _ >>= _) _ _ _
   refine wpAny_bind (wpAny_tryCatch (wpAny_holding (wpAny_bind (CmpOf.ints_lt (prog:=prog) (w:=w) (A:=A.in1) (P:=fun i v=>∃ t,v = .int (kf i) t) kf (fun i v z=>z) j i _ _ _ _ _ ⟨_,rfl⟩ ⟨_,rfl⟩ ?_))))
   refine wpAny_bind (wpAny_holding (wpAny_truthy_bool ?_))
   refine wpAny_bind (wpAny_letGo (wpAny_pure ?_))
   by_cases less:kf j < kf i
   ·simp only [less,decide_true,if_true]
    refine wpAny_bind (wpAny_updateSeq gS1 rfl (wpAny_bind (wpAny_letGo ?_)))
    rw [nm]
    exact wpAny_pure ⟨plainId_quiet PySem.F.plain_min_loop _,ih (j + 1) (some j) _ _ _ _ (by lia) (by lia) (frame _).1 (get?_update_seq gS1 _) ⟨_,_,ev,rfl⟩ (aM3 ba less) (frame _).2⟩
   ·simp only [less,decide_false,Bool.false_eq_true,if_false]
    refine wpAny_bind (wpAny_letGo ?_)
    rw [nm]
    exact wpAny_pure ⟨plainId_quiet PySem.F.plain_min_loop _,ih (j + 1) (some i) _ _ _ _ (by lia) (by lia) kp1 gS1 ⟨_,_,evb,rfl⟩ (aM2 ba less) st1.1⟩
theorem ay2 (a v d:Value):argsOk "min" ⟨[a],[(Str.ofString "key",v),(Str.ofString "default",d)]⟩:=by unfold argsOk; kernel_rfl
theorem aY6 {l:Addr} {vs:List Value} {Q:Value → Shared → Prop} (kf:Nat → Int) (hh:A.handled = none) (hl:s.heap.IsList l vs.toArray)
  (hv:∀ i v,vs[i]? = some v → ∃ (p:Addr) (its:Array Value),v = .ref p ∧ s.heap.IsList p its ∧ ((its.size:Nat):Int) = kf i ∧ ((its.size:Nat):Int) < 2 ^ 63)
  (hQ:∀ (cur:Option Nat) (h':Heap) (tk:Nat),U6 kf vs.length cur → (∀ b o,s.heap.get? b = some o → h'.get? b = some o) → Q ((cur.bind fun i=>vs[i]?).getD .none) { s with heap:=h',toks:=tk }) :
  wpAny (model prog w) A (call (.builtin "min") [.ref l] [(Str.ofString "key",.builtin "len"),(Str.ofString "default",.none)]) Q E s:=by
 have nm:(toString "min" ++ toString ".loop":String) = "min.loop":=by decide
 obtain ⟨ol,gl,_⟩:=id hl
 have ll:l < s.heap.objs.size:=Heap.lt_size gl
 refine kmb_tree PySem.F.kind_min PySem.F.plain_min PySem.F.entry_min (ay2 _ _ _) ?_
 show wpAny _ A.in1 (Builtin.Builtins.bindParams "min" ["key","default"] 0 ⟨[],[(Str.ofString "key",.builtin "len"),(Str.ofString "default",.none)]⟩ >>= _) _ _ s
 refine wpAny_bind (wpAny_of_eq (show Builtin.Builtins.bindParams "min" ["key","default"] 0 ⟨[],[(Str.ofString "key",.builtin "len"),(Str.ofString "default",.none)]⟩ = pure [some (.builtin "len"),some .none] from rfl) ?_)
 refine wpAny_bind (wpAny_pure (wpAny_bind (wpAny_pyIter_list hl (wpAny_bind (wpAny_newList ?_ (Nat.zero_le _))))))
 rw [nm]
 have zS:(s.heap.push { cls:=.type "list_iterator",data:=.fields #[.ref l,.int 0 0] }).objs.size = s.heap.objs.size + 1:=size_push' ..
 refine wpAny_pure ⟨plainId_quiet PySem.F.plain_min_loop _,?_⟩
 refine aO6 (s:=s) (h0:=s.heap) kf hh (Nat.ne_of_lt ll) (show (s.heap.push { cls:=.type "list_iterator",data:=.fields #[.ref l,.int 0 0] }).objs.size ≠ s.heap.objs.size from by rw [zS]; exact Nat.succ_ne_self _) (Heap.get?_none_of_le (Nat.le_refl _)) (Heap.get?_none_of_le (by rw [zS]; exact Nat.le_succ _)) hl hv hQ _ 0 none _ _ 0 #[] rfl (Nat.zero_le _) (fun b o e=>Heap.get?_push_of_some _ (Heap.get?_push_of_some _ e)) (Heap.get?_push_size _ rfl) rfl rfl ⟨_,Heap.get?_push_of_some _ (Heap.get?_push_size _ rfl),rfl,rfl⟩
end
end L2
namespace L2
open PySem PySem.Spec PyProof.Rows
section
variable {X:Cx} {e:Expr} {t:TA} {p p1 p2 k1 k2 pos:Pos} {j:Nat}
def a59 (K:PySem.W.Frag) (H:Hp):List Addr → List (List V) → Prop:=Paired fun r row=>SqL K H r row
def S7 (rows:List (List V)) (i:Nat):Int:=((rows.getD i []).length:Nat)
def be4 (K:PySem.W.Frag) (t:TA):TE:=fun σ H Q=>t σ H fun vs H1=>∃ (l:Addr) (rs:List Addr) (rows:List (List V)),vs = [.ref l] ∧ SqL K H1 l (rs.map V.ref) ∧ a59 K H1 rs rows ∧ (rs = [] → Q .non H1) ∧
 ∀ (i:Nat) (r:Addr),rs[i]? = some r → (∀ j,j < rs.length → S7 rows i ≤ S7 rows j ∧ (j < i → S7 rows i < S7 rows j)) → Q (.ref r) H1
theorem aL9 (K:PySem.W.Frag) (hc:X.calm = true) (hg:Gl X "min") (hm:X.mg "min" = none) (hgl:Gl X "len") (hml:X.mg "len" = none) (ha:PA X [e] t) (hK:X.K = K:=by rfl)
  (he:starEach [e] X.env = (false,eval e X.env) :: starEach [] X.env:=by rfl) (hall:(backToKw pos (keywordEach [⟨some "key",.Name "len" p1,k1⟩,⟨some "default",.Constant .none j p2,k2⟩] X.env)).all (·.1.isSome) = true:=by rfl)
  (hks:(backToKw pos (keywordEach [⟨some "key",.Name "len" p1,k1⟩,⟨some "default",.Constant .none j p2,k2⟩] X.env)).filterMap (·.1) = [Str.ofString "key",Str.ofString "default"]:=by rfl)
  (hkn:(backToKw pos (keywordEach [⟨some "key",.Name "len" p1,k1⟩,⟨some "default",.Constant .none j p2,k2⟩] X.env)).any (·.1.isNone) = false:=by rfl)
  (hpl:(backTo pos (starEach [e] X.env)).any (·.1) = false:=by rfl) :
  PE X (.Call (.Name "min" p) [e] [⟨some "key",.Name "len" p1,k1⟩,⟨some "default",.Constant .none j p2,k2⟩] pos) (be4 K t):=by
 subst hK
 intro pins s σ H Q I h
 refine wpAny_Call_Name_kw (ab9 I hg hm boot_min ?_ (by decide) (by decide))
 refine callWith_builtin_kwB hpl hkn ?_
 refine PyProof.Rows.evalArgs_kw2 hall (thn (ha pos pins s σ H _ I h) fun us s1 ⟨vs,H1,I1,r1,q1⟩=>?_) he
 refine kws_cons (ab9 I1 hgl hml PySem.boot_len (kws_cons (Constant_none (kws_nil ?_))))
 rw [hks]
 obtain ⟨l,rs,rows,rfl,hl,hr,q0,qi⟩:=q1
 obtain ⟨u,rfl,rx⟩:=P7 r1
 cases rx
 obtain ⟨its,rv,pl,hz⟩:=I1.list hl
 have ln:=rv.length
 rw [List.length_map] at ln
 have at1:∀ i v,its[i]? = some v → ∃ r row,rs[i]? = some r ∧ rows[i]? = some row ∧ v = Value.ref r ∧ SqL X.K H1 r row:=fun i v hv=>by
  have hi:=(List.getElem?_eq_some_iff.mp hv).1
  have er:rs[i]? = some (rs[i]'(by lia)):=List.getElem?_eq_getElem _
  obtain ⟨row,e1,e2⟩:=m3 hr i _ er
  have em:(rs.map V.ref)[i]? = some (V.ref (rs[i]'(by lia))):=by rw [List.getElem?_map,er]; rfl
  obtain ⟨u,w1,w2⟩:=rv.get em
  rw [hv] at w1
  cases w1
  exact ⟨_,row,er,e1,w2,e2⟩
 show wpAny _ _ (call (.builtin "min") [.ref l] [(Str.ofString "key",.builtin "len"),(Str.ofString "default",.none)]) _ _ _
 refine aY6 (S7 rows) (I1.ok.hd hc) pl.isList (fun i v hv=>?_) fun cur h' tk ba kp=>?_
 ·obtain ⟨r,row,e1,e2,rfl,hq⟩:=at1 i v hv
  obtain ⟨ys,rv2,pl2,hz2⟩:=I1.list hq
  have l2:=rv2.length
  have hn:=X8
  refine ⟨r,ys.toArray,rfl,pl2.isList,?_,by rw [List.size_toArray]; lia⟩
  unfold S7
  rw [List.getD,e2,List.size_toArray,← l2]
  rfl
 ·have I2:Inv X pins σ H1 { s1 with heap:=h',toks:=tk }:=I1.kept fun b o e=>kp b o e
  cases cur with
  | none =>
   have z:its.length = 0:=ba
   have:rs = []:=List.length_eq_zero_iff.mp (by lia)
   exact ⟨.non,H1,I2,rfl,q0 this⟩
  | some i =>
   have hi:i < its.length:=ba.1
   obtain ⟨r,row,e1,e2,e3,hq⟩:=at1 i _ (List.getElem?_eq_getElem hi)
   have:((some i:Option Nat).bind fun i=>its[i]?).getD .none = Value.ref r:=by
    rw [Option.bind_some,List.getElem?_eq_getElem hi,e3]
    rfl
   rw [this]
   exact ⟨.ref r,H1,I2,rfl,qi i r e1 fun j hj=>ba.2 j (by lia)⟩
end
end L2
namespace L2
open PySem PySem.Spec PyProof.Rows
structure FnQ (K:PySem.W.Frag) (x qual:Str) (st:Stmt) (f:Addr) (fd:FuncData):Prop where
 ex:∃ (oc:Value) (od:Option Addr) (dV kV doc pm:Value) (an:Option Addr) (cdv ct:Value) (osl:Array (Option Value)),
  fd = PySem.W.fnOf x qual (m5 st) (j9 st) (i7 st) dV kV doc pm an cdv ct ∧ K.lookup f = some ⟨oc,od,.func fd,osl⟩ ∧ PySem.W.codeIn K cdv qual = true
structure DefM (K:PySem.W.Frag) (C:Addr) (m qual:Str) (st:Stmt) (ps:List Str) (dvs:List V) (kb:FuncData → Prop):Prop where
 ex:∃ (f:Addr) (fd:FuncData),FnQ K m qual st f fd ∧ Meth K C m f ∧ kb fd ∧ ∀ j,j ≤ dvs.length → ∃ ds,u0 (dvs.drop j) ds ∧ O5 K fd ps ds
structure CalleeM (P:Program) (w:World) (K:PySem.W.Frag) (mg:Str → Option Value) (base:Heap) (k:Nat) (C:Addr) (m:Str) (ps:List Str) (dvs:List V) (kb:FuncData → Prop) (sp:Sp):Prop where
 ex:∃ (f:Addr) (fd:FuncData),FnOk P w K mg base CX0 k f fd ps sp ∧ Meth K C m f ∧ kb fd ∧ ∀ j,j ≤ dvs.length → ∃ ds,u0 (dvs.drop j) ds ∧ O5 K fd ps ds
abbrev noKw:FuncData → Prop:=fun _=>True
def aI8 (K:PySem.W.Frag) (kw:Str):FuncData → Prop:=fun fd=>∀ (s:Shared) (u v:Value),K.In s.heap → BindsTo s fd ⟨[u],[(kw,v)]⟩ [("self",u),(kw,v)]
structure Made (K:PySem.W.Frag) (mg:Str → Option Value) (x:Str) (C:Addr):Prop where
 makes:PySem.W.makesIn K C = true
 kp:PySem.W.keepIn K (.ref C) = true
 mg:mg x = some (.ref C)
section
variable {P:Program} {w:World} {K:PySem.W.Frag} {mg:Str → Option Value} {base:Heap}
theorem DefM.ok {C:Addr} {m qual:Str} {st:Stmt} {N ps:List Str} {k:Nat} {dvs:List V} {kb:FuncData → Prop} {sp:Sp} (D:DefM K C m qual st ps dvs kb) (S:FnScope N ps (i7 st)) (len:∀ vs H Q E,sp vs H Q E → vs.length = ps.length)
  (hbody:∀ (f:Addr) (cdv:Value) (A:Around) (outer:List Env) (s:Shared) (H:Hp) (vs:List V) (Q:VK) (E:XK),Room k (A.deeper (envOfC qual (i7 st) s.heap.objs.size f cdv)) → sp vs H Q E →
   ∃ t,PSs (N4 CX0 P w K mg base N qual (i7 st) f cdv A outer s H E).nox (j9 st) t ∧ t { nx:=fun _ H'=>Q .non H',rt:=Q } (start N vs) H):CalleeM P w K mg base (k + 1) C m ps dvs kb sp:=by
 obtain ⟨f,fd,⟨oc,od,dV,kV,doc,pm,an,cdv,ct,osl,rfl,lk,hcd⟩,mt,hkb,b⟩:=D.ex
 refine ⟨f,_,av3 lk hcd S len fun A outer s H vs Q E hr hsp=>?_,mt,hkb,b⟩
 obtain ⟨t,h,q⟩:=hbody f cdv A outer s H vs Q E hr hsp
 exact ⟨t,h.nox,q⟩
end
section
variable {X:Cx} {k n:Nat} {C:Addr} {ps:List Str} {dvs:List V} {kb:FuncData → Prop} {sp:Sp} {x m:Str} {p pos apos kpos:Pos} {e o:Expr} {es:List Expr} {ta te:TE} {t:TA}
theorem bc0 {pl:Sem Bool} (c:Cls X.K C) (Z:CalleeM X.prog X.w X.K X.mg X.base k C m ps dvs kb sp) (hr:Room n X.A) (he:PE X o ta) (ha:PA X (e :: es) t) (hk:k ≤ n:=by decide)
  (hst:starEach (e :: es) X.env = (false,eval e X.env) :: starEach es X.env:=by rfl) (hpl:(backTo pos (starEach es X.env)).any (·.1) = false:=by rfl)
  (ht:eval (.Call (.Attribute o m apos) (e :: es) [] pos) X.env = (do
   let ov ← eval o X.env
   standAt apos.atName
   let (f,first) ← holding [ov] (getMethod ov m pl)
   callWith pos f first (backTo pos (starEach (e :: es) X.env)) (backToKw pos (keywordEach [] X.env))):=by rfl) :
  PE X (.Call (.Attribute o m apos) (e :: es) [] pos) (a65 C m sp [] E0 ta t):=by
 obtain ⟨f,fd,F,mt,hkb,b⟩:=Z.ex
 obtain ⟨ds,hv,hb⟩:=b dvs.length (Nat.le_refl _)
 rw [List.drop_length] at hv
 cases hv
 exact a08 (pl:=pl) he c mt F (hr.mono hk) hb .nil aK1 ha hst hpl ht
theorem ap8 (K:PySem.W.Frag) {f:Str} (he:PE X e ta) (hK:X.K = K:=by rfl) (hb:attributeBase e f X.env (eval e X.env) = eval e X.env:=by rfl):PE X (.Attribute e f pos) (bf2 K ta f):=hK ▸ bb6 he hb
theorem P3 {K:PySem.W.Frag} {C D:Addr} (hc:PySem.W.isClsIn K D = true) (ht:PySem.W.typeIn K (.ref D) = some (.type "type")) (hs:PySem.W.subIn K (.ref C) (.ref D) = some true):PySem.W.kitOne K (.ref C) (.ref D) = some true:=by
 unfold PySem.W.kitOne
 split
 ·rfl
 ·show (if ((PySem.W.clsIn K D).isSome && PySem.W.typeIn K (.ref D) == some (.type "type")) = true then PySem.W.subIn K (.ref C) (.ref D) else none) = some true
  rw [if_pos (by rw [show (PySem.W.clsIn K D).isSome = true from hc,ht]; rfl),hs]
end
end L2
namespace L2
open PySem PySem.Spec PyProof.Rows
theorem w6.at_ {P:Program} {w:World} {H:Hp} {h:Heap} {a:Addr} {o:HO} (x:w6 P w H h a o):∃ u,h.get? a = some u:=by
 cases o with
 | lst xs=>obtain ⟨_,_,_,_,e⟩:=x; exact ⟨_,e⟩
 | tup xs=>obtain ⟨_,_,_,p⟩:=x; exact ⟨_,p.choose_spec.1⟩
 | dK kvs=>obtain ⟨_,_,_,_,o,_,_,e,_⟩:=x; exact ⟨_,e⟩
 | dT kvs=>obtain ⟨_,_,_,_,o,_,_,e,_⟩:=x; exact ⟨_,e⟩
 | set S n=>obtain ⟨o,_,_,_,e,_⟩:=x; exact ⟨_,e⟩
 | ins C dx fs=>obtain ⟨_,_,_,e,_⟩:=x; exact ⟨_,e⟩
 | own y=>obtain ⟨_,e⟩:=x; exact ⟨_,e⟩
 | xd fs=>obtain ⟨_,⟨_,_,_,e,_⟩,_⟩:=x; exact ⟨_,e⟩
 | rng lo hi=>obtain ⟨_,_,_,e⟩:=x; exact ⟨_,e⟩
 | frz ob u=>obtain ⟨e,_⟩:=x; exact ⟨_,e⟩
 | tbl ps=>exact ⟨_,(show h.get? a = some _ from x)⟩
 | met f y=>exact ⟨_,(show h.get? a = some _ from x)⟩
 | ext φ=>obtain ⟨_,e,_⟩:=x; exact e
structure Fly (fs:List Addr) (H1 H2:Hp) (h1 B h2:Heap):Prop where
 kp:∀ b o,h1.get? b = some o → b ∉ fs → (∃ o',B.get? b = some o') ∧ (H1 b = none → B.get? b = some o)
 sl:∀ b o,h1.get? b = some o → b ∈ fs → ∃ sl,h2.get? b = some { o with slots:=sl }
 free:∀ b o,h1.get? b = some o → H1 b = none → H2 b = none
 tups:∀ b xs,H1 b = some (.tup xs) → H2 b = some (.tup xs)
 frzs:∀ b o u,H1 b = some (.frz o u) → H2 b = some (.frz o u)
 tbls:∀ b ps,H1 b = some (.tbl ps) → ∃ more,H2 b = some (.tbl (ps ++ more))
theorem Fly.un {fs:List Addr} {H1 H2:Hp} {h1 B h2:Heap} (f:Fly fs H1 H2 h1 B h2) (st:B.StaysIn h2):Un fs [] H1 H2 h1 h2 where
 keep:=fun b o e n hb _=>st b o ((f.kp b o e hb).2 n)
 slot:=fun b o e _ hb _=>f.sl b o e hb
 free:=fun b o e n _=>f.free b o e n
 there:=fun b o e _=>by
  by_cases hb:b ∈ fs
  ·obtain ⟨sl,q⟩:=f.sl b o e hb; exact ⟨_,q⟩
  ·obtain ⟨⟨o',q⟩,_⟩:=f.kp b o e hb; exact ⟨o',st _ _ q⟩
 tups:=f.tups
 frzs:=f.frzs
 tbls:=f.tbls
theorem Fly.up {fs:List Addr} {H1 H2:Hp} {h1 B h2 h3:Heap} (f:Fly fs H1 H2 h1 B h2) (up:∀ b ∈ fs,∀ o,h2.get? b = some o → ∃ sl,h3.get? b = some { o with slots:=sl }):Fly fs H1 H2 h1 B h3 :=
 ⟨f.kp,fun b o e hb=>by
  obtain ⟨s1,q1⟩:=f.sl b o e hb
  obtain ⟨s2,q2⟩:=up b hb _ q1
  exact ⟨s2,q2⟩,f.free,f.tups,f.frzs,f.tbls⟩
theorem Fly.after {fs fs':List Addr} {H0 H1 H2:Hp} {h0 h1 B h2:Heap} (u:Un fs [] H0 H1 h0 h1) (f:Fly fs' H1 H2 h1 B h2) (hL:∀ b o,h0.get? b = some o → b ∉ fs → b ∉ fs') (hs:∀ b ∈ fs,b ∈ fs') (hf:∀ b ∈ fs,H0 b = none) :
  Fly fs H0 H2 h0 B h2 where
 kp:=fun b o e hb=>by
  obtain ⟨o1,e1⟩:=u.there b o e (by simp)
  refine ⟨(f.kp b o1 e1 (hL b o e hb)).1,fun n=>?_⟩
  exact (f.kp b o (u.keep b o e n hb (by simp)) (hL b o e hb)).2 (u.free b o e n (by simp))
 sl:=fun b o e hb=>by
  obtain ⟨s1,q1⟩:=u.slot b o e (hf b hb) hb (by simp)
  obtain ⟨s2,q2⟩:=f.sl b _ q1 (hs b hb)
  exact ⟨s2,q2⟩
 free:=fun b o e n=>by
  obtain ⟨o1,e1⟩:=u.there b o e (by simp)
  exact f.free b o1 e1 (u.free b o e n (by simp))
 tups:=fun b xs e=>f.tups b xs (u.tups b xs e)
 frzs:=fun b o x e=>f.frzs b o x (u.frzs b o x e)
 tbls:=fun b ps e=>by
  obtain ⟨m1,e1⟩:=u.tbls b ps e
  obtain ⟨m2,e2⟩:=f.tbls b _ e1
  exact ⟨m1 ++ m2,by rw [e2,Array.append_assoc]⟩
def be0 (X:Cx) (E:XK):Prop:=∀ (pins:List (Addr × Obj)) (σ:St) (H:Hp) (s:Shared) (C e:Addr) (h':Heap) (args:List Value),Inv X pins σ H s → Heap.MadeExcOf s.heap h' e (.ref C) args → E (.ref C) none H → X.xe (.ref e) { s with heap:=h' }
section
variable {P:Program} {w:World} {K:PySem.W.Frag} {mg:Str → Option Value} {base:Heap} {N:List Str} {qual:Str} {scope:Scope} {f:Addr} {cd:Value} {A:Around} {outer:List Env} {s:Shared} {H:Hp} {E:XK}
theorem aA4 {env:Env} {L:Addr} {l:List Env} (h:env.frame = some L):frs (env :: l) = L :: frs l:=by unfold frs; rw [List.filterMap_cons,h]
end
end L2
namespace L2
open PySem PySem.Spec PyProof.Rows
def a_7 (sp:Sp) (dvs:List V) (E:St → XK) (t:TA):TE:=fun σ H Q=>t σ H fun vs H1=>sp (vs ++ dvs) H1 Q (E σ)
def aB9:List Value:=[.type "ValueError",.type "Exception",.type "BaseException",.type "object"]
structure ExcC (K:PySem.W.Frag) (mg:Str → Option Value) (x:Str) (C:Addr):Prop where
 mg:mg x = some (.ref C)
 exc:PySem.W.excIn K C aB9 "ValueError.__new__" = true
theorem ExcC.own {K:PySem.W.Frag} {mg:Str → Option Value} {x:Str} {C:Addr} {h:Heap} (M:ExcC K mg x C) (X:K.In h):OwnCls x C aB9 "ValueError.__new__" mg h:=by
 refine ⟨M.mg,?_⟩
 have q:=M.exc
 unfold PySem.W.excIn at q
 split at q
 ·rename_i dd cd sl ho
  split at q
  ·rename_i C' bm k0 k1 k2 k3 n k5 hm hs
   simp only [Bool.and_eq_true,beq_iff_eq,Bool.not_eq_true'] at q
   obtain ⟨⟨⟨⟨⟨rfl,rfl⟩,hdel⟩,ht⟩,hok⟩,hni⟩:=q
   obtain ⟨nm,bs,mro,ns,qn,hd,sn,sub,ab,col,del⟩:=cd
   dsimp only at hm hdel hok hni
   subst hm hdel
   have hsl:sl = #[k0,k1,k2,k3,some (.builtin "ValueError.__new__"),k5]:=by
    obtain ⟨l⟩:=sl
    simp only at hs
    rw [hs]
   subst hsl
   exact ⟨bm,ns,nm,qn,bs,hd,sn,sub,ab,col,dd,k0,k1,k2,k3,k5,_,X _ _ ho,.of_isNs (PySem.W.isNs_of_in X hok),PySem.W.nsMap_none_of_in X hok hni,PySem.W.tail_of_in X ht⟩
  ·cases q
 ·cases q
section
variable {X:Cx} {C:Addr} {x:Str} {E:XK} {np cpos pos:Pos} {e:Expr} {ta:TE}
def ba2 (C:Addr) (E:XK) (ta:TE):TS:=fun _ σ H=>ta σ H fun _ H1=>E (.ref C) none H1
theorem aA8 (hl:be0 X E) (M:ExcC X.K X.mg x C) (hh:X.A.handled = none) (hg:Gl X x) (ha:PE X e ta) (hdb:(x == ("__debug__":Str)) = false:=by decide)
  (he:starEach [e] X.env = (false,eval e X.env) :: starEach [] X.env:=by rfl):PS X (.Raise (some (.Call (.Name x np) [e] [] cpos)) none pos) (ba2 C E ta):=by
 intro pins s σ H D I h
 obtain ⟨tl,N,nm,q,bs,hdct,sn,sub,ab,col,dd,k0,k1,k2,k3,k5,mN,hC,hN,hni,T⟩:=(M.own I.ok.mod.kin).obj
 refine wpAny_Raise_call_subT (C:=C) (nm:=nm) (q:=q) (N:=N) (bs:=bs) (bm:=tl) (hdct:=hdct) (sn:=sn) (sub:=sub) (ab:=ab) (col:=col) (dd:=dd) (k0:=k0) (k1:=k1) (k2:=k2) (k3:=k3) (k5:=k5)
  PySem.F.excBase_ValueError (mN:=mN) (T.hasType PySem.F.excBase_ValueError.hasBase) hh (by rw [he]; rfl) hni (P5 I hg M.mg ⟨rfl,?_⟩ hdb)
 rw [he]
 refine Calls.evalArgs_plain ?_
 show wpAny _ _ (spliced ((false,eval e X.env) :: backTo cpos (starEach [] X.env))) _ _ s
 refine Calls.spliced_cons (thn (ha pins s σ H _ I h) fun u s2 ⟨v,H2,I2,r,q⟩=>?_)
 have hk:=I2.bk
 exact Calls.spliced_nil ⟨rfl,(by show 1 ≤ sizeLine; decide),hk _ _ hC,hN.keeps hk,T.keeps hk,fun h' e' hm=>hl pins σ H2 s2 C e' h' _ I2 hm q⟩
end
end L2
namespace L2
open PySem PySem.Spec PyProof.Rows
abbrev Cx.pinned (X:Cx) (pn:List (Addr × Obj)):Cx:={ X with pn:=pn }
abbrev hcx (X:Cx) (ea:Addr):Cx:={ X with A:=X.A.mark (some (.ref ea)),calm:=false,xe:=fun _ _=>False }
section
variable {X:Cx} {pins:List (Addr × Obj)} {σ:St} {H:Hp} {s:Shared}
theorem Inv.toPinned (I:Inv X pins σ H s):Inv (X.pinned (X.pn ++ pins)) [] σ H s :=
 ⟨⟨I.ok.mod,I.ok.kind,I.ok.glob,I.ok.blt,I.ok.above,I.ok.inj,I.ok.has,I.ok.cab,I.ok.hd,I.ok.frames,I.ok.stk,I.ok.exf,I.ok.bs,I.ok.bsz,I.ok.noex,I.ok.exfs,I.ok.funs,I.ok.frf⟩,I.os,I.bare,I.base,I.loc,I.cell,I.free,I.freeC,fun p hp=>I.pin p (by rw [List.append_nil] at hp; exact hp),I.hok,I.len⟩
theorem Inv.ofPinned {ps:List (Addr × Obj)} (I:Inv (X.pinned (X.pn ++ pins)) ps σ H s):Inv X pins σ H s :=
 ⟨⟨I.ok.mod,I.ok.kind,I.ok.glob,I.ok.blt,I.ok.above,I.ok.inj,I.ok.has,I.ok.cab,I.ok.hd,I.ok.frames,I.ok.stk,I.ok.exf,I.ok.bs,I.ok.bsz,I.ok.noex,I.ok.exfs,I.ok.funs,I.ok.frf⟩,I.os,I.bare,I.base,I.loc,I.cell,I.free,I.freeC,fun p hp=>I.pin p (List.mem_append_left _ hp),I.hok,I.len⟩
theorem Inv.toH (I:Inv X pins σ H s) (ea:Addr):Inv (hcx X ea) pins σ H s :=
 ⟨⟨I.ok.mod,I.ok.kind,I.ok.glob,I.ok.blt,I.ok.above,I.ok.inj,I.ok.has,I.ok.cab,(fun z=>nomatch z),I.ok.frames,I.ok.stk,I.ok.exf,I.ok.bs,I.ok.bsz,I.ok.noex,I.ok.exfs,I.ok.funs,I.ok.frf⟩,I.os,I.bare,I.base,I.loc,I.cell,I.free,I.freeC,I.pin,I.hok,I.len⟩
theorem Inv.ofH {ea:Addr} (ok:X.Ok) (I:Inv (hcx X ea) pins σ H s):Inv X pins σ H s :=
 ⟨ok,I.os,I.bare,I.base,I.loc,I.cell,I.free,I.freeC,I.pin,I.hok,I.len⟩
theorem ae9 {M:Model} {A:Around} {E:Value → Shared → Prop} {i:Nat} {n:Str} {pos:Pos} {Q:Unit → Shared → Prop} (I:Inv X pins σ H s) (hN:X.N.Nodup) (hi:X.N[i]? = some n) (hl:X.env.scope.names.lookup n = some .local)
  (h:∀ s',Inv X pins (σ.set i none) H s' → Q () s'):wpAny M A (do bindName X.env n .none; unbindBehindTheSuite X.env n pos) Q E s:=by
 obtain ⟨m,hn,hlm⟩:=id I.loc
 have hcls:(X.env.scope.kind == .class || (X.env.scope.kind == .module && X.env.locals != X.env.globals)) = false:=by rw [I.ok.kind]; rfl
 have cne:=I.cne
 obtain ⟨oL,_,_,hoL,_⟩:=id hn
 have iσ:i < σ.length:=by rw [I.len]; exact (List.getElem?_eq_some_iff.mp hi).1
 refine wpAny_nameGoes_keeps hl hn hcls fun h' v hn' hs=>?_
 refine h _ ⟨I.ok,I.os,I.bare,⟨fun b o e n hb hx=>?_,fun b o e n hb hx=>?_,I.base.free,fun b o e hx=>?_,I.base.tups,I.base.frzs,I.base.tbls⟩,⟨_,hn',fun j y v' e1 e2 e3=>?_⟩,fun y c e=>?_,I.free,I.freeC,fun p hp=>?_,fun b ob e=>?_,by simpa using I.len⟩
 ·exact (hs.2 b (Nat.ne_of_lt (Nat.lt_of_lt_of_le (Heap.lt_size e) I.ok.above))).trans (I.base.keep b o e n hb hx)
 ·obtain ⟨sl,e1⟩:=I.base.slot b o e n hb hx
  exact ⟨sl,(hs.2 b (Nat.ne_of_lt (Nat.lt_of_lt_of_le (Heap.lt_size e) I.ok.above))).trans e1⟩
 ·obtain ⟨o',e1⟩:=I.base.there b o e hx
  exact ⟨o',(hs.2 b (Nat.ne_of_lt (Nat.lt_of_lt_of_le (Heap.lt_size e) I.ok.above))).trans e1⟩
 ·by_cases hj:j = i
  ·subst hj
   rw [List.getElem?_set_self iσ] at e2
   cases e2
  ·rw [List.getElem?_set_ne (Ne.symm hj)] at e2
   obtain ⟨u',r',q⟩:=hlm j y v' e1 e2 e3
   refine ⟨u',r',?_⟩
   rcases q with ⟨k,e⟩ | ⟨k,c,e,z⟩
   ·refine .inl ⟨k,?_⟩
    have:y ≠ n:=fun e=>hj (ah2 hN e1 (e ▸ hi))
    simp [this,e]
   ·exact .inr ⟨k,c,e,z.sameBut hs (cne y c e)⟩
 ·obtain ⟨w',z⟩:=I.cell y c e
  exact ⟨w',z.sameBut hs (cne y c e)⟩
 ·obtain ⟨e,n,ne,nf,d⟩:=I.pin p hp
  exact ⟨(hs.2 p.1 ne).trans e,n,ne,nf,d⟩
 ·refine (I.hok b ob e).stay (fun c w' hc q=>(hs.2 c ?_).trans q) (fun _ q=>q) fun _ _ q=>q
  rintro rfl
  have fr:=I.free
  rcases hc with rfl | hc
  ·rw [fr] at e; cases e
  ·rw [fr] at hc; cases hc
end
section
variable {X:Cx}
def Ends.gone (D:Ends) (i:Nat):Ends:={ nx:=fun σ H=>D.nx (σ.set i none) H,rt:=D.rt,bk:=fun σ H=>D.bk (σ.set i none) H,ct:=fun σ H=>D.ct (σ.set i none) H }
end
end L2
namespace L2
open PySem PySem.Spec PyProof.Rows
open PySem.W (Looks)
open PySem.Builtin PySem.Builtin.ObjectAttr PySem.Builtin.Getset_descriptor
structure ExcX (K:PySem.W.Frag) (C:Addr):Prop where
 ga:PySem.W.findIn K (.ref C) "__getattribute__" = some (some (.builtin "BaseException.__getattribute__"))
 gn:PySem.W.findIn K (.ref C) "__getattr__" = some none
 cl:PySem.W.findIn K (.ref C) "__class__" = some (some (.builtin "object.__class__"))
 gt:PySem.W.specialIn K (.builtin "object.__class__") "__get__" = some (some (.builtin "getset_descriptor.__get__"))
 tk:PySem.W.takesIn K (.builtin "object.__class__") = some true
 mo:PySem.W.mroIn K C (.type "object") = some true
 mb:PySem.W.mroIn K C (.type "BaseException") = some true
 cs:(PySem.W.clsIn K C).isSome = true
section
variable {prog:Program} {w:World} {A:Around} {E:Value → Shared → Prop} {s:Shared} {K:PySem.W.Frag} {x C:Addr}
theorem aW0 {M:Model} {h:Heap} (X:K.In h) (Z:ExcX K C):Looks M h (find (.ref x) (.ref C) "__class__") (.bind (.builtin "getset_descriptor.__get__") (.builtin "object.__class__")):=by
 have L1:=PySem.W.looks_findIn (M:=M) X Z.cl
 have L2:Looks M h (getOf (some (.builtin "object.__class__"))) (some (.builtin "getset_descriptor.__get__")):=PySem.W.looks_specialIn X Z.gt
 have L3:=PySem.W.looks_takesIn (M:=M) X Z.tk
 exact L1.andThen (L2.andThen ((show Looks M h (dataDescriptor? (some (.builtin "object.__class__")) (some (.builtin "getset_descriptor.__get__"))) (some (.builtin "getset_descriptor.__get__",.builtin "object.__class__")) from L3.andThen .now).andThen (Looks.tag .now)))
theorem aX2 {R:Result → Shared → Prop} {tp:Value} {o:Obj} (X:K.In s.heap) (Z:ExcX K C) (ho:s.heap.get? x = some o) (hc:o.cls = .ref C) (h:R (.ok (.ret (.ref C))) s) :
  codeAny (model prog w) A (.call (.builtin "getset_descriptor.__get__") ⟨[.builtin "object.__class__",.ref x,tp],[]⟩) R s:=by
 obtain ⟨hh,g,dr,t,os⟩:=s
 have L0:Looks (model prog w) hh (typeOf (.ref x)) (.ref C):=hc ▸ (Looks.ld ho).andThen .now
 have L1:=PySem.W.looks_mroIn (M:=model prog w) X Z.mo
 refine codeAny_call_builtin PySem.W.KF.slot_gs.plain PySem.W.KF.entry_gs (PySem.W.KF.slot_gs.check _ _ _ _ _ _ _ _ PySem.W.KF.type_class (PySem.W.KF.args_gs _ _ _) ?_)
 unfold Builtin.«getset_descriptor.__get__» descrGet
 rw [PySem.W.dga_obj]
 refine wpAny_bind (wpAny_pure ?_)
 unfold descrGetter descrCheckInstance descrNameAndClass isInstance
 simp only [PySem.W.KF.owner_class]
 repeat lk
 refine ⟨Code.quiet_builtin _ (by decide +kernel),codeAny_builtin PySem.W.KF.entry_class ?_⟩
 unfold Builtin.«object.__class__» shownTypeOf
 repeat lk
 exact h
theorem aP5 {Q:Option Value → Shared → Prop} {o:Obj} (X:K.In s.heap) (Z:ExcX K C) (ho:s.heap.get? x = some o) (hc:o.cls = .ref C) (h:Q (some (.ref C)) { s with toks:=s.toks + 1 }) :
  wpAny (model prog w) A (getAttr? (.ref x) "__class__") Q E s:=by
 obtain ⟨hh,g,dr,t,os⟩:=s
 have L0:Looks (model prog w) hh (typeOf (.ref x)) (.ref C):=hc ▸ (Looks.ld ho).andThen .now
 have L1:=PySem.W.looks_findIn (M:=model prog w) X Z.ga
 have L2:=PySem.W.looks_findIn (M:=model prog w) X Z.gn
 have L3:=aW0 (M:=model prog w) (x:=x) X Z
 have L4:=PySem.W.looks_mroIn (M:=model prog w) X Z.mb
 have f3:=PySem.F.attr_ValueError.ga.bind (.ref x)
 have hk:builtinKind "BaseException.__getattribute__" = some .slot:=by decide +kernel
 have hsplit:splitId "BaseException.__getattribute__" = some ("BaseException","__getattribute__"):=by decide +kernel
 unfold getAttr? getAttrBy? getAttrBy
 refine wpAny_bind (wpAny_mkText (wpAny_bind (wpAny_attempt (wpAny_holding (wpAny_bind (L0.at (wpAny_bind (L1.at ?_))))))))
 show wpAny _ _ (getAttrByItsOwn _ _ _ _ _ _) _ _ _
 unfold getAttrByItsOwn
 refine wpAny_bind ?_
 show wpAny _ _ (typeLookup _ _) _ _ _
 refine L2.at ?_
 refine wpAny_bind (wpAny_attempt (wpAny_holding ?_))
 show wpAny _ _ (boundAndCalled _ _ _) _ _ _
 unfold boundAndCalled
 refine wpAny_bind ?_
 rw [f3]
 refine wpAny_pure ?_
 refine wpAny_call (codeAny_call_builtin PySem.F.attr_ValueError.ga.plain PySem.F.entry_bexc_ga ?_)
 have ha:=PySem.F.args_bexc_ga (.ref x) (.str "__class__" t)
 simp only [checkBuiltinCall,hk,hsplit]
 refine wpAny_bind ?_
 unfold isInstance
 refine wpAny_bind (L0.at (L4.at ?_))
 simp only [Bool.not_true,Bool.false_eq_true,if_false]
 repeat (any_goals (first | assumption | wp_step))
 rw [hc]
 have La:=PySem.W.looks_findIn (M:=model prog w) X Z.cl
 have Lb:Looks (model prog w) hh (getOf (some (.builtin "object.__class__"))) (some (.builtin "getset_descriptor.__get__")):=PySem.W.looks_specialIn X Z.gt
 have Lc:Looks (model prog w) hh (dataDescriptor? (some (.builtin "object.__class__")) (some (.builtin "getset_descriptor.__get__"))) (some (.builtin "getset_descriptor.__get__",.builtin "object.__class__")):=(PySem.W.looks_takesIn (M:=model prog w) X Z.tk).andThen .now
 refine La.at (wpAny_bind (Lb.at (wpAny_bind (Lc.at (wpAny_bind (wpAny_rule (wpAny_pure ?_)))))))
 unfold bindTo
 refine wpAny_bind (wpAny_holding (wpAny_call (aX2 (s:=⟨hh,g,dr,t + 1,os⟩) X Z ho hc ?_)))
 show wpAny _ _ (ret (.ref C)) _ _ _
 refine wpAny_pure ?_
 show wpAny _ _ (handedOut (.ref C)) _ _ _
 exact PySem.W.handed_on rfl (wpAny_pure h)
theorem aR3 (Z:ExcX K C):PySem.W.KitX K (.ref x) (.ref C) (fun h=>∃ o,h.get? x = some o ∧ o.cls = .ref C) where
 ty:=fun _ _ _ ⟨o,ho,hc⟩=>hc ▸ (Looks.ld ho).andThen .now
 it:=fun _ _ X _=>by
  have z0:=Z.cs
  unfold PySem.W.clsIn at z0
  split at z0
  ·rename_i c' d' cd' sl' ho
   intro A' Q' E' s' k q
   unfold isType loadHead
   exact wpAny_bind (wpAny_loadPart (k _ _ (X _ _ ho)) (wpAny_pure q))
  ·cases z0
 ne:=fun h tp dd its n sl X htp=>by
  have z0:=Z.cs
  refine Bool.eq_false_iff.mpr fun q=>?_
  have e:C = tp:=Value.ref.inj (beq_iff_eq.mp q)
  subst e
  unfold PySem.W.clsIn at z0
  split at z0
  ·rename_i c' d' cd' sl' ho
   have z:=(X _ _ ho).symm.trans htp
   cases z
  ·cases z0
 ca:=fun X ⟨o,ho,hc⟩ k=>aP5 X Z ho hc k
end
end L2
namespace L2
open PySem PySem.Spec PyProof.Rows PySem.SeqAt
section
variable {K:PySem.W.Frag} {C D:Addr}
theorem A1 (hc:PySem.W.isClsIn K D = true) (ht:PySem.W.typeIn K (.ref D) = some (.type "type")) (hs:PySem.W.subIn K (.ref C) (.ref D) = some false) (h1:PySem.W.subIn K (.ref C) (.ref C) = some true):PySem.W.kitOne K (.ref C) (.ref D) = some false:=by
 unfold PySem.W.kitOne
 split
 ·rename_i z
  have e:C = D:=Value.ref.inj (beq_iff_eq.mp z)
  rw [← e,h1] at hs
  cases hs
 ·show (if ((PySem.W.clsIn K D).isSome && PySem.W.typeIn K (.ref D) == some (.type "type")) = true then PySem.W.subIn K (.ref C) (.ref D) else none) = some false
  rw [if_pos (by rw [show (PySem.W.clsIn K D).isSome = true from hc,ht]; rfl),hs]
theorem aq8 (hs:PySem.W.subIn K (.ref C) (.type "ValueError") = some true):PySem.W.kitOne K (.ref C) (.type "ValueError") = some true:=by
 unfold PySem.W.kitOne
 split
 ·rfl
 ·show (if PySem.W.kitMeta "ValueError" = true then PySem.W.subIn K (.ref C) (.type "ValueError") else none) = some true
  rw [if_pos (by decide +kernel),hs]
theorem aq4 (hc:PySem.W.isClsIn K D = true) (ht:PySem.W.typeIn K (.ref D) = some (.type "type")) (hs:PySem.W.subIn K (.ref C) (.ref D) = some true) (hb:PySem.W.subIn K (.ref D) (.type "BaseException") = some true):PySem.W.exmOne K (.ref C) (.ref D) = some true:=by
 unfold PySem.W.exmOne
 rw [if_pos (by rw [hb]; rfl)]
 show (if ((PySem.W.clsIn K D).isSome && PySem.W.typeIn K (.ref D) == some (.type "type")) = true then PySem.W.subIn K (.ref C) (.ref D) else none) = some true
 rw [if_pos (by rw [show (PySem.W.clsIn K D).isSome = true from hc,ht]; rfl),hs]
end
theorem ae3:bootBuiltins "ValueError" = some (.type "ValueError"):=by first | rfl | decide +kernel
theorem X5:∀ {bs:List Bool} {us:List Value},u0 (bs.map V.bl) us → us = bs.map Value.bool
 | [],_,.nil=>rfl
 | _ :: _,_,.cons r t=>by rw [X5 t]; cases r; rfl
section
variable {X:Cx}
def aY3:V → List V → Hp → VK → Prop:=fun x vs H Q=>∃ (l:Addr) (k:Bool) (bs:List Bool),x = .ref l ∧ vs = [.bl k] ∧ H l = some (.lst (bs.map V.bl)) ∧ Q (.int (bs.count k:Nat)) H
theorem eqB {A:Around} {s:Shared} {bs:List Bool} {k:Bool}:∀ y,y ∈ (bs.map Value.bool).toArray → EqAt A s y (.bool k) (isBoolOf k y):=fun y hy=>by
 have hy:y ∈ bs.map Value.bool:=by simpa using hy
 obtain ⟨b,_,rfl⟩:=List.mem_map.mp hy
 exact EqAt.bool_bool b k
theorem aN6:MtR X "list.count" aY3:=by
 intro pins s σ H x vs v us Q I rx rv h
 obtain ⟨l,k,bs,rfl,rfl,hH,q⟩:=h
 cases rx
 obtain ⟨u,rfl,ru⟩:=rv.one
 cases ru
 obtain ⟨z,its,n,r,hl,e⟩:=I.lstM hH
 cases X5 r
 refine call_meets F.slot_list_count ⟨_,e,rfl⟩ F.entry_list_count (F.args_list_count_2 _ _) (list_countAt l _ n none #[] (.bool k) (isBoolOf k)) ⟨e,eqB,?_⟩
 refine ⟨.int _,H,I.tok _,⟨_,rfl⟩,?_⟩
 have e2:(bs.map Value.bool).toArray.toList.countP (isBoolOf k) = bs.count k:=by
  show (bs.map Value.bool).countP (isBoolOf k) = _
  rw [List.countP_map]
  rfl
 rw [e2]
 exact q
def a06:V → List V → Hp → VK → Prop:=fun x vs H Q=>∃ (l:Addr) (k:Bool) (bs:List Bool) (j:Nat),x = .ref l ∧ vs = [.bl k] ∧ H l = some (.lst (bs.map V.bl)) ∧ bs[j]? = some k ∧ (∀ m < j,bs[m]? = some (!k)) ∧ j ≤ 1000 ∧ Q (.int (j:Nat)) H
theorem aM7:MtR X "list.index" a06:=by
 intro pins s σ H x vs v us Q I rx rv h
 obtain ⟨l,k,bs,j,rfl,rfl,hH,hj,hno,h1000,q⟩:=h
 cases rx
 obtain ⟨u,rfl,ru⟩:=rv.one
 cases ru
 obtain ⟨z,its,n,r,hl,e⟩:=I.lstM hH
 cases X5 r
 obtain ⟨jl,je⟩:=List.getElem?_eq_some_iff.mp hj
 refine call_meets F.slot_list_index ⟨_,e,rfl⟩ F.entry_list_index (F.args_list_index_2 _ _) (list_indexAt l _ n none #[] (.bool k) (isBoolOf k) j (by simpa using jl) (by lia) ?_ fun m hm h2=>?_) ⟨e,eqB,?_⟩
 ·simp [isBoolOf,je]
 ·obtain ⟨_,me⟩:=List.getElem?_eq_some_iff.mp (hno m h2)
  simp [isBoolOf,me]
 ·exact ⟨.int _,H,I.tok _,⟨_,rfl⟩,q⟩
end
end L2
namespace L2
open PySem
def F7 (h:Heap) (e:Addr) (od:Option Addr):Prop:=∃ o,h.get? e = some o ∧ o.dict = od
theorem ay8 (f:Array Value → Array Value) (o:Obj):(Obj.mapFields f o).dict = o.dict:=by
 obtain ⟨c,d,dt,sl⟩:=o
 cases dt <;> rfl
section
variable {M:Model} {A:Around} {E:Value → Shared → Prop} {s:Shared} {B:Heap} {env:Env} {up:List Env} {L x:Addr} {k:Value} {a0:Value} {od:Option Addr} {Q:Unit → Shared → Prop}
abbrev a97 (hd:Value) (L:Addr) (pl:List Value):Obj:={ cls:=.type "traceback",dict:=none,data:=.fields ([hd,.ref L,.none,rawInt L,.none] ++ (if pl.isEmpty then List.replicate 6 Value.none else pl)).toArray }
theorem ah1 {ob:Obj} {fs:Array Value} {hd:Value} {hn:Bool} (a1:A.frames = some (env :: up)) (a2:s.heap.FunFrames B (env :: up)) (a3:env.frame = some L) (b1:s.heap.get? x = some ob) (b2:B.StaysIn s.heap) (b3:B.get? x = none)
  (b4:ob.data = .fields fs) (b5:1 < fs.size) (b6:fs[0]? = some a0) (q:∀ g,Heap.NotedW B (env :: up) x ob.cls a0 (rawInt L) s.heap g → F7 g x ob.dict → Q () { s with heap:=g }) :
  wpAny M A (do let a ← frameOf env; let pl ← entryPlaceOf L hn; let b ← EntryCells.newEntry hd a .none (rawInt L) .none pl; setField (.ref x) 1 b) Q E s:=by
 have out:x ∉ (env :: up).filterMap (·.frame):=fun m=>by
  obtain ⟨_,o,e1,e2⟩:=a2.mem m
  rw [b1] at e1
  cases e1
  exact e2 fs b4
 refine wpAny_bind (wpAny_frameOf_fun a1 a2 a3 fun g1 k1=>wpAny_bind (wpAny_entryPlaceOf fun pl hpl=>?_))
 unfold EntryCells.newEntry newFields
 refine wpAny_bind (wpAny_newObj_type ?_ (hpl.sizeOk5 _ _ _ _ _))
 have x1:g1.get? x = some ob:=(k1.2.1 x out).trans b1
 have st1:B.StaysIn g1:=fun b o e=>(k1.2.1 b fun m=>by rw [(a2.mem m).1] at e; cases e).trans (b2 b o e)
 have x2:=Heap.get?_push_of_some (h:=g1) (a97 hd L pl) x1
 refine wpAny_setField x2 b4 b5 ?_
 have nT:g1.objs.size ≠ x:=Nat.ne_of_gt (Heap.lt_size x1)
 have d3:=Obj.data_mapFields b4 (·.setIfInBounds 1 (Value.ref g1.objs.size))
 have x3:=Heap.get?_update_self (Obj.mapFields (·.setIfInBounds 1 (Value.ref g1.objs.size))) x2 (Obj.isFreed_of_fields d3)
 have t3:=(Heap.get?_update_other (g1.push (a97 hd L pl)) (Obj.mapFields (·.setIfInBounds 1 (Value.ref g1.objs.size))) (Ne.symm nT)).trans (Heap.get?_push_size g1 rfl)
 have kp:∀ b o,b ≠ x → g1.get? b = some o → ((g1.push (a97 hd L pl)).update x (Obj.mapFields (·.setIfInBounds 1 (Value.ref g1.objs.size)))).get? b = some o:=fun b o n e=>by
  rw [Heap.get?_update_other _ _ (Ne.symm n)]
  exact Heap.get?_push_of_some _ e
 have no:∀ b o,s.heap.get? b = some o → (∀ vs,o.data ≠ .fields vs) → b ≠ x:=fun b o e n z=>by
  rw [z,b1] at e
  cases e
  exact n fs b4
 refine q _ ⟨fun b o e=>kp b o (fun z=>by rw [z,b3] at e; cases e) (st1 b o e),a2.of_keeps fun b o e n=>?_,?_,fun b o e n=>?_⟩ ⟨_,x3,ay8 _ _⟩
 ·obtain ⟨sl,z⟩:=k1.2.2 b o e
  exact ⟨_,kp b _ (no b o e n) z,rfl⟩
 ·refine ⟨_,_,g1.objs.size,_,_,x3,⟨Obj.cls_mapFields _ _,?_⟩,d3,by simp [b5],st1.fresh,nT,t3,rfl,?_⟩
  ·rw [Array.getElem?_setIfInBounds_ne (by decide)]
   exact b6
  ·first | (simp; done) | (rcases hpl with rfl | ⟨_,_,_,_,_,_,_,rfl⟩ <;> simp)
 ·obtain ⟨sl,z⟩:=k1.2.2 b o e
  exact ⟨sl,kp b _ (no b o e n) z⟩
theorem al4 (a1:A.frames = some (env :: up)) (a2:s.heap.FunFrames B (env :: up)) (a3:env.frame = some L) (tr:s.heap.TracedW B x k a0) (dx:F7 s.heap x od) (b2:B.StaysIn s.heap) (b3:B.get? x = none)
  (q:∀ g,Heap.NotedW B (env :: up) x k a0 (rawInt L) s.heap g → F7 g x od → Q () { s with heap:=g }):wpAny M A (noteFrame (.ref x) env) Q E s:=by
 obtain ⟨ob,fs,T,oT,ts,e1,⟨e2,e3⟩,e4,e5,e6,e7,e8,e9,e10⟩:=tr
 subst e2
 obtain ⟨o2,f1,f2⟩:=dx
 rw [e1] at f1
 cases f1
 subst f2
 unfold noteFrame
 simp only [a3]
 refine wpAny_bind (wpAny_field e1 e4 e5 ?_)
 rw [if_pos (show (Value.ref T != Value.none) = true by simp)]
 refine wpAny_bind (wpAny_field e8 e9 e10 ?_)
 rw [if_neg (show ¬ (Value.none == rawInt L) = true by simp [rawInt])]
 refine wpAny_bind (wpAny_setField e8 e9 (Array.getElem?_eq_some_iff.mp e10).1 ?_)
 have oth:∀ b,b ≠ T → (s.heap.update T (Obj.mapFields (·.setIfInBounds 3 Value.none))).get? b = s.heap.get? b:=fun b n=>Heap.get?_update_other _ _ (Ne.symm n)
 have no:∀ b o,s.heap.get? b = some o → (∀ vs,o.data ≠ .fields vs) → b ≠ T:=fun b o e n z=>by
  rw [z,e8] at e
  cases e
  exact n ts e9
 refine ah1 a1 (a2.of_keeps fun b o e n=>⟨o,(oth b (no b o e n)).trans e,rfl⟩) a3 ((oth x (Ne.symm e7)).trans e1) (fun b o e=>(oth b fun z=>by rw [z,e6] at e; cases e).trans (b2 b o e)) b3 e4 (Array.getElem?_eq_some_iff.mp e5).1 e3 fun g z dz=>?_
 obtain ⟨z1,z2,z3,z4⟩:=z
 exact q g ⟨z1,z2,z3,fun b o e n=>z4 b o ((oth b (no b o e n)).trans e) n⟩ dz
theorem P2 {l:List Env} {fl:Value} (b2:B.StaysIn s.heap) (a2:s.heap.FunFrames B l) (tr:s.heap.TracedAtW B x k a0 fl) (dx:F7 s.heap x od)
  (q:∀ g,B.StaysIn g → g.FunFrames B l → g.TracedW B x k a0 → s.heap.UpToSlots g → F7 g x od → Q () { s with heap:=g }):wpAny M A (setFlight (.ref x) none) Q E s:=by
 obtain ⟨ob,fs,T,oT,ts,e1,e2,e4,e5,e6,e7,e8,e9,e10⟩:=tr
 obtain ⟨o2,f1,f2⟩:=dx
 have l3:3 < ts.size:=(Array.getElem?_eq_some_iff.mp e10).1
 have oth:∀ b,b ≠ T → (s.heap.update T (Obj.mapFields (·.setIfInBounds 3 ((none:Option Addr).elim Value.none fun f=>rawInt f)))).get? b = s.heap.get? b:=fun b n=>Heap.get?_update_other _ _ (Ne.symm n)
 have no:∀ b o,s.heap.get? b = some o → (∀ vs,o.data ≠ .fields vs) → b ≠ T:=fun b o e n z=>by
  rw [z,e8] at e
  cases e
  exact n ts e9
 unfold setFlight
 refine wpAny_bind (wpAny_field e1 e4 e5 ?_)
 rw [if_pos (show (Value.ref T != Value.none) = true by simp)]
 refine wpAny_setField e8 e9 l3 (q _ (fun b o e=>(oth b fun z=>by rw [z,e6] at e; cases e).trans (b2 b o e)) (a2.of_keeps fun b o e n=>⟨o,(oth b (no b o e n)).trans e,rfl⟩) ?_ (fun b o e n=>⟨o.slots,(oth b (no b o e n)).trans e⟩) ⟨o2,(oth x (Ne.symm e7)).trans f1,f2⟩)
 exact ⟨ob,fs,T,_,_,(oth x (Ne.symm e7)).trans e1,e2,e4,e5,e6,e7,Heap.get?_update_self _ e8 (Obj.isFreed_of_fields (Obj.data_mapFields e9 _)),Obj.data_mapFields e9 _,by simp [l3]⟩
theorem aG9 (a1:A.frames = some (env :: up)) (a3:env.frame = some L) (fl:Heap.FlyingW B (env :: up) x k a0 s.heap) (dx:F7 s.heap x od)
  (q:∀ g,Heap.FlyingW B up x k a0 g → s.heap.UpToSlots g → F7 g x od → Q () { s with heap:=g }):wpAny M A (leaving env (.ref x)) Q E s:=by
 obtain ⟨f1,f2,f3,f4⟩:=fl
 unfold leaving
 refine wpAny_bind (al4 a1 f3 a3 f4 dx f1 f2 fun g1 z1 d1=>?_)
 obtain ⟨z1,z2,z3,z4⟩:=z1
 refine P2 (s:={ s with heap:=g1 }) z1 z2 z3 d1 fun g2 y1 y2 y3 y4 d2=>?_
 obtain ⟨_,_,y2'⟩:=y2
 exact q g2 ⟨y1,f2,y2',y3⟩ (Heap.UpToSlots.trans (fun b o e n=>z4 b o e n) y4) d2
theorem aP6 (a1:A.frames = some (env :: up)) (a3:env.frame = some L) (fl:Heap.FlyingW B (env :: up) x k a0 s.heap) (dx:F7 s.heap x od)
  (q:∀ g,Heap.HeldW B (env :: up) x k a0 L g → s.heap.UpToSlots g → F7 g x od → Q () { s with heap:=g }):wpAny M A (noteFrame (.ref x) env) Q E s:=by
 obtain ⟨f1,f2,f3,f4⟩:=fl
 refine al4 a1 f3 a3 f4 dx f1 f2 fun g1 z1 d1=>?_
 obtain ⟨z1,z2,z3,z4⟩:=z1
 exact q g1 ⟨z1,f2,z2,z3⟩ z4 d1
theorem ba5 {l:List Env} (hh:Heap.HeldW B l x k a0 L s.heap) (dx:F7 s.heap x od) (q:∀ g,Heap.FlyingW B l x k a0 g → s.heap.UpToSlots g → F7 g x od → Q () { s with heap:=g }):wpAny M A (setFlight (.ref x) none) Q E s:=by
 obtain ⟨f1,f2,f3,f4⟩:=hh
 exact P2 f1 f3 f4 dx fun g y1 y2 y3 y4 d=>q g ⟨y1,f2,y2,y3⟩ y4 d
theorem as4 {l:List Env} (hh:Heap.FlyingW B l x k a0 s.heap) (dx:F7 s.heap x od) (q:∀ g,Heap.FlyingW B l x k a0 g → s.heap.UpToSlots g → F7 g x od → Q () { s with heap:=g }):wpAny M A (setFlight (.ref x) none) Q E s:=by
 obtain ⟨f1,f2,f3,f4⟩:=hh
 exact P2 f1 f3 f4.at dx fun g y1 y2 y3 y4 d=>q g ⟨y1,f2,y2,y3⟩ y4 d
theorem ak5 {ob:Obj} {fs:Array Value} (a1:A.frames = some (env :: up)) (a2:s.heap.FunFrames B (env :: up)) (a3:env.frame = some L) (b1:s.heap.get? x = some ob) (b2:B.StaysIn s.heap) (b3:B.get? x = none)
  (b4:ob.data = .fields fs) (b5:fs[1]? = some .none) (b6:fs[0]? = some a0) (q:∀ g,Heap.FlyingW B up x ob.cls a0 g → s.heap.UpToSlots g → F7 g x ob.dict → Q () { s with heap:=g }):wpAny M A (leaving env (.ref x)) Q E s:=by
 unfold leaving noteFrame
 simp only [a3]
 refine wpAny_bind (wpAny_bind (wpAny_field b1 b4 b5 ?_))
 rw [if_neg (by decide)]
 refine ah1 a1 a2 a3 b1 b2 b3 b4 (Array.getElem?_eq_some_iff.mp b5).1 b6 fun g1 z1 d1=>?_
 obtain ⟨z1,z2,z3,z4⟩:=z1
 refine P2 (s:={ s with heap:=g1 }) z1 z2 z3 d1 fun g2 y1 y2 y3 y4 d2=>?_
 obtain ⟨_,_,y2'⟩:=y2
 exact q g2 ⟨y1,b3,y2',y3⟩ (Heap.UpToSlots.trans (fun b o e n=>z4 b o e n) y4) d2
end
end L2
namespace L2
open PySem PySem.Spec PyProof.Rows
def Q5:List Value → Bool
 | .ref _ :: r=>Q5 r
 | l=>l == aB9
def X0 (K:PySem.W.Frag) (C fI:Addr):Bool:=match K.lookup C with
 | some ⟨.type "type",_,.cls cd,sl⟩=>(match cd.mro,sl.toList with
  | .ref C' :: bm,[_,_,_,_,some (.builtin n),_]=>C' == C && n == "ValueError.__new__" && !cd.hasDel && cd.hasDict && PySem.W.tailIn K aB9 bm && PySem.W.nsOkIn K cd.ns && PySem.W.nsIn K cd.ns "__init__" == some (some (.ref fI)) && Q5 bm
  | _,_=>false)
 | _=>false
theorem a50 {K:PySem.W.Frag} {h:Heap} {N:Addr} {m:Str → Option Value} {n:Str} {v:Value} (X:K.In h) (G:h.Ns N m) (e:PySem.W.nsIn K N n = some (some v)):m n = some v:=by
 obtain ⟨o,es,ep,ho,hd,_,hf⟩:=G
 unfold PySem.W.nsIn at e
 split at e
 ·rename_i c d es' n' sl q
  have z:=X _ _ q
  rw [ho] at z
  cases z
  cases hd
  split at e
  ·rename_i en he
   cases e
   rw [← hf]
   unfold nsFind findBy
   rw [← Array.find?_toList,he]
   rfl
  ·split at e <;> cases e
 ·cases e
structure ClsI (C fI:Addr) (h:Heap):Prop where
 obj:∃ bm N nm q bs sn sub ab col dd k0 k1 k2 k3 k5 mN,h.get? C = some (excClassObj nm q C N bs bm true sn sub ab col dd k0 k1 k2 k3 k5 "ValueError.__new__") ∧ h.Ns N mN ∧ mN "__init__" = some (.ref fI) ∧ OwnTail h aB9 bm ∧ Q5 bm = true
theorem aJ8 {K:PySem.W.Frag} {C fI:Addr} {h:Heap} (X:K.In h) (q:X0 K C fI = true):ClsI C fI h:=by
 unfold X0 at q
 split at q
 ·rename_i dd cd sl ho
  split at q
  ·rename_i C' bm k0 k1 k2 k3 n k5 hm hs
   simp only [Bool.and_eq_true,beq_iff_eq,Bool.not_eq_true'] at q
   obtain ⟨⟨⟨⟨⟨⟨⟨rfl,rfl⟩,hdel⟩,hdc⟩,ht⟩,hok⟩,hni⟩,hrf⟩:=q
   obtain ⟨nm,bs,mro,ns,qn,hd,sn,sub,ab,col,del⟩:=cd
   dsimp only at hm hdel hdc hok hni
   subst hm hdel hdc
   have hsl:sl = #[k0,k1,k2,k3,some (.builtin "ValueError.__new__"),k5]:=by
    obtain ⟨l⟩:=sl
    simp only at hs
    rw [hs]
   subst hsl
   have N1:h.Ns ns _:=.of_isNs (PySem.W.isNs_of_in X hok)
   exact ⟨bm,ns,nm,qn,bs,sn,sub,ab,col,dd,k0,k1,k2,k3,k5,_,X _ _ ho,N1,a50 X N1 hni,PySem.W.tail_of_in X ht,hrf⟩
  ·cases q
 ·cases q
end L2
namespace L2
open PySem
abbrev K7 (C t:Addr) (od:Option Addr):Obj:={ cls:=.ref C,dict:=od,data:=.fields #[.ref t,.none,.none,.none,.bool false,.none] }
section
variable {prog:Program} {w:World} {A:Around} {E:Value → Shared → Prop} {h:Heap} {g:Array GenState} {d:Drawn} {t:Nat} {os:OsState}
variable {nm q:Str} {C N fI:Addr} {bs bm:List Value} {hdct:Bool} {sn:List Str} {sub:List Value} {ab:Bool} {col:Option Bool} {dd:Option Addr} {k0 k1 k2 k3 k5:Option Value}
set_option maxHeartbeats 4000000 in
theorem aC4 (T:OwnTail h aB9 bm) {mN:Str → Option Value} {rest:List Value} {oI:Obj} {Q:Fin → Shared → Prop}
  (hC:h.get? C = some (excClassObj nm q C N bs bm hdct sn sub ab col dd k0 k1 k2 k3 k5 "ValueError.__new__")) (hn:h.Ns N mN) (hi:mN "__init__" = some (.ref fI)) (hfI:h.get? fI = some oI) (hfc:oI.cls = .type "function")
  (hq:∀ h' e,(∀ b o,h.get? b = some o → h'.get? b = some o) → h.objs.size ≤ e → (∃ tt,h'.get? e = some (K7 C tt none)) →
   wpAny (model prog w) A (call (.ref fI) (.ref e :: rest)) (fun r s'=>r = .none ∧ Q (.done (.ret (.ref e))) s') E ⟨h',g,d,t,os⟩) (hrest:rest.length ≤ sizeLine) :
  wpAny (model prog w) A (Builtin.«type.__call__» ⟨.ref C :: rest,[]⟩) Q E ⟨h,g,d,t,os⟩:=by
 have F:=PySem.F.excBase_ValueError
 repeat (first | with_reducible refine wpAny_loadPart_at hC ?_ | with_reducible refine wpAny_madeBy_exc hC ?_ | wp_step)
 refine codeAny_call_builtin_code (Code.quiet_builtin _ F.quiet) (wpAny_check_new_subT F T hC ?_)
 refine codeAny_exc_new_subT F T hC ?_ hrest
 show wpAny _ _ _ _ _ _
 let tp:Obj:={ cls:=.type "tuple",data:=.seq rest.toArray }
 let eo:Obj:={ cls:=.ref C,data:=.fields #[.ref h.objs.size,.none,.none,.none,.bool false,.none] }
 have kp:∀ b o,h.get? b = some o → ((h.push tp).push eo).get? b = some o:=fun b o z=>Heap.get?_push_of_some _ (Heap.get?_push_of_some _ z)
 have C1:=kp _ _ hC
 have I1:=kp _ _ hfI
 have N1:((h.push tp).push eo).Ns N mN:=let ⟨o,es,ep,z,r⟩:=hn; ⟨o,es,ep,kp _ _ z,r⟩
 have G1:((h.push tp).push eo).get? (h.objs.size + 1) = some eo:=by
  show ((h.push { cls:=.type "tuple",data:=.seq rest.toArray }).push _).get? (h.objs.size + 1) = some _
  heap_get
 have c1:(Value.ref C :: bm).contains (.ref C) = true:=by simp
 have T1:=T.keeps kp
 unfold isInstance
 repeat (first | with_reducible refine wpAny_loadPart_at G1 ?_ | (with_reducible refine wpAny_isSubtype_exc C1 ?_; rw [c1]) | wp_step)
 show wpAny _ _ (typeLookup (.ref C) _) _ _ _
 refine wpAny_typeLookup_tail C1 N1 T1 F.mroIs F.init.lookup ?_
 rw [hi]
 refine wpAny_holding (wpAny_bind ?_)
 unfold bindSpecial
 refine wpAny_bind (wpAny_typeOf (T:="function") ⟨_,I1,hfc⟩ ?_)
 rw [if_pos (by decide)]
 refine wpAny_pure (wpAny_bind (wpAny_mono (hq _ (h.objs.size + 1) kp (Nat.le_succ _) ⟨_,G1⟩) (fun r s' hr=>?_) fun _ _ z=>z))
 obtain ⟨rfl,hQ⟩:=hr
 wp_walk
 exact hQ
theorem aO8 (T:OwnTail h aB9 bm) {mN:Str → Option Value} {rest:List Value} {oI:Obj} {Q:Value → Shared → Prop}
  (hC:h.get? C = some (excClassObj nm q C N bs bm hdct sn sub ab col dd k0 k1 k2 k3 k5 "ValueError.__new__")) (hn:h.Ns N mN) (hi:mN "__init__" = some (.ref fI)) (hfI:h.get? fI = some oI) (hfc:oI.cls = .type "function")
  (hq:∀ h' e,(∀ b o,h.get? b = some o → h'.get? b = some o) → h.objs.size ≤ e → (∃ tt,h'.get? e = some (K7 C tt none)) →
   wpAny (model prog w) (A.under (.builtin "type.__call__" ⟨.ref C :: rest,[]⟩)) (call (.ref fI) (.ref e :: rest)) (fun r s'=>r = .none ∧ Q (.ref e) s') E ⟨h',g,d,t,os⟩) (hrest:rest.length ≤ sizeLine) :
  wpAny (model prog w) A (call (.ref C) rest) Q E ⟨h,g,d,t,os⟩:=by
 have f1:=tc_lookup
 have f2:=tc_bind (.ref C)
 have hT:(⟨h,g,d,t,os⟩:Shared).TypeIs (.ref C) "type":=⟨_,hC,rfl⟩
 refine wpAny_call (codeAny_of_tree ?_)
 show wpAny _ _ (callAny (.ref C) _) _ _ _
 repeat (any_goals (first | assumption | with_reducible refine wpAny_loadPart_at hC ?_ | wp_step))
 refine ⟨rfl,?_⟩
 refine codeAny_call_builtin_at (Code.quiet_builtin _ (by decide +kernel)) entry_typeCall (wpAny_check_type_call_sub hC (aC4 T hC hn hi hfI hfc (fun h' e a1 a2 a3=>?_) hrest))
 exact hq h' e a1 a2 a3
end
section
variable {M:Model} {A:Around} {E:Value → Shared → Prop} {s:Shared} {env:Env} {C:Addr}
theorem aj0 {x:Sem Value} {Q:Flow → Shared → Prop} (hh:A.handled = none)
  (h:wpAny M A x (fun v s1=>∃ e t od fI,v = .ref e ∧ ClsI C fI s1.heap ∧ s1.heap.get? e = some (K7 C t od) ∧ E (.ref e) s1) E s) :
  wpAny M A (raiseStmt env (some x) none) Q E s:=by
 unfold raiseStmt
 refine wpAny_bind (wpAny_mono h (fun v s1 z=>?_) fun _ _ y=>y)
 obtain ⟨e,t,od,fI,rfl,Z,he,hE⟩:=z
 obtain ⟨bm,N,nm,q,bs,sn,sub,ab,col,dd,k0,k1,k2,k3,k5,mN,hC,_,_,T,_⟩:=Z.obj
 have hcB:(Value.ref C :: bm).contains (.type "BaseException") = true:=by rw [List.contains_cons,T.hasType PySem.F.excBase_ValueError.hasBase,Bool.or_true]
 obtain ⟨hp,g,d,tk,os⟩:=s1
 repeat (first | with_reducible refine wpAny_loadPart_at he ?_ | with_reducible refine wpAny_loadPart_at hC ?_ | (with_reducible refine wpAny_isSubtype_exc hC ?_; rw [hcB]) | wp_step)
 exact wpAny_raiseNew_none hh hE
end
section
variable {prog:Program} {w:World} {A:Around} {E:Value → Shared → Prop} {s:Shared} {env:Env} {C fI:Addr}
theorem aF3 {x:Str} {np cpos pos:Pos} {args:List Expr} {Q:Flow → Shared → Prop} (hh:A.handled = none) (hplain:(backTo cpos (starEach args env)).any (·.1) = false)
  (h:wpAny (model prog w) A (eval (.Name x np) env) (fun f s1=>f = .ref C ∧ wpAny (model prog w) A (evalArgs (.ref C) true (backTo cpos (starEach args env)) [])
   (fun a s2=>a.kw = [] ∧ a.pos.length ≤ sizeLine ∧ ClsI C fI s2.heap ∧ (∃ oI,s2.heap.get? fI = some oI ∧ oI.cls = .type "function") ∧
    ∀ h' e,(∀ b o,s2.heap.get? b = some o → h'.get? b = some o) → s2.heap.objs.size ≤ e → (∃ tt,h'.get? e = some (K7 C tt none)) →
     wpAny (model prog w) (A.under (.builtin "type.__call__" ⟨.ref C :: a.pos,[]⟩)) (call (.ref fI) (.ref e :: a.pos)) (fun r s'=>r = .none ∧ ClsI C fI s'.heap ∧ (∃ t od,s'.heap.get? e = some (K7 C t od)) ∧ E (.ref e) s') E { s2 with heap:=h' }) E s1) E s) :
  wpAny (model prog w) A (exec (.Raise (some (.Call (.Name x np) args [] cpos)) none pos) env) Q E s:=by
 rw [arm_exec_Raise]
 first
  | refine wpAny_bind (wpAny_standAt (aj0 (C:=C) hh (wpAny_bind (wpAny_mono (wpAny_Call_ofName (wpAny_mono h (fun f s1 z=>?_) fun _ _ y=>y)) (fun v s3 y3=>wpAny_bind (wpAny_standAt (wpAny_pure y3))) fun _ _ y=>y))))
  | (simp only [evalOpt,Option.map]; refine wpAny_bind (wpAny_standAt (aj0 (C:=C) hh (wpAny_bind (wpAny_mono (wpAny_Call_ofName (wpAny_mono h (fun f s1 z=>?_) fun _ _ y=>y)) (fun v s3 y3=>wpAny_bind (wpAny_standAt (wpAny_pure y3))) fun _ _ y=>y)))))
  | (refine wpAny_bind (wpAny_standAt (aj0 (C:=C) hh ?_)); refine wpAny_bind (wpAny_mono (wpAny_Call_ofName (wpAny_mono h (fun f s1 z=>?_) fun _ _ y=>y)) (fun v s3 y3=>wpAny_bind (wpAny_standAt (wpAny_pure y3))) fun _ _ y=>y))
 obtain ⟨rfl,z⟩:=z
 unfold callWith
 refine wpAny_bind (wpAny_holding (wpAny_mono z (fun a s2 y=>wpAny_bind (wpAny_standAt ?_)) fun _ _ y=>y))
 obtain ⟨apos,akw⟩:=a
 obtain ⟨hkw,hlen,Z,⟨oI,hfI,hfc⟩,y⟩:=y
 obtain rfl:akw = []:=hkw
 obtain ⟨bm,N,nm,q,bs,sn,sub,ab,col,dd,k0,k1,k2,k3,k5,mN,hC,hn,hi,T,_⟩:=Z.obj
 obtain ⟨hp,g,d,tk,os⟩:=s2
 simp only [hplain]
 refine wpAny_bind (wpAny_keeperOf_exc hC ?_)
 refine wpAny_bind (aO8 T hC hn hi hfI hfc (fun h' e a1 a2 a3=>?_) hlen)
 refine wpAny_mono (y h' e a1 a2 a3) (fun r s' u=>?_) fun _ _ u=>u
 obtain ⟨rfl,u1,⟨t,od,u2⟩,u3⟩:=u
 exact ⟨rfl,wpAny_bind (wpAny_holding (wpAny_point (wpAny_pure ⟨e,t,od,fI,rfl,u1,u2,u3⟩)))⟩
end
end L2
namespace L2
open PySem PySem.Spec PyProof.Rows
open PySem.W (Looks InstAt)
open PySem.Builtin PySem.Builtin.ObjectAttr
theorem aw5 (self:Value):∀ {l:List Value},Q5 l = true → refuseLoop self "__setattr__" l = pure ()
 | .ref c :: r,e=>by rw [refuseLoop_ref]; exact aw5 self (l:=r) e
 | [],e=>by cases e
 | .none :: _,e=>by cases e
 | .bool _ :: _,e=>by cases e
 | .int _ _ :: _,e=>by cases e
 | .str _ _ :: _,e=>by cases e
 | .bytes _ _ :: _,e=>by cases e
 | .float _ _ :: _,e=>by cases e
 | .builtin _ :: _,e=>by cases e
 | .type n :: r,e=>by
  rw [show (Value.type n :: r) = aB9 from beq_iff_eq.mp e]
  exact PySem.F.store_ValueError.passes self
structure ExcN (K:PySem.W.Frag) (C:Addr):Prop where
 cd:∃ cd,PySem.W.clsIn K C = some cd ∧ Q5 cd.mro = true ∧ cd.hasDict = true
 sa:PySem.W.findIn K (.ref C) "__setattr__" = some (some (.builtin "object.__setattr__"))
 hd:PySem.W.hasDictIn K C = true
section
variable {prog:Program} {w:World} {A:Around} {E:Value → Shared → Prop} {s:Shared} {K:PySem.W.Frag} {x C:Addr} {R:Result → Shared → Prop}
theorem ao3 {ox:Obj} {od:Option Obj} {name:Str} {tk:Tok} {v:Value} (X:K.In s.heap) (I:InstAt s.heap x ox C od) (Z:ExcN K C) (mo:PySem.W.mroIn K C (.type "object") = some true) (ht:PySem.W.findIn K (.ref C) name = some none)
  (h:∀ b,wpAny (model prog w) A.in1 (storeInOwnDict (.ref x) (.ref C) (.str name tk) name v b)
   (fun fin s'=>match fin with | .done f=>R (.ok f) s' | .again c'=>c'.quiet = true ∧ codeAny (model prog w) A c' R s') (fun e s'=>R (.error e) s') s) :
  codeAny (model prog w) A (.call (.builtin "object.__setattr__") ⟨[.ref x,.str name tk,v],[]⟩) R s:=by
 have SF:=PySem.F.store_object
 obtain ⟨cd,hc,ho,_⟩:=Z.cd
 have sub:Looks (model prog w) s.heap (isInstance (.ref x) (.type "object")) true:=I.type.andThen (PySem.W.looks_mroIn X mo)
 refine codeAny_call_builtin SF.slot.plain SF.entry (@PySem.W.check_slot (model prog w) _ _ s "object.__setattr__" "object" "__setattr__" (.ref x) [.str name tk,v] [] _ SF.kind SF.split sub (SF.args (.ref x) (.str name tk) v) ?_)
 have hm:Looks (model prog w) s.heap (mroOf (.ref C)) cd.mro:=(PySem.W.looks_clsIn X hc).andThen .now
 rw [PySem.W.osa_eq,refuse_eq]
 refine wpAny_bind (wpAny_bind (I.type.here (wpAny_bind (hm.here ?_))))
 rw [aw5 _ ho]
 refine wpAny_pure (wpAny_bind (I.type.here (wpAny_bind ((PySem.W.looks_findIn X ht).here (wpAny_bind (wpAny_pure ?_))))))
 exact h _
theorem aL2 {t:Addr} {name:Str} {v:Value} {Q:Unit → Shared → Prop} (X:K.In s.heap) (hx:s.heap.get? x = some (K7 C t none)) (Z:ExcN K C) (mo:PySem.W.mroIn K C (.type "object") = some true) (ht:PySem.W.findIn K (.ref C) name = some none)
  (h:∀ h',h'.get? x = some (K7 C t (some s.heap.objs.size)) → h'.Ns1 s.heap.objs.size (fun y=>if y = name then some v else none) → (∀ b o,b ≠ x → s.heap.get? b = some o → h'.get? b = some o) → Q () { s with heap:=h',toks:=s.toks + 2 }) :
  wpAny (model prog w) A (setAttr (.ref x) name v) Q E s:=by
 have J:InstAt s.heap x (K7 C t none) C none:=⟨hx,rfl,rfl,trivial⟩
 refine PySem.W.set_plain X J Z.sa (ao3 (s:={ s with toks:=s.toks + 1 }) X J Z mo ht fun b=>?_)
 obtain ⟨cd,hc,_,hd'⟩:=Z.cd
 refine wpAny_bind (wpAny_pure (wpAny_bind (wpAny_bind (wpAny_loadPart hx (wpAny_bind (Looks.here (s:={ s with toks:=s.toks + 1 }) (PySem.W.looks_clsIn X hc) ?_))))))
 rw [hd']
 have x1:(s.heap.push { cls:=.type "dict",data:=.dict #[] }).get? x = some (K7 C t none):=Heap.get?_push_of_some _ hx
 have nx:x ≠ s.heap.objs.size:=Nat.ne_of_lt (Heap.lt_size hx)
 show wpAny _ _ ((if (!true || !typeHasDict (Value.ref C)) = true then _ else _)) _ _ _
 rw [if_neg (by simp [typeHasDict])]
 refine wpAny_bind (wpAny_alloc' ?_)
 refine wpAny_bind (wpAny_update' x1 ?_)
 refine wpAny_pure ?_
 show wpAny _ _ (storeInDict s.heap.objs.size (.str name s.toks) name v) _ _ _
 have gx:((s.heap.push { cls:=.type "dict",data:=.dict #[] }).update x fun o=>{ cls:=o.cls,dict:=some s.heap.objs.size,data:=o.data,slots:=o.slots }).get? x = some (K7 C t (some s.heap.objs.size)):=Heap.get?_update_self _ x1 rfl
 have gd:((s.heap.push { cls:=.type "dict",data:=.dict #[] }).update x fun o=>{ cls:=o.cls,dict:=some s.heap.objs.size,data:=o.data,slots:=o.slots }).get? s.heap.objs.size = some { cls:=.type "dict",data:=.dict #[] } :=
  (Heap.get?_update_ne _ _ _ _ nx.symm).trans (Heap.get?_push_at rfl rfl)
 have ko:∀ b o,b ≠ x → s.heap.get? b = some o → ((s.heap.push { cls:=.type "dict",data:=.dict #[] }).update x fun o=>{ cls:=o.cls,dict:=some s.heap.objs.size,data:=o.data,slots:=o.slots }).get? b = some o:=fun b o n e=>(Heap.get?_update_ne _ _ _ _ n).trans (Heap.get?_push_of_some _ e)
 generalize ((s.heap.push { cls:=.type "dict",data:=.dict #[] }).update x fun o=>{ cls:=o.cls,dict:=some s.heap.objs.size,data:=o.data,slots:=o.slots }) = g1 at gx gd ko ⊢
 have nd:g1.Ns s.heap.objs.size (fun _=>none):=⟨_,#[],_,gd,rfl,fun e he=>absurd he (by simp),fun _=>rfl⟩
 unfold storeInDict newKeyGuard
 refine wpAny_bind (wpAny_pure (wpAny_bind (wpAny_nsSet1 (Heap.Ns1.of_empty nd) fun h' hn' hs=>?_)))
 obtain ⟨oD,esD,epD,hoD,hdD,hcD⟩:=hn'.count (PySem.Within.cons name v PySem.Within.nil)
 refine wpAny_bind (wpAny_lookBehind hoD (by rw [hdD]; exact pastItsLine_dict (Nat.le_trans hcD (by rw [List.length_cons,List.length_nil,sizeLine_eq]; lia))) ?_)
 exact wpAny_pure (h h' ((hs.2 x nx).trans gx) hn' fun b o n e=>(hs.2 b (Nat.ne_of_lt (Heap.lt_size e))).trans (ko b o n e))
theorem aK9 {t dx:Addr} {mA:Str → Option Value} {ns:List Str} {name:Str} {v:Value} {Q:Unit → Shared → Prop} (X:K.In s.heap) (hx:s.heap.get? x = some (K7 C t (some dx))) (hn:s.heap.Ns1 dx mA) (hw:PySem.Within mA ns) (hz:ns.length ≤ 1000) (Z:ExcN K C)
  (mo:PySem.W.mroIn K C (.type "object") = some true) (ht:PySem.W.findIn K (.ref C) name = some none)
  (h:∀ h',h'.Ns1 dx (fun y=>if y = name then some v else mA y) → Heap.SameBut dx s.heap h' → Q () { s with heap:=h',toks:=s.toks + 2 }) :
  wpAny (model prog w) A (setAttr (.ref x) name v) Q E s:=by
 obtain ⟨od,ho,hl⟩:=ab8 hn
 have J:InstAt s.heap x (K7 C t (some dx)) C (some od):=⟨hx,rfl,rfl,ho⟩
 refine PySem.W.set_plain X J Z.sa (ao3 (s:={ s with toks:=s.toks + 1 }) X J Z mo ht fun b=>?_)
 obtain ⟨cd,hc,_,hd'⟩:=Z.cd
 refine wpAny_bind (wpAny_pure (wpAny_bind (wpAny_bind (wpAny_loadPart hx (wpAny_bind (Looks.here (s:={ s with toks:=s.toks + 1 }) (PySem.W.looks_clsIn X hc) ?_))))))
 rw [hd']
 refine wpAny_pure (a:=some dx) (wpAny_bind (wpAny_pure (wpAny_bind ?_)))
 refine wpAny_nsSet1 (s:={ s with toks:=s.toks + 1 }) hn fun h' hn2 hs2=>?_
 obtain ⟨oD,esD,epD,hoD,hdD,hcD⟩:=hn2.count (PySem.Within.cons name v hw)
 refine wpAny_bind (wpAny_lookBehind hoD (by rw [hdD]; exact pastItsLine_dict (Nat.le_trans hcD (by rw [List.length_cons,sizeLine_eq]; lia))) ?_)
 exact wpAny_pure (h _ hn2 hs2)
theorem bh9 {o:Obj} {dx:Addr} {mA:Str → Option Value} {name:Str} {v:Value} {expr:Bool} {Q:Value → Shared → Prop} (X:K.In s.heap) (Z:ExcX K C) (N:ExcN K C) (hx:s.heap.get? x = some o) (hc:o.cls = .ref C) (hf:∃ fs,o.data = .fields fs) (hd:o.dict = some dx) (hn:s.heap.Ns1 dx mA)
  (ht:PySem.W.findIn K (.ref C) name = some none) (hv:mA name = some v) (hh:PySem.W.handedIn v = true) (h:Q v { s with toks:=s.toks + 1 }) :
  wpAny (model prog w) A (getAttr (.ref x) name expr) Q E s:=by
 obtain ⟨od,ho,hl⟩:=ab8 hn
 obtain ⟨fs,hfs⟩:=hf
 have J:InstAt s.heap x o C (some od):=⟨hx,hc,by obtain ⟨a,b,c,d⟩:=o; cases hfs; rfl,by rw [hd]; exact ho⟩
 have Lf:=PySem.W.looks_find (M:=model prog w) X J (PySem.W.findObj_own N.hd ht rfl (by rw [hl,hv]))
 obtain ⟨hh0,g,dr,t,os⟩:=s
 have L0:Looks (model prog w) hh0 (typeOf (.ref x)) (.ref C):=hc ▸ (Looks.ld hx).andThen .now
 have L1:=PySem.W.looks_findIn (M:=model prog w) X Z.ga
 have L2:=PySem.W.looks_findIn (M:=model prog w) X Z.gn
 have L4:=PySem.W.looks_mroIn (M:=model prog w) X Z.mb
 have f3:=PySem.F.attr_ValueError.ga.bind (.ref x)
 have hk:builtinKind "BaseException.__getattribute__" = some .slot:=by decide +kernel
 have hsplit:splitId "BaseException.__getattribute__" = some ("BaseException","__getattribute__"):=by decide +kernel
 unfold getAttr getAttrBy
 refine wpAny_bind (wpAny_mkText (wpAny_holding (wpAny_bind (L0.at (wpAny_bind (L1.at ?_))))))
 show wpAny _ _ (getAttrByItsOwn _ _ _ _ _ _) _ _ _
 unfold getAttrByItsOwn
 refine wpAny_bind ?_
 show wpAny _ _ (typeLookup _ _) _ _ _
 refine L2.at ?_
 refine wpAny_bind (wpAny_attempt (wpAny_holding ?_))
 unfold callGetattribute
 rw [if_neg (by simp [onTheHeap])]
 unfold boundAndCalled
 refine wpAny_bind ?_
 rw [f3]
 refine wpAny_pure ?_
 refine wpAny_call (codeAny_call_builtin PySem.F.attr_ValueError.ga.plain PySem.F.entry_bexc_ga ?_)
 have ha:=PySem.F.args_bexc_ga (.ref x) (.str name t)
 simp only [checkBuiltinCall,hk,hsplit]
 refine wpAny_bind ?_
 unfold isInstance
 refine wpAny_bind (L0.at (L4.at ?_))
 simp only [Bool.not_true,Bool.false_eq_true,if_false]
 refine wpAny_mono (Q:=fun _ s1=>s1 = ⟨hh0,g,dr,t + 1,os⟩) (E:=fun _ _=>False) ?_ (fun _ s1 z=>?_) fun _ _ z=>z.elim
 ·cases hs:Manifest.signature? "BaseException.__getattribute__" with
  | none=>exact wpAny_pure rfl
  | some sig =>
   simp only [argsOk,hs] at ha
   have h2:Bind.checkArgs "BaseException.__getattribute__" sig ⟨[.ref x,.str name t],[]⟩ = pure ():=ha
   show wpAny _ _ (Bind.checkArgs "BaseException.__getattribute__" sig ⟨[.ref x,.str name t],[]⟩) _ _ _
   rw [h2]
   exact wpAny_pure rfl
 subst z
 unfold Builtin.«object.__getattribute__»
 refine wpAny_bind (wpAny_pure (wpAny_bind (wpAny_pure (wpAny_bind (L0.at (wpAny_bind (Lf.at (wpAny_pure ?_))))))))
 show wpAny _ _ (handedOut v) _ _ _
 rw [PySem.W.handedOut_of hh]
 exact wpAny_pure h
end
end L2
namespace L2
open PySem PySem.Spec PyProof.Rows
def J7 (e C:Addr) (od:Option Addr):HO:=.ext fun h=>∃ t,h.get? e = some (K7 C t od)
def XdO (dx:Addr) (fs:List (Str × V)):HO:=.ext fun h=>∃ mA,h.Ns1 dx mA ∧ (∀ f,U4 (fs.lookup f) (mA f)) ∧ PySem.Within mA (fs.map (·.1))
def Q9 (e C:Addr) (od:Option Addr):HO:=.ext fun h=>∃ o vs,h.get? e = some o ∧ o.cls = .ref C ∧ o.data = .fields vs ∧ o.dict = od
theorem aq3 {P:Program} {w:World} {H:Hp} {h:Heap} {e C t:Addr} {od:Option Addr} (g:h.get? e = some (K7 C t od)):w6 P w H h e (J7 e C od):=⟨⟨t,g⟩,⟨_,g⟩,fun h1 h2 ⟨t',g'⟩ k=>⟨t',k _ g'⟩⟩
theorem a_8 {h1 h2:Heap} {d:Addr} {m:Str → Option Value} (n:h1.Ns1 d m) (k:∀ o,h1.get? d = some o → h2.get? d = some o):h2.Ns1 d m:=by
 obtain ⟨o,es,ep,e,r⟩:=n
 exact ⟨o,es,ep,k _ e,r⟩
theorem aV5 {P:Program} {w:World} {H:Hp} {h:Heap} {dx:Addr} {fs:List (Str × V)} {mA:Str → Option Value} (n:h.Ns1 dx mA) (r:∀ f,U4 (fs.lookup f) (mA f)) (wi:PySem.Within mA (fs.map (·.1))):w6 P w H h dx (XdO dx fs):=by
 obtain ⟨o,es,ep,e,r'⟩:=id n
 exact ⟨⟨mA,n,r,wi⟩,⟨_,e⟩,fun h1 h2 ⟨m,n1,r1,w1⟩ k=>⟨m,a_8 n1 k,r1,w1⟩⟩
section
variable {X:Cx} {o value:Expr} {ta tv:TE} {f:Str} {pos pos':Pos}
def sX0 (K:PySem.W.Frag) (ta tv:TE) (f:Str):TS:=fun D σ H=>tv σ H fun y H1=>ta σ H1 fun x H2=>∃ a C,x = .ref a ∧ H2 a = some (J7 a C none) ∧ ExcN K C ∧ PySem.W.mroIn K C (.type "object") = some true ∧ PySem.W.findIn K (.ref C) f = some none ∧
 ∀ dx,H2 dx = none → D.nx σ (upd (upd H2 a (J7 a C (some dx))) dx (XdO dx [(f,y)]))
theorem a68 (K:PySem.W.Frag) (ha:PE X o ta) (hv:PE X value tv) (hs:swapsWith value (some (.Attribute o f pos')) pos.line X.env = pure false) (hK:X.K = K:=by rfl):PS X (.Assign [.Attribute o f pos'] value pos) (sX0 K ta tv f):=by
 subst hK
 intro pins s σ H D I h
 refine plainObj_wpAny_Assign_Attribute (thn (hv pins s σ H _ I h) fun u s1 ⟨y,H1,I1,ry,q⟩=>thn (ha pins s1 σ H1 _ I1 q) fun ov s2 ⟨x,H2,I2,rx,a,C,ex,ea,Z,mo,nf,q2⟩=>?_) hs
 subst ex
 obtain rfl:ov = Value.ref a:=rx
 obtain ⟨⟨t,g⟩,_,_⟩:=(show w6 X.prog X.w H2 s2.heap a (J7 a C none) from I2.hok a _ ea)
 refine aL2 I2.kIn g Z mo nf fun h' g' n' kp=>?_
 have fr:H2 s2.heap.objs.size = none:=I2.hok.fresh (Nat.le_refl _)
 have na:s2.heap.objs.size ≠ a:=Nat.ne_of_gt (Heap.lt_size g)
 have mu:Mut (H2 a):=by rw [ea]; exact True.intro
 have new1:w6 X.prog X.w (upd H2 a (J7 a C (some s2.heap.objs.size))) h' a (J7 a C (some s2.heap.objs.size)):=aq3 g'
 have ok1:=I2.hok.write (e:=a) mu (.inl rfl) (fun b u hb z=>kp b u hb z) ⟨_,g'⟩ new1
 have fr1:upd H2 a (J7 a C (some s2.heap.objs.size)) s2.heap.objs.size = none:=by rw [j4 na]; exact fr
 refine ⟨σ,_,I2.call' (s':={ s2 with heap:=h',toks:=s2.toks + 2 }) (ch:=[]) rfl (Un.track (Un.write (e:=a) mu (.inl rfl) (fun b u hb z=>kp b u hb z) ⟨_,g'⟩) (Nat.le_refl _) fr) (HOk.track ok1 fr1 (aV5 (fs:=[(f,y)]) n' (fun g=>?_) ?_)) I2.bare (fun b z=>nomatch z),q2 _ fr⟩
 ·by_cases z:g = f
  ·subst z
   simp only [List.lookup,beq_self_eq_true,if_true]
   exact ry
  ·have z':(g == f) = false:=beq_eq_false_iff_ne.mpr z
   simp only [List.lookup,z',if_neg z]
   exact True.intro
 ·exact PySem.Within.cons f u PySem.Within.nil
def sX1 (K:PySem.W.Frag) (ta tv:TE) (f:Str):TS:=fun D σ H=>tv σ H fun y H1=>ta σ H1 fun x H2=>∃ a C dx fs,x = .ref a ∧ H2 a = some (J7 a C (some dx)) ∧ H2 dx = some (XdO dx fs) ∧ ExcN K C ∧ PySem.W.mroIn K C (.type "object") = some true ∧ PySem.W.findIn K (.ref C) f = some none ∧ fs.length < 1000 ∧
 D.nx σ (upd H2 dx (XdO dx ((f,y) :: fs)))
theorem bc7 (K:PySem.W.Frag) (ha:PE X o ta) (hv:PE X value tv) (hs:swapsWith value (some (.Attribute o f pos')) pos.line X.env = pure false) (hK:X.K = K:=by rfl):PS X (.Assign [.Attribute o f pos'] value pos) (sX1 K ta tv f):=by
 subst hK
 intro pins s σ H D I h
 refine plainObj_wpAny_Assign_Attribute (thn (hv pins s σ H _ I h) fun u s1 ⟨y,H1,I1,ry,q⟩=>thn (ha pins s1 σ H1 _ I1 q) fun ov s2 ⟨x,H2,I2,rx,a,C,dx,fs,ex,ea,ed,Z,mo,nf,hl,q2⟩=>?_) hs
 subst ex
 obtain rfl:ov = Value.ref a:=rx
 obtain ⟨⟨t,g⟩,_,_⟩:=(show w6 X.prog X.w H2 s2.heap a (J7 a C (some dx)) from I2.hok a _ ea)
 obtain ⟨⟨mA,n,r,wi⟩,_,_⟩:=(show w6 X.prog X.w H2 s2.heap dx (XdO dx fs) from I2.hok dx _ ed)
 refine aK9 I2.kIn g n wi (by rw [List.length_map]; lia) Z mo nf fun h' n' sb=>?_
 have he:∃ u,h'.get? dx = some u:=by obtain ⟨o,_,_,e,_⟩:=id n'; exact ⟨o,e⟩
 refine ⟨σ,_,I2.write (x:=dx) (e:=dx) (o:=XdO dx ((f,y) :: fs)) (by rw [ed]; exact True.intro) (.inl rfl) (fun b u hb z=>(sb.2 b hb).trans z) he (aV5 n' (fun g=>?_) ?_),q2⟩
 ·by_cases z:g = f
  ·subst z
   simp only [List.lookup,beq_self_eq_true,if_true]
   exact ry
  ·have z':(g == f) = false:=beq_eq_false_iff_ne.mpr z
   simp only [List.lookup,z',if_neg z]
   exact r g
 ·rw [List.map_cons]
  exact PySem.Within.cons f u wi
def tXf (K:PySem.W.Frag) (ta:TE) (f:Str):TE:=fun σ H Q=>ta σ H fun x H1=>∃ a C dx fs v,x = .ref a ∧ H1 a = some (Q9 a C (some dx)) ∧ H1 dx = some (XdO dx fs) ∧ ExcX K C ∧ ExcN K C ∧ PySem.W.findIn K (.ref C) f = some none ∧ fs.lookup f = some v ∧ Q v H1
theorem ai2 (K:PySem.W.Frag) (he:PE X o ta) (hK:X.K = K:=by rfl) (hb:attributeBase o f X.env (eval o X.env) = eval o X.env:=by rfl):PE X (.Attribute o f pos) (tXf K ta f):=by
 subst hK
 intro pins s σ H Q I h
 refine aH9 hb (thn (he pins s σ H _ I h) fun u s1 ⟨x,H1,I1,rx,a,C,dx,fs,v,ex,ea,ed,Z,N,nf,l,q⟩=>?_)
 subst ex
 obtain rfl:u = Value.ref a:=rx
 obtain ⟨⟨o,vs,g,hc,hd,hdd⟩,_,_⟩:=(show w6 X.prog X.w H1 s1.heap a (Q9 a C (some dx)) from I1.hok a _ ea)
 obtain ⟨⟨mA,n,r,wi⟩,_,_⟩:=(show w6 X.prog X.w H1 s1.heap dx (XdO dx fs) from I1.hok dx _ ed)
 obtain ⟨u',hu,ru⟩:=U4.some_of (v:=v) (o:=mA f) (by rw [← l]; exact r f)
 exact bh9 I1.kIn Z N g hc ⟨vs,hd⟩ hdd n nf hu (ap4 ru) ⟨v,H1,I1.tok _,ru,q⟩
def aT1 (K:PySem.W.Frag):List V → Hp → VK → Prop:=fun xs H Q=>∃ ea C od d c b,xs = [.ref ea,d] ∧ (∀ u,x8 d u → u = c) ∧ H ea = some (Q9 ea C od) ∧ ExcX K C ∧ PySem.W.kitOne K (.ref C) c = some b ∧ Q (.bl b) H
theorem A2 (K:PySem.W.Frag) (h:X.K = K:=by rfl):B0 X (.builtin "isinstance") (aT1 K):=by
 subst h
 intro pins s σ H xs us Q I r h
 obtain ⟨ea,C,od,d,c,b,rfl,hd,he,Z,e,q⟩:=h
 obtain ⟨u,u',rfl,r1,r2⟩:=am2 r
 cases (show u = Value.ref ea from r1)
 cases hd u' r2
 obtain ⟨⟨o,vs,ho,hc,_⟩,_⟩:=(show w6 X.prog X.w H s.heap ea (Q9 ea C od) from I.hok ea _ he)
 exact PySem.W.kia_one (aR3 Z) I.kIn ⟨o,ho,hc⟩ e (fun z=>nomatch z) fun tk=>⟨.bl b,H,I.tok _,rfl,q⟩
end
end L2
namespace L2
open PySem PySem.Spec PyProof.Rows
def ar6 (H:Hp) (e:Addr):Hp:=fun b=>if b = e then none else H b
theorem ao9 {H:Hp} {e:Addr}:ar6 H e e = none:=if_pos rfl
theorem C6 {H:Hp} {e b:Addr} (h:b ≠ e):ar6 H e b = H b:=if_neg h
def CXF (P:Program) (w:World):CXT:=fun outer H s E e s'=>∃ (ea C:Addr) (a0:Value) (B:Heap) (H':Hp) (od:Option Addr),
 e = .ref ea ∧ s'.os = s.os ∧ AllBare s'.gens ∧ Heap.FlyingW B outer ea (.ref C) a0 s'.heap ∧ F7 s'.heap ea od ∧ Fly (frs outer) H H' s.heap B s'.heap ∧ HOk P w H' B ∧ E (.ref C) od H'
def aK7 (X:Cx) (E:St → XK):Prop:=∀ (pins:List (Addr × Obj)) (σ:St) (H:Hp) (s:Shared) (e:Value) (s':Shared),Inv X pins σ H s → CXF X.prog X.w X.stack H s (E σ) e s' → X.xe e s'
def aQ8 (X:Cx) (E:XK):Prop:=∀ (pins:List (Addr × Obj)) (σ:St) (H:Hp) (s:Shared) (e C:Addr) (od:Option Addr),Inv X pins σ H s → H e = some (J7 e C od) → X.s₀.heap.get? e = none → E (.ref C) od (ar6 H e) → X.xe (.ref e) s
section
variable {P:Program} {w:World} {K:PySem.W.Frag} {mg:Str → Option Value} {base:Heap} {N:List Str} {qual:Str} {scope:Scope} {f:Addr} {cd:Value} {A:Around} {outer:List Env} {s:Shared} {H:Hp} {E:XK}
theorem U8:aQ8 (N4 (CXF P w) P w K mg base N qual scope f cd A outer s H E) E:=by
 intro pins σ H1 s1 e C od I he h0 hE
 show wpAny _ _ (leaving _ (.ref e)) _ _ _
 have fr:frs (N4 (CXF P w) P w K mg base N qual scope f cd A outer s H E).stack = s.heap.objs.size :: frs outer:=aA4 rfl
 have hin:∀ env ∈ (N4 (CXF P w) P w K mg base N qual scope f cd A outer s H E).stack,∀ a,env.frame = some a → a ∈ e :: frs (N4 (CXF P w) P w K mg base N qual scope f cd A outer s H E).stack:=fun env hm b hb=>List.mem_cons_of_mem _ (List.mem_filterMap.mpr ⟨env,hm,hb⟩)
 have frees:=I.stkFree
 have stk:=I.stack
 obtain ⟨⟨t,g⟩,_,_⟩:=(show w6 P w H1 s1.heap e (J7 e C od) from I.hok e _ he)
 refine ak5 (B:=PySem.W.hideAll s1.heap (e :: frs (N4 (CXF P w) P w K mg base N qual scope f cd A outer s H E).stack)) I.ok.frames (PySem.W.funFrames_hide stk hin) rfl g (fun b o q=>PySem.W.of_hideAll _ q) (PySem.W.hideAll_none _ (List.mem_cons_self ..)) rfl rfl rfl fun h'' fl up dz=>?_
 have ne:∀ b,b ∈ frs (N4 (CXF P w) P w K mg base N qual scope f cd A outer s H E).stack → b ≠ e:=fun b hb z=>by
  have:=frees b hb
  rw [z,he] at this
  cases this
 have keepB:∀ b o,s1.heap.get? b = some o → b ≠ e → b ∉ frs (N4 (CXF P w) P w K mg base N qual scope f cd A outer s H E).stack → (PySem.W.hideAll s1.heap (e :: frs (N4 (CXF P w) P w K mg base N qual scope f cd A outer s H E).stack)).get? b = some o:=fun b o q n1 n2=>PySem.W.hideAll_get _ q fun z=>(List.mem_cons.mp z).elim n1 n2
 have n0:∀ b o,s.heap.get? b = some o → b ≠ e:=fun b o q z=>by
  have h0':s.heap.get? e = none:=h0
  rw [z,h0'] at q
  cases q
 have nL:∀ b o,s.heap.get? b = some o → b ∉ frs outer → b ∉ frs (N4 (CXF P w) P w K mg base N qual scope f cd A outer s H E).stack:=fun b o q hb z=>by
  rw [fr] at z
  rcases List.mem_cons.mp z with y | y
  ·exact absurd (Heap.lt_size q) (by rw [y]; exact Nat.lt_irrefl _)
  ·exact hb y
 have fly:Fly (frs outer) H (ar6 H1 e) s.heap (PySem.W.hideAll s1.heap (e :: frs (N4 (CXF P w) P w K mg base N qual scope f cd A outer s H E).stack)) h'':=by
  refine ⟨fun b o q hb=>?_,fun b o q hb=>?_,fun b o q n=>?_,fun b xs q=>?_,fun b o u q=>?_,fun b ps q=>?_⟩
  ·obtain ⟨o1,e1⟩:=I.base.there b o q (show _ ∉ ([]:List Addr) by simp)
   refine ⟨⟨o1,keepB b o1 e1 (n0 b o q) (nL b o q hb)⟩,fun n=>?_⟩
   exact keepB b o (I.base.keep b o q n hb (show _ ∉ ([]:List Addr) by simp)) (n0 b o q) (nL b o q hb)
  ·obtain ⟨s1',q1⟩:=I.base.slot b o q (I.ok.frf b hb) hb (show _ ∉ ([]:List Addr) by simp)
   have hb':b ∈ frs (N4 (CXF P w) P w K mg base N qual scope f cd A outer s H E).stack:=by rw [fr]; exact List.mem_cons_of_mem _ hb
   obtain ⟨s2',q2⟩:=up b _ q1 (by
    obtain ⟨_,o',q',d⟩:=stk.mem hb'
    rw [q1] at q'
    cases q'
    exact d)
   exact ⟨s2',q2⟩
  ·rw [C6 (n0 b o q)]
   exact I.base.free b o q n (show _ ∉ ([]:List Addr) by simp)
  ·have z:=I.base.tups b xs q
   rw [C6 (fun y=>by rw [y,he] at z; cases z)]
   exact z
  ·have z:=I.base.frzs b o u q
   rw [C6 (fun y=>by rw [y,he] at z; cases z)]
   exact z
  ·obtain ⟨m,z⟩:=I.base.tbls b ps q
   exact ⟨m,by rw [C6 (fun y=>by rw [y,he] at z; cases z)]; exact z⟩
 refine ⟨e,C,_,_,ar6 H1 e,od,rfl,I.os,I.bare,fl,dz,fly,fun b u e1=>?_,hE⟩
 have nb:b ≠ e:=fun z=>by rw [z,ao9] at e1; cases e1
 rw [C6 nb] at e1
 refine (I.hok b u e1).stay (fun c v hc q=>keepB c v q ?_ fun hm=>?_) (fun c q=>?_) fun c xs q=>?_
 ·rintro rfl
  rcases hc with z | z
  ·exact nb z.symm
  ·rw [he] at z; cases z
 ·have hn:=frees c hm
  rcases hc with z | z
  ·rw [z] at hn; rw [e1] at hn; cases hn
  ·rw [z] at hn; cases hn
 ·rw [C6 (fun y=>by rw [y,he] at q; cases q)]; exact q
 ·rw [C6 (fun y=>by rw [y,he] at q; cases q)]; exact q
theorem ag3 {E2:XK} (hE:∀ c d H,E2 c d H → E c d H):aK7 (N4 (CXF P w) P w K mg base N qual scope f cd A outer s H E) (fun _=>E2):=by
 intro pins σ H1 s1 e s' I c
 obtain ⟨ea,C,a0,B,H2,od,rfl,os,bare,fl,dz,fy,hok,hE2⟩:=c
 show wpAny _ _ (leaving _ (.ref ea)) _ _ _
 have fr:frs (N4 (CXF P w) P w K mg base N qual scope f cd A outer s H E).stack = s.heap.objs.size :: frs outer:=aA4 rfl
 refine aG9 I.ok.frames rfl fl dz fun h'' fl' up dz'=>?_
 have f2:=fy.up (h3:=h'') fun b hb o e1=>up b o e1 (by
  obtain ⟨_,o',q,d⟩:=fl.2.2.1.mem hb
  rw [e1] at q; cases q; exact d)
 refine ⟨ea,C,a0,B,H2,od,rfl,os.trans I.os,bare,fl',dz',f2.after (u:=I.base) (fun b o e1 hb=>?_) (fun b hb=>by rw [fr]; exact List.mem_cons_of_mem _ hb) I.ok.frf,hok,hE _ _ _ hE2⟩
 rw [fr]
 intro z
 rcases List.mem_cons.mp z with z | z
 ·exact absurd (Heap.lt_size e1) (by rw [z]; exact Nat.lt_irrefl _)
 ·exact hb z
end
structure CalleeF (P:Program) (w:World) (K:PySem.W.Frag) (mg:Str → Option Value) (base:Heap) (k:Nat) (x:Str) (ps:List Str) (dvs:List V) (sp:Sp):Prop where
 ex:∃ (f:Addr) (fd:FuncData),FnOk P w K mg base (CXF P w) k f fd ps sp ∧ (∀ m,m ≤ dvs.length → ∃ ds,u0 (dvs.drop m) ds ∧ O5 K fd ps ds) ∧ PySem.W.keepIn K (.ref f) = true ∧ mg x = some (.ref f)
section
variable {P:Program} {w:World} {K:PySem.W.Frag} {mg:Str → Option Value} {base:Heap}
theorem DefD.okF {x:Str} {st:Stmt} {N ps:List Str} {k:Nat} {dvs:List V} {sp:Sp} (D:DefD K mg x st ps dvs) (S:FnScope N ps (i7 st)) (len:∀ vs H Q E,sp vs H Q E → vs.length = ps.length)
  (hbody:∀ (f:Addr) (cdv:Value) (A:Around) (outer:List Env) (s:Shared) (H:Hp) (vs:List V) (Q:VK) (E:XK),Room k (A.deeper (envOfC x (i7 st) s.heap.objs.size f cdv)) → sp vs H Q E →
   ∃ t,PSs (N4 (CXF P w) P w K mg base N x (i7 st) f cdv A outer s H E) (j9 st) t ∧ t { nx:=fun _ H'=>Q .non H',rt:=Q } (start N vs) H):CalleeF P w K mg base (k + 1) x ps dvs sp:=by
 obtain ⟨f,fd,⟨oc,od,dV,kV,doc,pm,an,cdv,ct,osl,rfl,lk,hcd⟩,kp,b,m⟩:=D.ex
 exact ⟨f,_,av3 lk hcd S len fun A outer s H vs Q E hr hsp=>hbody f cdv A outer s H vs Q E hr hsp,b,kp,m⟩
theorem Def.okF {x:Str} {st:Stmt} {N ps:List Str} {k:Nat} {sp:Sp} (D:Def K mg x st ps) (S:FnScope N ps (i7 st)) (len:∀ vs H Q E,sp vs H Q E → vs.length = ps.length)
  (hbody:∀ (f:Addr) (cdv:Value) (A:Around) (outer:List Env) (s:Shared) (H:Hp) (vs:List V) (Q:VK) (E:XK),Room k (A.deeper (envOfC x (i7 st) s.heap.objs.size f cdv)) → sp vs H Q E →
   ∃ t,PSs (N4 (CXF P w) P w K mg base N x (i7 st) f cdv A outer s H E) (j9 st) t ∧ t { nx:=fun _ H'=>Q .non H',rt:=Q } (start N vs) H):CalleeF P w K mg base (k + 1) x ps [] sp:=by
 obtain ⟨f,fd,⟨⟨oc,od,kV,doc,pm,an,cdv,ct,osl,rfl,lk,hcd⟩,kp⟩,b,m⟩:=D.ex
 refine ⟨f,_,av3 lk hcd S len fun A outer s H vs Q E hr hsp=>hbody f cdv A outer s H vs Q E hr hsp,fun j hj=>⟨[],?_,b⟩,kp,m⟩
 rw [List.drop_nil]; exact .nil
end
section
variable {X:Cx} {k n:Nat} {ps:List Str} {dvs:List V} {sp:Sp} {x:Str} {p pos:Pos} {e:Expr} {es:List Expr} {t:TA} {E:St → XK}
theorem a03 {f:Addr} {fd:FuncData} {ds:List Value} {pins:List (Addr × Obj)} {σ:St} {H:Hp} {s:Shared} {Q:VK} {us:List Value} {vs:List V} (F:FnOk X.prog X.w X.K X.mg X.base (CXF X.prog X.w) k f fd ps sp) (hr:Room k X.A) (hb:O5 X.K fd ps ds) (hd:u0 dvs ds) (hx:aK7 X E)
  (I:Inv X pins σ H s) (r:u0 vs us) (h:sp (vs ++ dvs) H Q (E σ)):wpAny (model X.prog X.w) X.A (call (.ref f) us) (EP X pins σ Q) X.xe s:=by
 have r2:u0 (vs ++ dvs) (us ++ ds):=r.append hd
 have hl:(us ++ ds).length = ps.length:=by rw [← r2.length]; exact F.len _ _ _ _ h
 refine wpAny_call (codeAny_mono (F.run X.A X.stack s H ⟨us,[]⟩ (us ++ ds) (vs ++ dvs) Q (E σ) hr I.env0 (hb s us I.kIn hl) r2 h) fun r s' hq=>?_)
 cases r with
 | error e=>exact hx pins σ H s e s' I hq
 | ok fl =>
  cases fl with
  | ret u=>exact I.after hq
  | next=>exact False.elim hq
  | brk=>exact False.elim hq
  | cont=>exact False.elim hq
theorem ah8 (m:Nat) (C:CalleeF X.prog X.w X.K X.mg X.base k x ps dvs sp) (hx:aK7 X E) (hr:Room n X.A) (hg:Gl X x) (ha:PA X (e :: es) t) (hm:m ≤ dvs.length:=by decide) (hk:k ≤ n:=by decide) (hdb:(x == ("__debug__":Str)) = false:=by decide)
  (he:starEach (e :: es) X.env = (false,eval e X.env) :: starEach es X.env:=by rfl) (hpl:(backTo pos (starEach es X.env)).any (·.1) = false:=by rfl) :
  PE X (.Call (.Name x p) (e :: es) [] pos) (a_7 sp (dvs.drop m) E t):=by
 obtain ⟨f,fd,F,b,kp,mm⟩:=C.ex
 obtain ⟨ds,hv,hb⟩:=b m hm
 intro pins s σ H Q I h
 refine wpAny_Call_Name_kw (P5 I hg mm ?_ hdb)
 refine PySem.W.callWith_K (h₀:=X.base) I.ok.mod.kin kp (thn (ha pos pins s σ H _ I h) fun us s1 ⟨vs,H1,I1,r,q⟩=>⟨I1.kIn,?_⟩) he hpl
 exact a03 F (hr.mono hk) hb hv hx I1 r q
end
end L2
namespace L2
open PySem PySem.Spec PyProof.Rows
structure ExcI (K:PySem.W.Frag) (mg:Str → Option Value) (x:Str) (C fI:Addr):Prop where
 mg:mg x = some (.ref C)
 exc:X0 K C fI = true
 at_:PySem.W.findIn K (.ref C) "__init__" = some (some (.ref fI))
section
variable {X:Cx} {C:Addr} {x:Str} {E:XK} {np cpos pos:Pos} {e:Expr} {es:List Expr} {t:TA} {k n:Nat} {ps:List Str} {kb:FuncData → Prop} {sp:Sp}
def aZ5 (C:Addr) (sp:Sp) (E:XK) (t:TA):TS:=fun _ σ H=>t σ H fun vs H1=>vs.length ≤ 1000 ∧ ∀ ea,H1 ea = none → sp (.ref ea :: vs) (upd H1 ea (J7 ea C none)) (fun r H2=>r = .non ∧ ∃ od,H2 ea = some (J7 ea C od) ∧ E (.ref C) od (ar6 H2 ea)) E0
theorem ab6 (hl:aQ8 X E) (M:∃ fI,ExcI X.K X.mg x C fI) (Z:CalleeM X.prog X.w X.K X.mg X.base k C "__init__" ps [] kb sp) (hr:Room n X.A) (hh:X.A.handled = none) (hg:Gl X x) (ha:PA X (e :: es) t) (hk:k + 1 ≤ n:=by decide) (hdb:(x == ("__debug__":Str)) = false:=by decide) (hx0:X.ex = []:=by rfl)
  (hst:starEach (e :: es) X.env = (false,eval e X.env) :: starEach es X.env:=by rfl) (hpl:(backTo cpos (starEach es X.env)).any (·.1) = false:=by rfl):PS X (.Raise (some (.Call (.Name x np) (e :: es) [] cpos)) none pos) (aZ5 C sp E t):=by
 obtain ⟨fI,M⟩:=M
 obtain ⟨f,fd,F,mt,hkb,b⟩:=Z.ex
 have ef:f = fI:=by
  have z:=mt.at_
  rw [M.at_] at z
  cases z
  rfl
 subst ef
 obtain ⟨ds,hv,hb⟩:=b 0 (Nat.zero_le _)
 rw [List.drop_zero] at hv
 cases hv
 intro pins s σ H D I h
 have hpl':(backTo cpos (starEach (e :: es) X.env)).any (·.1) = false:=by rw [hst]; exact hpl
 refine aF3 (C:=C) (fI:=f) hh hpl' (P5 I hg M.mg ⟨rfl,?_⟩ hdb)
 have hA:=ha cpos pins s σ H _ I h
 rw [hst] at hA ⊢
 refine Calls.evalArgs_plain ?_
 refine thn hA fun us s2 ⟨vs,H2,I2,r2,hlen,q2⟩=>?_
 have hfn:∃ oI,s2.heap.get? f = some oI ∧ oI.cls = .type "function":=by
  have z:PySem.W.typeIn X.K (.ref f) = some (.type "function"):=beq_iff_eq.mp mt.fn
  obtain ⟨oI,h1,h2⟩:=Option.map_eq_some_iff.mp (show (X.K.lookup f).map (·.cls) = _ from z)
  exact ⟨oI,I2.kIn _ _ h1,h2⟩
 refine ⟨rfl,by rw [← r2.length]; exact Nat.le_of_lt (n5 hlen),aJ8 I2.kIn M.exc,hfn,fun h' ea kp hsz ⟨tt,ge⟩=>?_⟩
 have fr:=I2.hok.fresh hsz
 have I3:Inv X pins σ (upd H2 ea (J7 ea C none)) { s2 with heap:=h' }:=I2.laid (t':=s2.toks) kp hsz (aq3 ge)
 have hq:=q2 ea fr
 have rr:u0 (V.ref ea :: vs) (Value.ref ea :: us):=.cons rfl r2
 have hll:(Value.ref ea :: us).length = ps.length:=by rw [← rr.length]; exact F.len _ _ _ _ hq
 have s0n:X.s₀.heap.get? ea = none:=by
  cases z:X.s₀.heap.get? ea with
  | none=>rfl
  | some o =>
   obtain ⟨o',e'⟩:=I2.base.there ea o z (by rw [hx0]; simp)
   exact absurd (Heap.lt_size e') (Nat.not_lt.mpr hsz)
 refine wpAny_call (codeAny_mono (F.run _ X.stack _ _ ⟨.ref ea :: us,[]⟩ (.ref ea :: us) _ _ E0 ((hr.mono hk).make C us []) (I3.env0.make C us []) (by have:=hb _ (.ref ea :: us) I3.kIn (by rw [List.append_nil]; exact hll); rw [List.append_nil] at this; exact this) rr hq) fun r s' hq'=>?_)
 cases r with
 | error e=>exact (aK1 (X:=X)) pins σ _ _ e s' I3 hq'
 | ok fl =>
  cases fl with
  | ret u =>
   obtain ⟨v,H',I4,rv,ev,od,eH,hE⟩:=I3.after hq'
   subst ev
   cases (show u = Value.none from rv)
   obtain ⟨⟨t',g'⟩,_,_⟩:=(show w6 X.prog X.w H' s'.heap ea (J7 ea C od) from I4.hok ea _ eH)
   exact ⟨rfl,aJ8 I4.kIn M.exc,⟨t',od,g'⟩,hl pins σ H' s' ea C od I4 eH s0n hE⟩
  | next=>exact False.elim hq'
  | brk=>exact False.elim hq'
  | cont=>exact False.elim hq'
end
def xeF (X:Cx) (pn:List (Addr × Obj)) (E:St → XK):Value → Shared → Prop:=fun e s'=>∃ (pins:List (Addr × Obj)) (σ:St) (H:Hp) (s1:Shared),Inv (X.pinned pn) pins σ H s1 ∧ CXF X.prog X.w X.stack H s1 (E σ) e s'
abbrev bf3 (X:Cx) (pn:List (Addr × Obj)) (E:St → XK):Cx:=(X.pinned pn).wish (xeF X pn E)
section
variable {X:Cx} {pins:List (Addr × Obj)} {σ:St} {H:Hp} {s:Shared}
theorem ap3 {pn:List (Addr × Obj)} {E:St → XK}:aK7 (bf3 X pn E) E:=fun pins σ H s _ _ I c=>⟨pins,σ,H,s,I.unwish,c⟩
end
section
variable {X:Cx}
def bd2 (K:PySem.W.Frag) (c:Value) (i:Nat) (tb:(St → XK) → TS) (th:TS):TS:=fun D σ H=>∃ E:St → XK,tb E D σ H ∧ ∀ σ' c0 d H',E σ' c0 d H' → σ'.length = σ.length ∧ PySem.W.exmOne K c0 c = some true ∧
 ∀ (ea C:Addr),c0 = .ref C → H' ea = none → th (D.gone i) (σ'.set i (some (.ref ea))) (upd H' ea (Q9 ea C d))
theorem aZ9 {x n:Str} {c:Value} {i:Nat} {body:List Stmt} {b₀:Stmt} {suite:List Stmt} {np hpos pos:Pos} {tb:(St → XK) → TS} {th:TS} (hg:Gl X x) (hm:X.mg x = some c) (hN:X.N.Nodup) (hi:X.N[i]? = some n)
  (hl:X.env.scope.names.lookup n = some .local) (hst:X.stack = X.env :: X.outer) (hf:X.env.frame = some X.env.locals) (hx0:X.ex = [])
  (hb:∀ (pn:List (Addr × Obj)) (E:St → XK),PSs (bf3 X pn E) body (tb E)) (hs:∀ ea,PSs (hcx X ea) (b₀ :: suite) th) (hdb:(x == ("__debug__":Str)) = false:=by decide) :
  PS X (.Try body [.ExceptHandler (some (.Name x np)) (some n) (b₀ :: suite) hpos] [] [] pos) (bd2 X.K c i tb th):=by
 intro pins s σ H D I h
 obtain ⟨E,h1,h2⟩:=h
 have lenσ:=I.len
 refine wpAny_Try_except ?_
 refine wpAny_mono (hb (X.pn ++ pins) E [] s σ H D (I.toPinned.wish _) h1) (fun fl s1 q=>?_) (fun e s1 q=>?_)
 ·cases fl with
  | next=>obtain ⟨σ',H',J,q⟩:=q; exact wpAny_execs_nil ⟨σ',H',J.unwish.ofPinned,q⟩
  | brk=>obtain ⟨σ',H',J,q⟩:=q; exact ⟨σ',H',J.unwish.ofPinned,q⟩
  | cont=>obtain ⟨σ',H',J,q⟩:=q; exact ⟨σ',H',J.unwish.ofPinned,q⟩
  | ret u=>obtain ⟨v,σ',H',J,r,q⟩:=q; exact ⟨v,σ',H',J.unwish.ofPinned,r,q⟩
 ·obtain ⟨ps,σ1,H1,s0,J0,ea,C,a0,B,H2,od,rfl,os,bare,fl,dz0,fy,hok,hE⟩:=q
  have J1:Inv X pins σ1 H1 s0:=J0.ofPinned
  obtain ⟨lσ,hex,hth⟩:=h2 σ1 _ _ H2 hE
  have he2:H2 ea = none:=by
   cases q:H2 ea with
   | none=>rfl
   | some o=>obtain ⟨u,e⟩:=(hok ea o q).at_; rw [fl.2.1] at e; cases e
  have hframes:X.A.frames = some (X.env :: X.outer):=hst ▸ I.ok.frames
  have flup:∀ {h3:Heap},s1.heap.UpToSlots h3 → Fly (frs X.stack) H1 H2 s0.heap B h3:=fun {h3} up=>fy.up fun b hb o e1=>up b o e1 (by
   obtain ⟨_,o',q,d⟩:=fl.2.2.1.mem hb
   rw [e1] at q; cases q; exact d)
  have inv:∀ {h3:Heap} {t:Nat},s1.heap.UpToSlots h3 → B.StaysIn h3 → Inv X pins σ1 H2 { s1 with heap:=h3,toks:=t }:=fun {h3 t} up st =>
   J1.call' (s':={ s1 with heap:=h3,toks:=t }) (ch:=[]) os ((flup up).un st) (hok.kept st) bare (fun _ z=>nomatch z)
  refine aP6 hframes hf (hst ▸ fl) dz0 fun h4 held up4 dz4=>?_
  refine ba5 held dz4 fun h5 fl5 up5 dz5=>?_
  have up45:=up4.trans up5
  have I5:Inv X pins σ1 H2 { s1 with heap:=h5 }:=inv (t:=s1.toks) up45 fl5.1
  obtain ⟨ob,hob,hobc⟩:=fl5.there
  refine wpAny_handleBy_cons (codeAny_handlers_test (P5 (X:=hcx X ea) (I5.toH ea) hg hm ?_ hdb)) (by intro q; cases q)
  have LT:PySem.W.Looks (model X.prog X.w) h5 (typeOf (.ref ea)) (.ref C):=hobc ▸ (PySem.W.Looks.ld hob).andThen .now
  refine (PySem.W.exm_one (M:=model X.prog X.w) (K:=X.K) (h:=h5) I5.kIn LT hex).here ?_
  refine codeAny_handlers_suite_as ?_
  refine as4 fl5 dz5 fun h6 fl6 up6 dz6=>?_
  have I6:Inv X pins σ1 H2 { s1 with heap:=h6 }:=inv (t:=s1.toks) (up45.trans up6) fl6.1
  obtain ⟨oe,ws,hoe,hoec,hoed,_⟩:=fl6.first
  have hodd:oe.dict = od:=by
   obtain ⟨o2,z1,z2⟩:=dz6
   rw [hoe] at z1
   cases z1
   exact z2
  have new:w6 X.prog X.w (upd H2 ea (Q9 ea C od)) h6 ea (Q9 ea C od):=⟨⟨oe,ws,hoe,hoec,hoed,hodd⟩,⟨oe,hoe⟩,fun g1 g2 ⟨o,vs,e1,e2,e3,e4⟩ k=>⟨o,vs,k _ e1,e2,e3,e4⟩⟩
  have none0:X.s₀.heap.get? ea = none:=by
   cases q:X.s₀.heap.get? ea with
   | none=>rfl
   | some o =>
    exfalso
    have hx:ea ∉ X.ex:=by rw [hx0]; simp
    obtain ⟨o1,e1⟩:=J1.base.there ea o q hx
    by_cases hb:ea ∈ frs X.stack
    ·obtain ⟨_,o',q',d⟩:=fl6.2.2.1.mem (hst ▸ hb)
     rw [hoe] at q'; cases q'; exact d _ hoed
    ·obtain ⟨⟨o',q'⟩,_⟩:=fy.kp ea o1 e1 hb
     rw [fl.2.1] at q'; cases q'
  have ne:∀ {b:Addr} {u:HO},H2 b = some u → b ≠ ea:=fun {b u} e z=>by rw [z,he2] at e; cases e
  have nL:X.env.locals ≠ ea:=fun z=>by
   obtain ⟨m,⟨o,es,ep,ho,hd,_⟩,_⟩:=I6.loc
   rw [z] at ho
   have ho2:h6.get? ea = some o:=ho
   rw [hoe] at ho2; cases ho2; rw [hoed] at hd; cases hd
  have I7:Inv X pins σ1 (upd H2 ea (Q9 ea C od)) { s1 with heap:=h6 }:=by
   refine ⟨I6.ok,I6.os,I6.bare,⟨I6.base.keep,I6.base.slot,fun b o e n hx=>?_,I6.base.there,fun b xs e=>?_,fun b o u e=>?_,fun b ps e=>?_⟩,I6.loc,I6.cell,?_,fun y c e=>?_,fun p hp=>?_,fun b u e=>?_,I6.len⟩
   ·rw [j4 (fun z=>by rw [z,none0] at e; cases e)]; exact I6.base.free b o e n hx
   ·have q:=I6.base.tups b xs e; rw [j4 (ne q)]; exact q
   ·have q:=I6.base.frzs b o u e; rw [j4 (ne q)]; exact q
   ·obtain ⟨m,q⟩:=I6.base.tbls b ps e; exact ⟨m,by rw [j4 (ne q)]; exact q⟩
   ·rw [j4 nL]; exact I6.free
   ·have nC:c ≠ ea:=fun z=>by
     obtain ⟨v,o,ho,hd⟩:=I6.cell y c e
     rw [z] at ho
     have ho2:h6.get? ea = some o:=ho
     rw [hoe] at ho2; cases ho2; rw [hoed] at hd; cases hd
    rw [j4 nC]; exact I6.freeC y c e
   ·obtain ⟨e,n,ne1,nf,d⟩:=I6.pin p hp
    obtain ⟨e0,n0,_,_,_⟩:=J1.pin p hp
    have np:p.1 ≠ ea:=fun z=>by
     have hb:p.1 ∉ frs X.stack:=fun hm=>(List.mem_cons.mp (J1.stkSub _ hm)).elim ne1 nf
     have q:=(fy.kp p.1 p.2 e0 hb).2 n0
     rw [z,fl.2.1] at q; cases q
    exact ⟨e,by rw [j4 np]; exact n,ne1,nf,d⟩
   ·by_cases hb:b = ea
    ·subst hb; rw [i3] at e; cases e; exact new
    ·rw [j4 hb] at e
     exact (I6.hok b u e).stay (fun c v _ q=>q) (fun c q=>by rw [j4 (ne q)]; exact q) fun c xs q=>by rw [j4 (ne q)]; exact q
  refine ag8 (X:=hcx X ea) (I7.toH ea) hN hi (.inl hl) (v:=.ref ea) rfl (fun s7 I8=>?_) (.inr hl)
  refine wpAny_mono (hs ea pins s7 _ _ (D.gone i) I8 (hth ea C rfl he2)) (fun fl8 s8 q8=>?_) fun _ _ z=>z.elim
  cases fl8 with
  | next =>
   obtain ⟨σ',H',J,q⟩:=q8
   exact ae9 (J.ofH I.ok) hN hi hl fun s9 J9=>⟨_,H',J9,q⟩
  | brk =>
   obtain ⟨σ',H',J,q⟩:=q8
   exact ae9 (J.ofH I.ok) hN hi hl fun s9 J9=>⟨_,H',J9,q⟩
  | cont =>
   obtain ⟨σ',H',J,q⟩:=q8
   exact ae9 (J.ofH I.ok) hN hi hl fun s9 J9=>⟨_,H',J9,q⟩
  | ret u =>
   obtain ⟨v,σ',H',J,r,q⟩:=q8
   exact ae9 (J.ofH I.ok) hN hi hl fun s9 J9=>⟨v,_,H',J9,r,q⟩
end
end L2
namespace L2
open PySem PySem.Spec PyProof.Rows
theorem aJ3 {K:PySem.W.Frag} {C fI:Addr} (q:X0 K C fI = true) (sa:PySem.W.findIn K (.ref C) "__setattr__" = some (some (.builtin "object.__setattr__"))):ExcN K C:=by
 have key:∃ cd,PySem.W.clsIn K C = some cd ∧ Q5 cd.mro = true ∧ cd.hasDict = true:=by
  unfold X0 at q
  split at q
  ·rename_i dd cd sl ho
   split at q
   ·rename_i C' bm k0 k1 k2 k3 n k5 hm hs
    simp only [Bool.and_eq_true,beq_iff_eq,Bool.not_eq_true'] at q
    obtain ⟨⟨⟨⟨⟨⟨⟨rfl,rfl⟩,hdel⟩,hdc⟩,ht⟩,hok⟩,hni⟩,hrf⟩:=q
    refine ⟨cd,?_,?_,hdc⟩
    ·unfold PySem.W.clsIn
     rw [ho]
    ·rw [hm]
     exact hrf
   ·cases q
  ·cases q
 refine ⟨key,sa,?_⟩
 obtain ⟨cd,h1,_,h2⟩:=key
 unfold PySem.W.hasDictIn
 rw [h1]
 exact h2
end L2
namespace L2
open PySem PySem.Spec PyProof.Rows
theorem aQ5 {H:Hp} {e:Addr} {o:HO} (h:H e = none):ar6 (upd H e o) e = H:=by
 funext b
 by_cases z:b = e
 ·rw [z,ao9,h]
 ·rw [C6 z,j4 z]
theorem aI9 {X:Cx} {E:XK} (hl:aQ8 X E) (hx0:X.ex = []:=by rfl):be0 X E:=by
 intro pins σ H s C ea h' args I hm hE
 obtain ⟨t,ge,_⟩:=hm.there
 have he2:H ea = none:=by
  cases q:H ea with
  | none=>rfl
  | some o=>obtain ⟨u,e⟩:=(I.hok ea o q).at_; rw [hm.new] at e; cases e
 have s0n:X.s₀.heap.get? ea = none:=by
  cases z:X.s₀.heap.get? ea with
  | none=>rfl
  | some o =>
   obtain ⟨o',e'⟩:=I.base.there ea o z (by rw [hx0]; simp)
   rw [hm.new] at e'
   cases e'
 have I6:Inv X pins σ H { s with heap:=h' }:=I.kept (t':=s.toks) hm.keeps
 have ne:∀ {b:Addr} {u:HO},H b = some u → b ≠ ea:=fun {b u} e z=>by rw [z,he2] at e; cases e
 have nL:X.env.locals ≠ ea:=fun z=>by
  obtain ⟨m,⟨o,es,ep,ho,hd,_⟩,_⟩:=I.loc
  rw [z,hm.new] at ho
  cases ho
 have I7:Inv X pins σ (upd H ea (J7 ea C none)) { s with heap:=h' }:=by
  refine ⟨I6.ok,I6.os,I6.bare,⟨I6.base.keep,I6.base.slot,fun b o e n hx=>?_,I6.base.there,fun b xs e=>?_,fun b o u e=>?_,fun b ps e=>?_⟩,I6.loc,I6.cell,?_,fun y c e=>?_,fun p hp=>?_,fun b u e=>?_,I6.len⟩
  ·rw [j4 (fun z=>by rw [z,s0n] at e; cases e)]; exact I6.base.free b o e n hx
  ·have q:=I6.base.tups b xs e; rw [j4 (ne q)]; exact q
  ·have q:=I6.base.frzs b o u e; rw [j4 (ne q)]; exact q
  ·obtain ⟨m,q⟩:=I6.base.tbls b ps e; exact ⟨m,by rw [j4 (ne q)]; exact q⟩
  ·rw [j4 nL]; exact I6.free
  ·have nC:c ≠ ea:=fun z=>by
    obtain ⟨v,o,ho,hd⟩:=I.cell y c e
    rw [z,hm.new] at ho
    cases ho
   rw [j4 nC]; exact I6.freeC y c e
  ·obtain ⟨e,n,ne1,nf,d⟩:=I6.pin p hp
   obtain ⟨e0,n0,_,_,_⟩:=I.pin p hp
   have np:p.1 ≠ ea:=fun z=>by
    rw [z,hm.new] at e0
    cases e0
   exact ⟨e,by rw [j4 np]; exact n,ne1,nf,d⟩
  ·by_cases hb:b = ea
   ·subst hb; rw [i3] at e; cases e; exact aq3 ge
   ·rw [j4 hb] at e
    exact (I6.hok b u e).stay (fun c v _ q=>q) (fun c q=>by rw [j4 (ne q)]; exact q) fun c xs q=>by rw [j4 (ne q)]; exact q
 exact hl pins σ _ _ ea C none I7 i3 s0n (by rw [aQ5 he2]; exact hE)
end L2
namespace L2
open PySem PyProof.Rows
section
variable {prog:Program} {w:World} {A:Around} {E:Value → Shared → Prop} {s:Shared}
set_option maxHeartbeats 3200000 in
theorem ar3 {l:Addr} {items:Array Value} {ns:List Int} {Q:Value → Shared → Prop} (hh:A.handled = none) (hl:s.heap.IsTuple l items) (hi:IntsAre items.toList ns) (hb:items.size + 1 < scanBound)
  (h:∀ (h':Heap) (tk:Nat),T3 prog w (fun i=>ns.getD i 0) items.size h' s.heap.objs.size → (∀ b o,b < s.heap.objs.size → s.heap.get? b = some o → h'.get? b = some o) → Q (.ref s.heap.objs.size) { s with heap:=h',toks:=tk }) :
  wpAny (model prog w) A (call (.type "set") [.ref l]) Q E s:=by
 obtain ⟨c,tl,hmro⟩:=PySem.F.called_set.mro
 have hmade:=PySem.F.called_set.made
 have hsub:=PySem.F.called_set.sub
 refine wpAny_call (codeAny_of_tree ?_)
 show wpAny _ _ (callAny (.type "set") _) _ _ _
 refine wpAny_pure ⟨Code.quiet_builtin _ (by decide +kernel),codeAny_builtin PySem.F.entry_type_call ?_⟩
 rw [Around.under_plain (weight_type_call_type "set" [.ref l] []) rfl]
 have h1:=PySem.F.called_set.notType
 have h2:=PySem.F.called_set.canCreate
 have hct:=PySem.F.typeCall_set_1 (.ref l)
 repeat (any_goals (first | assumption | wp_step))
 refine codeAny_mono (ad5 (.ref l) (E:=E) (Q:=fun obj s₁=>obj = .ref s.heap.objs.size ∧ s₁ = { s with heap:=s.heap.push (K5 w) }) ⟨rfl,rfl⟩) fun r s₁ hr=>?_
 cases r with
 | error e=>exact hr
 | ok fl =>
  cases fl with
  | ret obj =>
   obtain ⟨rfl,rfl⟩:=hr
   have hS:(s.heap.push (K5 w)).get? s.heap.objs.size = some (K5 w):=Heap.get?_push_size _ rfl
   have hT:Shared.TypeIs { s with heap:=s.heap.push (K5 w) } (.ref s.heap.objs.size) "set":=⟨_,hS,rfl⟩
   have hli:=PySem.F.called_set.init.lookup
   have hbi:=PySem.F.called_set.init.bind (.ref s.heap.objs.size)
   repeat (any_goals (first | assumption | wp_step))
   refine codeAny_mono (codeAny_call_builtin (R:=wants (fun r s₂=>r = .none ∧ ∃ h' tk,s₂ = { s with heap:=h',toks:=tk } ∧ T3 prog w (fun i=>ns.getD i 0) items.size h' s.heap.objs.size ∧
     (∀ b o,b < s.heap.objs.size → s.heap.get? b = some o → h'.get? b = some o)) E) PySem.F.called_set.init.plain PySem.F.entry_set_init (check_set_init_1 hT ?_)) fun r₂ s₂ hr₂=>?_
   ·obtain ⟨ol,hol,hcl,nl,hdl⟩:=id hl
    have hol':(s.heap.push (K5 w)).get? l = some ol:=Heap.get?_push_of_some _ hol
    have hTl:Shared.TypeIs { s with heap:=s.heap.push (K5 w) } (.ref l) "tuple":=⟨ol,hol',hcl⟩
    have hsls:=PySem.F.sub_tuple_set
    have hslf:=PySem.F.sub_tuple_frozenset
    have hne:(Value.type "tuple" == Value.type "dict") = false:=by decide
    have hl1:(s.heap.push (K5 w)).IsTuple l items:=hl.at fun o e=>Heap.get?_push_of_some _ e
    unfold Builtin.«set.__init__» noKeywords Builtin.Frozenset.updateFrom
    generalize hPI:pyIter = PI
    wp_walk
    subst hPI
    refine wpAny_pyIter_tuple hl1 (wpAny_bind (wpAny_runValue ?_))
    have hlS:l < s.heap.objs.size:=Heap.lt_size hol
    have hneI:l ≠ (s.heap.push (K5 w)).objs.size:=by rw [Heap.size_push]; exact Nat.ne_of_lt (Nat.lt_succ_of_lt hlS)
    have hSf:s.heap.objs.size ∉ [(s.heap.push (K5 w)).objs.size,l]:=by
     rw [Heap.size_push]
     simp only [List.mem_cons,List.not_mem_nil,or_false,not_or]
     exact ⟨Nat.ne_of_lt (Nat.lt_succ_self _),Nat.ne_of_gt hlS⟩
    refine az7 ((Walks.tuple (by simpa using hh) _ l hneI items).toS) s.heap.objs.size hSf (fun i=>ns.getD i 0) (fun i v hv=>PyProof.Rows.IntsAre.int_at hi i v (by rw [Array.getElem?_toList]; exact hv)) hb (items.size - 0) 0 _ (by lia) (Nat.zero_le _)
     ⟨⟨_,Heap.get?_push_size _ rfl,rfl,rfl⟩,(hl1.at fun o e=>Heap.get?_push_of_some _ e)⟩ ?hS0 ?hR
    case hS0 =>
     exact ((M4.new (knd:=intKind prog w) s.heap rfl).congr (fun _=>rfl) rfl).of_get fun o e=>Heap.get?_push_of_some _ e
    case hR =>
     intro s' m x
     obtain ⟨h',g',d',tk',os'⟩:=s'
     have eg:g' = s.gens:=m.gens
     have ed:d' = s.drawn:=m.drawn
     have eo:os' = s.os:=m.os
     subst eg ed eo
     show wpAny _ _ _ _ _ _
     refine wpAny_pure ?_
     show wpAny _ _ (ret Value.none) _ _ _
     refine wpAny_pure ⟨rfl,h',tk',rfl,x,fun b o q e=>?_⟩
     refine m.heap b o ?_ (Heap.get?_push_of_some _ (Heap.get?_push_of_some _ e))
     simp only [List.mem_cons,List.not_mem_nil,or_false,not_or]
     refine ⟨Nat.ne_of_lt q,?_⟩
     rw [Heap.size_push]
     exact Nat.ne_of_lt (Nat.lt_succ_of_lt q)
   ·cases r₂ with
    | error e=>exact hr₂
    | ok fl₂ =>
     cases fl₂ with
     | ret r =>
      obtain ⟨rfl,h',tk,rfl,x,kp⟩:=hr₂
      repeat (any_goals (first | assumption | wp_step))
      exact h _ _ x kp
     | _=>exact hr₂.elim
  | _=>exact hr.elim
end
end L2
namespace L2
open PySem PySem.Spec PyProof.Rows
section
variable {X:Cx}
def bc5 (K:PySem.W.Frag) (P:Program) (w:World):List V → Hp → VK → Prop:=fun xs H Q=>∃ (p:Addr) (ns:List Int),xs = [.ref p] ∧ SqT K H p (ns.map V.int) ∧ ns.length < 4000 ∧ ∀ l,H l = none → Q (.ref l) (upd H l (aN3 P w l ns))
theorem aD8 (K:PySem.W.Frag) (P:Program) (w:World) (hc:X.calm = true) (h:X.K = K:=by rfl) (hP:X.prog = P:=by rfl) (hw:X.w = w:=by rfl):B0 X (.type "set") (bc5 K P w):=by
 subst h hP hw
 intro pins s σ H xs us Q I r h
 obtain ⟨p,ns,rfl,hq,hlt,q⟩:=h
 obtain ⟨u,rfl,rx⟩:=P7 r
 cases rx
 obtain ⟨its,r',pl,hz⟩:=I.tuple hq
 have hi:IntsAre its ns:=D7 r'
 have hlen:its.length = ns.length:=hi.length
 refine ar3 (I.ok.hd hc) (show s.heap.IsTuple p its.toArray from pl) (ns:=ns) (by simpa using hi) (by show its.toArray.size + 1 < 4096; rw [List.size_toArray]; lia) fun h' tk x kp=>?_
 have x':M4 (intKind X.prog X.w) h' s.heap.objs.size (fun k=>decide (k ∈ ns)) (A0 ns).length:=x.congr (fun k=>by
  rw [List.size_toArray,hlen]; exact R6 ns k) (by rw [List.size_toArray,hlen]; exact Z2 ns)
 have he:∃ o,h'.get? s.heap.objs.size = some o:=let ⟨o,_,_,_,e,_⟩:=x'; ⟨o,e⟩
 exact ⟨.ref s.heap.objs.size,_,I.laid (t':=tk) (o:=aw7 X s.heap.objs.size ns) (fun b o e=>kp b o (Heap.lt_size e) e) (Nat.le_refl _) ⟨x',he,fun h1 h2 y k=>y.of_get k⟩,rfl,q _ (I.hok.fresh (Nat.le_refl _))⟩
theorem a99 {pins:List (Addr × Obj)} {σ:St} {H:Hp} {s:Shared} {x:V} {u t:Value} (I:Inv X pins σ H s) (rx:x8 x u) (ty:TyOf X.K H x t):∃ Hh:Heap → Prop,PySem.W.KitX X.K u t Hh ∧ Hh s.heap ∧ u ≠ .builtin "__main__.__loader__#opaque":=by
 cases ty with
 | non=>cases (show u = Value.none from rx); exact ⟨_,PySem.W.kitx_none,True.intro,fun z=>nomatch z⟩
 | bl y=>cases (show u = Value.bool y from rx); exact ⟨_,PySem.W.kitx_bool,True.intro,fun z=>nomatch z⟩
 | int i=>obtain ⟨t,q⟩:=(show ∃ t,u = Value.int i t from rx); cases q; exact ⟨_,PySem.W.kitx_int,True.intro,fun z=>nomatch z⟩
 | str y=>obtain ⟨t,q⟩:=(show ∃ t,u = Value.str y t from rx); cases q; exact ⟨_,PySem.W.kitx_str,True.intro,fun z=>nomatch z⟩
 | flt y=>obtain ⟨t,q⟩:=(show ∃ t,u = Value.float y t from rx); cases q; exact ⟨_,PySem.W.kitx_float,True.intro,fun z=>nomatch z⟩
 | @lst a xs ea =>
  cases (show u = Value.ref a from rx)
  obtain ⟨_,_,n,_,h1⟩:=(show w6 X.prog X.w H s.heap a (.lst xs) from I.hok a _ ea)
  exact ⟨_,PySem.W.kitx_list,⟨_,h1,rfl⟩,fun z=>nomatch z⟩
 | @frz a ob xs ea =>
  cases (show u = Value.ref a from rx)
  obtain ⟨_,_,_,n,_,h1⟩:=(show w6 X.prog X.w H s.heap a (.frz ob (.lst xs)) from I.hok a _ ea)
  exact ⟨_,PySem.W.kitx_list,⟨_,h1,rfl⟩,fun z=>nomatch z⟩
 | @tup a xs ea =>
  cases (show u = Value.ref a from rx)
  obtain ⟨_,_,_,p⟩:=(show w6 X.prog X.w H s.heap a (.tup xs) from I.hok a _ ea)
  obtain ⟨o,h1,h2,_⟩:=p
  exact ⟨_,PySem.W.kitx_tuple,⟨o,h1,h2⟩,fun z=>nomatch z⟩
 | @dK a kvs ea =>
  cases (show u = Value.ref a from rx)
  obtain ⟨_,_,vs,_,p⟩:=(show w6 X.prog X.w H s.heap a (.dK kvs) from I.hok a _ ea)
  obtain ⟨o,es,ep,h1,h2,_⟩:=p
  exact ⟨_,PySem.W.kitx_dict,⟨o,h1,h2.1⟩,fun z=>nomatch z⟩
 | @dT a kvs ea =>
  cases (show u = Value.ref a from rx)
  obtain ⟨_,_,xs,_,o,es,ep,h1,h2,_⟩:=(show w6 X.prog X.w H s.heap a (.dT kvs) from I.hok a _ ea)
  exact ⟨_,PySem.W.kitx_dict,⟨o,h1,h2.1⟩,fun z=>nomatch z⟩
 | @ins a C dx fs ea cl ha hn htk hm =>
  cases (show u = Value.ref a from rx)
  obtain ⟨mA,O,_⟩:=Z1 I.hok ea
  obtain ⟨od,J,_⟩:=O.look
  exact ⟨_,PySem.W.kitx_own (cl.get _) cl.hd ha hn htk hm,J,fun z=>nomatch z⟩
def aW6 (K:PySem.W.Frag):List V → Hp → VK → Prop:=fun xs H Q=>∃ v p t T1 T2 b1 b2,xs = [v,.ref p] ∧ H p = some (.tup [.ty T1,.ty T2]) ∧ TyOf K H v t ∧ PySem.W.kitOne K t (.type T1) = some b1 ∧ PySem.W.kitOne K t (.type T2) = some b2 ∧ Q (.bl (b1 || b2)) H
theorem F1 (K:PySem.W.Frag) (h:X.K = K:=by rfl):B0 X (.builtin "isinstance") (aW6 K):=by
 subst h
 intro pins s σ H xs us Q I r h
 obtain ⟨v,p,t,T1,T2,b1,b2,rfl,hp,ty,e1,e2,q⟩:=h
 obtain ⟨u,u',rfl,r1,r2⟩:=am2 r
 cases r2
 obtain ⟨Hh,Z,zh,hx⟩:=a99 I r1 ty
 obtain ⟨_,its,rv,pl⟩:=(show w6 X.prog X.w H s.heap p (.tup [.ty T1,.ty T2]) from I.hok p _ hp)
 obtain ⟨w1,w2,rfl,q1,q2⟩:=am2 rv
 cases q1
 cases q2
 obtain ⟨⟨oc,od,dat,sl⟩,g1,g2,n,g3⟩:=pl
 simp only at g2 g3
 subst g2 g3
 have ka:PySem.W.kitAny X.K t [.type T1,.type T2] = some (b1 || b2):=by
  unfold PySem.W.kitAny
  rw [e1]
  cases b1 with
  | true=>rfl
  | false =>
   show PySem.W.kitAny X.K t [.type T2] = some b2
   unfold PySem.W.kitAny
   rw [e2]
   cases b2 <;> rfl
 exact PySem.W.kia_tup Z I.kIn zh g1 ka hx fun tk=>⟨.bl (b1 || b2),H,I.tok _,rfl,q⟩
def aS1:V → Bool
 | .int _ | .bl _ | .non | .ref _=>true
 | _=>false
def a05 (K:PySem.W.Frag):R2:=fun x y H Q=>∃ (a b:Addr) (xs:List V),x = .ref a ∧ y = .ref b ∧ SqL K H a (xs) ∧ SqL K H b xs ∧ xs.all aS1 = true ∧ Q (.bl false) H
theorem Z9 {A:Around} {s:Shared} {x:V} {u v:Value} (h:aS1 x = true) (ru:x8 x u) (rv:x8 x v):SeqAt.EqAt A s u v true:=by
 cases x with
 | int i =>
  obtain ⟨t,rfl⟩:=ru
  obtain ⟨t',rfl⟩:=rv
  have:=SeqAt.EqAt.int_int (A:=A) (s:=s) i t i t'
  rwa [beq_self_eq_true] at this
 | bl b=>cases ru; cases rv; exact SeqAt.EqAt.same _
 | non=>cases ru; cases rv; exact SeqAt.EqAt.same _
 | ref a=>cases ru; cases rv; exact SeqAt.EqAt.same _
 | _=>cases h
theorem aF6 (K:PySem.W.Frag) (hu:X.A.units < cLine) (h:X.K = K:=by rfl):OpR X (compareOp .NotEq) (a05 K):=by
 subst h
 intro pins s σ H x y v u Q I rx ry h
 obtain ⟨a,b,xs,rfl,rfl,ha,hb,hr,q⟩:=h
 cases rx
 cases ry
 obtain ⟨us,r1,p1,_⟩:=I.list ha
 obtain ⟨vs,r2,p2,_⟩:=I.list hb
 have l1:=r1.length
 have l2:=r2.length
 refine SeqAt.RcNeAt.lists (e:=fun j=>true) p1.isList p2.isList (by simp only [List.size_toArray]; lia) (by lia) (fun j h1 h2=>?_) X.prog X.w X.xe _ ?_
 ·rw [List.size_toArray] at h1 h2
  have e1:xs[j]? = some (xs[j]'(by lia)):=List.getElem?_eq_getElem _
  obtain ⟨u,w1,s1⟩:=r1.get e1
  obtain ⟨v,w2,s2⟩:=r2.get e1
  have z1:us.toArray[j] = u:=by rw [List.getElem?_eq_getElem h1] at w1; simpa using w1
  have z2:vs.toArray[j] = v:=by rw [List.getElem?_eq_getElem h2] at w2; simpa using w2
  rw [z1,z2]
  exact Z9 (List.all_eq_true.mp hr _ (List.getElem_mem _)) s1 s2
 ·have:((List.range us.toArray.size).all fun _=>true) = true:=by simp
  rw [this]
  exact ⟨.bl false,H,I,rfl,q⟩
end
end L2
namespace L2
open PySem PySem.Spec PyProof.Rows PySem.W
section
variable {X:Cx} {C:Addr} {x:Str} {p pos:Pos} {e:Expr} {ta tb:TE}
def a87 (C:Addr):TE:=fun _ H Q=>∀ x dx,H x = none → H dx = none → dx ≠ x → Q (.ref x) (upd (upd H dx (.own x)) x (.ins C dx []))
theorem aS4 (M:Made X.K X.mg x C) (hi:PySem.W.findIn X.K (.ref C) "__init__" = some (some (.builtin "object.__init__"))) (hg:Gl X x) (hdb:(x == ("__debug__":Str)) = false:=by decide) :
  PE X (.Call (.Name x p) [] [] pos) (a87 C):=by
 intro pins s σ H Q I h
 refine wpAny_Call_Name_kw (P5 I hg M.mg ?_ hdb)
 refine PySem.W.callWith_K0 I.kIn M.kp ?_
 have hq:=h (s.heap.objs.size + 1) s.heap.objs.size (I.hok.fresh (Nat.le_succ _)) (I.hok.fresh (Nat.le_refl _)) (Nat.ne_of_lt (Nat.lt_succ_self _))
 have I2:=Inv.made (C:=C) I
 have Y:=makes_of (M:=model X.prog X.w) I.kIn M.makes
 have lf:=looks_findIn (M:=model X.prog X.w) I.kIn hi
 refine wpAny_call ?_
 have k:∀ b o,s.heap.get? b = some o → ((s.heap.push emptyDict).push (instObj C s.heap.objs.size)).get? b = some o:=fun b o e=>Heap.get?_push_of_some _ (Heap.get?_push_of_some _ e)
 have hx:((s.heap.push emptyDict).push (instObj C s.heap.objs.size)).get? (s.heap.objs.size + 1) = some (instObj C s.heap.objs.size):=by heap_get
 have t1:Looks (model X.prog X.w) ((s.heap.push emptyDict).push (instObj C s.heap.objs.size)) (typeOf (.ref (s.heap.objs.size + 1))) (.ref C):=(Looks.ld hx).andThen .now
 have t2:Looks (model X.prog X.w) ((s.heap.push emptyDict).push (instObj C s.heap.objs.size)) (isInstance (.ref (s.heap.objs.size + 1)) (.type "object")) true:=t1.andThen (Y.top.keeps k)
 obtain ⟨hh,g,d,t,os⟩:=s
 refine make_core Y lf (fun self=>Looks.of_pure (oi_bind self)) (.inr ⟨rfl,rfl⟩) ?_
 refine codeAny_call_builtin oi_plain entry_oi (@check_slot (model X.prog X.w) _ _ _ "object.__init__" "object" "__init__" (.ref (hh.objs.size + 1)) [] [] _ oi_kind oi_split t2 (oi_args (.ref (hh.objs.size + 1))) ?_)
 show wpAny _ _ (Builtin.«object.__init__» ⟨[Value.ref (hh.objs.size + 1)],[]⟩) _ _ _
 rw [oi_run]
 exact wpAny_pure (And.intro rfl ⟨V.ref (hh.objs.size + 1),_,I2,rfl,hq⟩)
def bc8 (ta tb:TE):TE:=fun σ H Q=>ta σ H Q ∨ tb σ H Q
theorem aL4 (ha:PE X e ta) (hb:PE X e tb):PE X e (bc8 ta tb):=fun pins s σ H Q I h=>h.elim (ha pins s σ H Q I) (hb pins s σ H Q I)
end
section
variable {X:Cx} {C:Addr} {x:Str} {p pos:Pos} {e:Expr} {es:List Expr} {t:TA} {k n:Nat} {ps:List Str} {dvs:List V} {kb:FuncData → Prop} {sp:Sp}
theorem aY4 (Z:CalleeM X.prog X.w X.K X.mg X.base k C "__init__" ps dvs kb sp) (M:Made X.K X.mg x C) (hr:Room n X.A) (hg:Gl X x) (ha:PA X (e :: es) t) (hk:k + 1 ≤ n:=by decide) (hdb:(x == ("__debug__":Str)) = false:=by decide)
  (he:starEach (e :: es) X.env = (false,eval e X.env) :: starEach es X.env:=by rfl) (hpl:(backTo pos (starEach es X.env)).any (·.1) = false:=by rfl) :
  PE X (.Call (.Name x p) (e :: es) [] pos) (a70 C sp [] E0 t):=by
 obtain ⟨f,fd,F,mt,hkb,b⟩:=Z.ex
 obtain ⟨ds,hv,hb⟩:=b dvs.length (Nat.le_refl _)
 rw [List.drop_length] at hv
 cases hv
 exact aZ7 ⟨M.makes,mt.at_,mt.fn,M.kp⟩ F (hr.mono hk) hg M.mg hb .nil aK1 ha hdb he hpl
end
end L2
namespace L2
open PySem PySem.Spec PyProof.Rows
section
variable {prog:Program} {w:World} {A:Around} {E:Value → Shared → Prop} {s:Shared}
theorem ay3 {it:Addr} {vs:List Value} {Q:List Value → Shared → Prop} {o:Obj} {n:Nat} (ho:s.heap.get? it = some o) (hc:o.cls = .type "tuple") (hd:o.data = .seq vs.toArray n)
  (h:Q vs { s with heap:=(s.heap.push (seqObj "list" #[] 0)).update s.heap.objs.size (Obj.mapSeq (· ++ vs.toArray)) }) (hsz:vs.length ≤ sizeLine):wpAny (model prog w) A (collect (.ref it)) Q E s:=by
 unfold collect
 refine wpAny_bind (wpAny_runValue (codeAny_builtin F.entry_proto_collect ?_))
 rw [Around.under_plainId F.plain_proto_collect _]
 show wpAny _ A.in1 (newList [] >>= fun l=>again (.builtin "list.__iadd__" ⟨[l,.ref it],[]⟩)) _ _ s
 refine wpAny_bind (wpAny_newObj_type ?_)
 refine wpAny_pure ⟨plainId_quiet F.plain_list_iadd _,codeAny_builtin F.entry_list_iadd ?_⟩
 rw [Around.under_plainId F.plain_list_iadd _]
 show wpAny _ A.in1 (Builtin.List.listExtendWith (.ref s.heap.objs.size) (.ref it) (.ref s.heap.objs.size)) _ _ _
 have hS:(s.heap.push (seqObj "list" #[] 0)).get? s.heap.objs.size = some (seqObj "list" #[] 0):=Heap.get?_push_size _ rfl
 have fin':wpAny (model prog w) A (match Value.ref s.heap.objs.size with
   | Value.ref a=>do
    match (← load a).data with
     | Data.seq xs _=>pure xs.toList
     | _=>unsupported "internal:collect"
   | _=>unsupported "internal:collect") Q E { s with heap:=(s.heap.push (seqObj "list" #[] 0)).update s.heap.objs.size (Obj.mapSeq (· ++ vs.toArray)) }:=by
  show wpAny _ A (load s.heap.objs.size >>= _) _ _ _
  refine wpAny_bind (wpAny_load (get?_update_seq hS _) ?_)
  show wpAny _ _ (pure ((#[]:Array Value) ++ vs.toArray).toList) Q E _
  rw [show ((#[]:Array Value) ++ vs.toArray).toList = vs by simp]
  exact wpAny_pure h
 refine wpAny_mono (wpAny_extend_seq (hsz:=by simpa using hsz) (A:=A) (R:=fun r s'=>r = .ok (.ret (.ref s.heap.objs.size)) ∧ s' = { s with heap:=(s.heap.push (seqObj "list" #[] 0)).update s.heap.objs.size (Obj.mapSeq (· ++ vs.toArray)) })
  (s:={ s with heap:=s.heap.push (seqObj "list" #[] 0) }) _ it _ 0 (.inr rfl) hS (Heap.get?_push_of_some _ ho) hc hd ⟨rfl,rfl⟩) (fun fin s' h=>?_) (fun e s' h=>?_)
 ·cases fin with
  | done f =>
   obtain ⟨e,rfl⟩:=h
   cases e
   exact fin'
  | again c'=>exact ⟨h.1,codeAny_mono h.2 fun r s'' hr=>by obtain ⟨rfl,rfl⟩:=hr; exact fin'⟩
 ·exact absurd h.1 (by simp)
theorem ax7 {l:Addr} {vs:List Value} {ns:List Int} {Q:Value → Shared → Prop} {o:Obj} {n:Nat} (ho:s.heap.get? l = some o) (hc:o.cls = .type "tuple") (hd:o.data = .seq vs.toArray n) (hI:IntsAre vs ns) (h64:vs.length < 64)
  (h:∀ (out:Array Value) (ns':List Int),IntsAre out.toList ns' → ns'.Perm ns → ns'.Pairwise (· ≤ ·) → Q (.ref (s.heap.objs.size + 1)) { s with heap:=sortedAll s.heap vs out }) :
  wpAny (model prog w) A (call (.builtin "sorted") [.ref l]) Q E s:=by
 refine Calls.call_function_entry kind_sorted plain_sorted entry_sorted (args_sorted1 _) ?_
 unfold Builtin.«sorted»
 refine wpAny_bind (m:=checkCount "sorted" 1 1 _) (wpAny_pure ?_)
 refine wpAny_bind (ay3 ho hc hd ?_ (Nat.le_trans (Nat.le_of_lt h64) (by decide)))
 refine wpAny_bind (wpAny_newList ?_ (Nat.le_trans (Nat.le_of_lt h64) (by decide)))
 have hsz:((s.heap.push (seqObj "list" #[] 0)).update s.heap.objs.size (Obj.mapSeq (· ++ vs.toArray))).objs.size = s.heap.objs.size + 1:=by
  rw [Heap.size_update,size_push']
 have hoL:(((s.heap.push (seqObj "list" #[] 0)).update s.heap.objs.size (Obj.mapSeq (· ++ vs.toArray))).push (seqObj "list" vs.toArray 0)).get? (s.heap.objs.size + 1) = some (seqObj "list" vs.toArray 0):=by
  rw [← hsz]; exact Heap.get?_push_size _ rfl
 show wpAny _ _ _ _ _ { s with heap:=((s.heap.push (seqObj "list" #[] 0)).update s.heap.objs.size (Obj.mapSeq (· ++ vs.toArray))).push (seqObj "list" vs.toArray 0) }
 rw [hsz]
 refine wpAny_bind (wpAny_holding (wpAny_call_entry slot_list_sort ⟨_,hoL,rfl⟩ entry_list_sort (list_sort_tree hoL hI h64 fun out ns' a1 a2 a3=>⟨_,rfl,?_⟩) (args_list_sort _)))
 exact wpAny_pure ⟨_,rfl,h out ns' a1 a2 a3⟩
end
section
variable {X:Cx}
def aR9 (K:PySem.W.Frag):List V → Hp → VK → Prop:=fun xs H Q=>∃ (p:Addr) (ns:List Int),xs = [.ref p] ∧ (SqT K H p (ns.map V.int) ∨ SqL K H p (ns.map V.int)) ∧ ns.length < 64 ∧ ∀ ns':List Int,ns'.Perm ns → ns'.Pairwise (· ≤ ·) → ∀ l,H l = none → Q (.ref l) (upd H l (.lst (ns'.map V.int)))
theorem N2 (K:PySem.W.Frag) (h:X.K = K:=by rfl):B0 X (.builtin "sorted") (aR9 K):=by
 subst h
 intro pins s σ H xs us Q I r h
 obtain ⟨p,ns,rfl,hq,h64,q⟩:=h
 obtain ⟨u,rfl,rx⟩:=P7 r
 cases rx
 rcases hq with hq | hq
 ·obtain ⟨its,r',pl,hz⟩:=I.tuple hq
  have hi:IntsAre its ns:=D7 r'
  have hlen:its.length = ns.length:=hi.length
  obtain ⟨ot,g1,g2,n,g3⟩:=pl
  refine ax7 g1 g2 g3 hi (by lia) fun out ns' a1 a2 a3=>?_
  obtain ⟨e,he⟩:=sortedAll_at s.heap its out
  have hz':(ns'.map V.int).length ≤ sizeLine:=by
   rw [List.length_map,a2.length_eq]
   rw [List.length_map] at hz
   exact hz
  exact ⟨.ref (s.heap.objs.size + 1),_,I.laid (t':=s.toks) (o:=.lst (ns'.map V.int)) (fun b o e=>sortedAll_old e) (Nat.le_succ _) ⟨hz',out.toList,e,Q3 a1,by simpa [seqObj] using he⟩,rfl,q ns' a2 a3 _ (I.hok.fresh (Nat.le_succ _))⟩
 ·exact (Z0 X.K) pins s σ H _ _ Q I r ⟨p,ns,rfl,hq,h64,q⟩
end
end L2
namespace L2
open PySem PySem.Spec PyProof.Rows
def aQ9:V → Bool
 | .int _ | .bl _ | .non | .ref _ | .str _=>true
 | _=>false
theorem aP9 {A:Around} {s:Shared} {x:V} {u v:Value} (h:aQ9 x = true) (ru:x8 x u) (rv:x8 x v):SeqAt.EqAt A s u v true:=by
 cases x with
 | str z =>
  obtain ⟨t,rfl⟩:=ru
  obtain ⟨t',rfl⟩:=rv
  have:=SeqAt.EqAt.str_str (A:=A) (s:=s) z t z t'
  rwa [beq_self_eq_true] at this
 | int i=>exact Z9 rfl ru rv
 | bl b=>exact Z9 rfl ru rv
 | non=>exact Z9 rfl ru rv
 | ref a=>exact Z9 rfl ru rv
 | _=>cases h
inductive OwnNe (K:PySem.W.Frag) (H:Hp):V → V → Prop where
 | non:OwnNe K H .non .non
 | str (z:Str):OwnNe K H (.str z) (.str z)
 | tup {a:Addr} {xs:List V} (e:SqT K H a xs):OwnNe K H (.ref a) (.ref a)
 | lst {a b:Addr} {xs:List V} (ha:SqL K H a xs) (hb:SqL K H b xs) (w:xs.all aQ9 = true):OwnNe K H (.ref a) (.ref b)
def a_2 (K:PySem.W.Frag):R2:=fun x y H Q=>OwnNe K H x y ∧ Q (.bl false) H
section
variable {X:Cx}
theorem aO3 (K:PySem.W.Frag) (hu:X.A.units < cLine) (h:X.K = K:=by rfl):OpR X (compareOp .NotEq) (a_2 K):=by
 subst h
 intro pins s σ H x y v u Q I rx ry h
 obtain ⟨o,q⟩:=h
 cases o with
 | non=>exact al9 pins s σ H _ _ v u Q I rx ry ⟨rfl,q⟩
 | str z=>exact al9 pins s σ H _ _ v u Q I rx ry ⟨rfl,by rw [decide_eq_true rfl]; exact q⟩
 | tup e =>
  cases rx
  cases ry
  obtain ⟨its,r1,p1,_⟩:=I.tuple e
  refine SeqAt.RcNeAt.tuples (A:=X.A) (e:=fun j=>true) p1 p1 hu (fun j h1 h2=>SeqAt.EqAt.same _) X.prog X.w X.xe _ ?_
  refine ⟨.bl false,H,I,?_,q⟩
  show _ = Value.bool false
  simp
 | lst ha hb w =>
  rename_i a b xs
  cases rx
  cases ry
  obtain ⟨us,r1,p1,_⟩:=I.list ha
  obtain ⟨vs,r2,p2,_⟩:=I.list hb
  have l1:=r1.length
  have l2:=r2.length
  refine SeqAt.RcNeAt.lists (e:=fun j=>true) p1.isList p2.isList (by simp only [List.size_toArray]; lia) (by lia) (fun j h1 h2=>?_) X.prog X.w X.xe _ ?_
  ·rw [List.size_toArray] at h1 h2
   have e1:xs[j]? = some (xs[j]'(by lia)):=List.getElem?_eq_getElem _
   obtain ⟨u,w1,s1⟩:=r1.get e1
   obtain ⟨v,w2,s2⟩:=r2.get e1
   have z1:us.toArray[j] = u:=by rw [List.getElem?_eq_getElem h1] at w1; simpa using w1
   have z2:vs.toArray[j] = v:=by rw [List.getElem?_eq_getElem h2] at w2; simpa using w2
   rw [z1,z2]
   exact aP9 (List.all_eq_true.mp w _ (List.getElem_mem _)) s1 s2
  ·have:((List.range us.toArray.size).all fun _=>true) = true:=by simp
   rw [this]
   exact ⟨.bl false,H,I,rfl,q⟩
end
def ba7 (v:V) (o:Option (List V)):Prop:=(∀ xs,o = some xs → xs.all aQ9 = true) ∧ (o = none → v = .non ∨ ∃ z,v = .str z)
theorem M0 (v:V) (es:List Int):ba7 v (some (es.map V.int)):=⟨fun xs z=>by
 cases z
 rw [List.all_eq_true]
 intro x hx
 obtain ⟨i,_,rfl⟩:=List.mem_map.mp hx
 rfl,fun z=>nomatch z⟩
end L2
def PySem.W.Fast.tw13090385751701411855:Nat:=0
def PySem.W.Fast.tw18328862581355229898:Nat:=0
def PySem.W.Fast.tw13165091328194490328:Nat:=0
def PySem.W.Fast.tw3973953130093107161:Nat:=0
def PySem.W.Fast.tw8788623758015571616:Nat:=0
def PySem.W.Fast.tw16162885551124153197:Nat:=0
def PySem.W.Fast.tw10621996271139034069:Nat:=0
def PySem.W.Fast.tw13509858137768346085:Nat:=0
def PySem.W.Fast.tw16885280247455965065:Nat:=0
def PySem.W.Fast.tw18296536168277709601:Nat:=0
def PySem.W.Fast.tw6749986685552254850:Nat:=0
def PySem.W.Fast.tw18140763705314982741:Nat:=0
def PySem.W.Fast.tw15427514461756905230:Nat:=0
def PySem.W.Fast.tw305631105111453411:Nat:=0
def PySem.W.Fast.tw4900742012225366473:Nat:=0
def PySem.W.Fast.tw12177342327926195728:Nat:=0
def PySem.W.Fast.tw12039269925605019928:Nat:=0
def PySem.W.Fast.tw14501776026957148017:Nat:=0
def PySem.W.Fast.tw11077366673665493006:Nat:=0
def PySem.W.Fast.tw7827520409691107575:Nat:=0
def PySem.W.Fast.tw6370453914898700582:Nat:=0
def PySem.W.Fast.tw13396288413269369292:Nat:=0
def PySem.W.Fast.tw12312074449509047667:Nat:=0
def PySem.W.Fast.tw11636885380182055403:Nat:=0
def PySem.W.Fast.tw17880452638417162986:Nat:=0
def PySem.W.Fast.tw15539634220144841503:Nat:=0
def PySem.W.Fast.tw14776884106140356771:Nat:=0
def PySem.W.Fast.tw17794825615485032984:Nat:=0
def PySem.W.Fast.tw18027379735321975124:Nat:=0
def PySem.W.Fast.tw8552598241433585808:Nat:=0
def PySem.W.Fast.tw12026640820118803995:Nat:=0
def PySem.W.Fast.tw5211050088524940551:Nat:=0
def PySem.W.Fast.tw11150559250699925313:Nat:=0
def PySem.W.Fast.tw3580201275952937222:Nat:=0
def PySem.W.Fast.tw7128404259614690568:Nat:=0
def PySem.W.Fast.tw2426351068386505413:Nat:=0
def PySem.W.Fast.tw5901530838412276539:Nat:=0
def PySem.W.Fast.tw9634986622972474724:Nat:=0
def PySem.W.Fast.tw17818367872542023465:Nat:=0
def PySem.W.Fast.tw5097211381887927707:Nat:=0
def PySem.W.Fast.tw5662467714570964852:Nat:=0
def PySem.W.Fast.tw18039270594290259254:Nat:=0
def PySem.W.Fast.tw7918253464959038789:Nat:=0
def PySem.W.Fast.tw17431888369572243281:Nat:=0
def PySem.W.Fast.tw9173807437536065452:Nat:=0
def PySem.W.Fast.tw10383182827780145085:Nat:=0
def PySem.W.Fast.tw12042917211514161550:Nat:=0
def PySem.W.Fast.tw16075802226471353718:Nat:=0
def PySem.W.Fast.tw7266495340471154757:Nat:=0
def PySem.W.Fast.tw7888538047906530104:Nat:=0
def PySem.W.Fast.tw11135367093211851366:Nat:=0
def PySem.W.Fast.tw2810062667613268683:Nat:=0
def PySem.W.Fast.tw8775449036770966384:Nat:=0
def PySem.W.Fast.tw3513475384572885060:Nat:=0
def PySem.W.Fast.tw14296232231003504477:Nat:=0
def PySem.W.Fast.tw10394574005977612523:Nat:=0
def PySem.W.Fast.tw12804365039770860034:Nat:=0
def PySem.W.Fast.tw2024824130107355092:Nat:=0
def PySem.W.Fast.tw1080712342667525034:Nat:=0
def PySem.W.Fast.tw5661676800339405998:Nat:=0
def PySem.W.Fast.tw10180647896110784262:Nat:=0
def PySem.W.Fast.tw17266398670329336017:Nat:=0
def PySem.W.Fast.tw10820851460495891582:Nat:=0
def PySem.W.Fast.tw5212179875924940096:Nat:=0
def PySem.W.Fast.tw6298581970394811422:Nat:=0
def PySem.W.Fast.tw16107293155881658225:Nat:=0
def PySem.W.Fast.tw17013738846170416639:Nat:=0
def PySem.W.Fast.tw6644492370344154198:Nat:=0
def PySem.W.Fast.tw14434373882561710067:Nat:=0
def PySem.W.Fast.tw12425456943025532167:Nat:=0
def PySem.W.Fast.tw8713654815585008818:Nat:=0
def PySem.W.Fast.tw14254715010265913905:Nat:=0
def PySem.W.Fast.tw11749721118002708288:Nat:=0
def PySem.W.Fast.tw2374663093301768420:Nat:=0
def PySem.W.Fast.tw7766667727016601688:Nat:=0
def PySem.W.Fast.tw8798005454954814779:Nat:=0
def PySem.W.Fast.tw13658917838970722360:Nat:=0
def PySem.W.Fast.tw15808523333118529837:Nat:=0
def PySem.W.Fast.tw12742000636918573453:Nat:=0
def PySem.W.Fast.tw7726113435395264641:Nat:=0
def PySem.W.Fast.tw2305391794344183873:Nat:=0
def PySem.W.Fast.tw15097786636491201020:Nat:=0
def PySem.W.Fast.tw14378966100702149604:Nat:=0
def PySem.W.Fast.tw13193023781112828508:Nat:=0
def PySem.W.Fast.tw3432743905278905359:Nat:=0
def PySem.W.Fast.tw18371653980257037355:Nat:=0
def PySem.W.Fast.tw606926395060876496:Nat:=0
def PySem.W.Fast.tw8975121569367452907:Nat:=0
def PySem.W.Fast.tw9972232411003615506:Nat:=0
def PySem.W.Fast.tw6530217641594767296:Nat:=0
def PySem.W.Fast.tw6822470792033720621:Nat:=0
def PySem.W.Fast.tw7036763456728160914:Nat:=0
def PySem.W.Fast.tw3512242647626995277:Nat:=0
def PySem.W.Fast.tw6045318013006212661:Nat:=0
def PySem.W.Fast.tw5449817000589058372:Nat:=0
def PySem.W.Fast.tw17640890322390996055:Nat:=0
def PySem.W.Fast.tw12659793827713556375:Nat:=0
def PySem.W.Fast.tw17778029877997165862:Nat:=0
def PySem.W.Fast.tw239731316226570717:Nat:=0
def PySem.W.Fast.tw1862879247414797679:Nat:=0
def PySem.W.Fast.tw15948683829373019939:Nat:=0
def PySem.W.Fast.tw18033107995492978781:Nat:=0
def PySem.W.Fast.tw16905974179737031493:Nat:=0
def PySem.W.Fast.tw2125714693710715165:Nat:=0
def PySem.W.Fast.tw5902817193393196745:Nat:=0
def PySem.W.Fast.tw1097614214840687171:Nat:=0
def PySem.W.Fast.tw8792106638116808425:Nat:=0
def PySem.W.Fast.tw2244369122915409039:Nat:=0
def PySem.W.Fast.tw15433544057917491134:Nat:=0
def PySem.W.Fast.tw669781047958324139:Nat:=0
def PySem.W.Fast.tw10622872768000381246:Nat:=0
def PySem.W.Fast.tw12467000352008300832:Nat:=0
def PySem.W.Fast.tw1136859342920333858:Nat:=0
def PySem.W.Fast.tw10678730310460743619:Nat:=0
def PySem.W.Fast.tw16929031804342743924:Nat:=0
def PySem.W.Fast.tw9908922304661291460:Nat:=0
def PySem.W.Fast.tw7030564773447818933:Nat:=0
def PySem.W.Fast.tw15379717901084467351:Nat:=0
def PySem.W.Fast.tw6104104994225040204:Nat:=0
def PySem.W.Fast.tw4971146236798315204:Nat:=0
def PySem.W.Fast.tw4298083939368090025:Nat:=0
def PySem.W.Fast.tw12587584847576056184:Nat:=0
def PySem.W.Fast.tw3895019182306393269:Nat:=0
def PySem.W.Fast.tw9813070906048245781:Nat:=0
def PySem.W.Fast.tw16157142750481152969:Nat:=0
def PySem.W.Fast.tw4989465437377544068:Nat:=0
def PySem.W.Fast.tw6518533079486291232:Nat:=0
def PySem.W.Fast.tw1083006114783939679:Nat:=0
def PySem.W.Fast.tw17385055680761451746:Nat:=0
def PySem.W.Fast.tw3700031946510830846:Nat:=0
def PySem.W.Fast.tw17892465577613872810:Nat:=0
def PySem.W.Fast.tw13477364659419371802:Nat:=0
def PySem.W.Fast.tw8922478398606894986:Nat:=0
def PySem.W.Fast.tw16968023026818490537:Nat:=0
def PySem.W.Fast.tw10246798481614732311:Nat:=0
def PySem.W.Fast.tw143394361011714916:Nat:=0
def PySem.W.Fast.tw9740272868627936158:Nat:=0
def PySem.W.Fast.tw18344055733973633287:Nat:=0
def PySem.W.Fast.tw11083000091751966844:Nat:=0
def PySem.W.Fast.tw12853407235012371279:Nat:=0
def PySem.W.Fast.tw6451672333780432018:Nat:=0
def PySem.W.Fast.tw9050250173815715740:Nat:=0
def PySem.W.Fast.tw15018726383586498462:Nat:=0
def PySem.W.Fast.tw2110707027995098789:Nat:=0
def PySem.W.Fast.tw2031537003300953591:Nat:=0
def PySem.W.Fast.tw11358551145524523126:Nat:=0
def PySem.W.Fast.tw12490924906787604833:Nat:=0
def PySem.W.Fast.tw10794391450295897900:Nat:=0
def PySem.W.Fast.tw18225320890553040797:Nat:=0
def PySem.W.Fast.tw14631500236369958394:Nat:=0
def PySem.W.Fast.tw1288193449254838867:Nat:=0
def PySem.W.Fast.tw5502979194776558196:Nat:=0
def PySem.W.Fast.tw5099317353175817866:Nat:=0
def PySem.W.Fast.tw14775724321555556816:Nat:=0
def PySem.W.Fast.tw10064682758590988296:Nat:=0
def PySem.W.Fast.tw8987269429377224592:Nat:=0
def PySem.W.Fast.tw18293529176203575716:Nat:=0
def PySem.W.Fast.tw17032761937883549745:Nat:=0
def PySem.W.Fast.tw13285437388598500438:Nat:=0
def PySem.W.Fast.tw5357430671557887966:Nat:=0
def PySem.W.Fast.tw325506391445841309:Nat:=0
def PySem.W.Fast.tw3230480773509847735:Nat:=0
def PySem.W.Fast.tw17091214637837424800:Nat:=0
def PySem.W.Fast.tw5512665622378296986:Nat:=0
def PySem.W.Fast.tw8723519541928284752:Nat:=0
def PySem.W.Fast.tw1988476724597398044:Nat:=0
def PySem.W.Fast.tw16778458527489152348:Nat:=0
def PySem.W.Fast.tw13674104589256875486:Nat:=0
def PySem.W.Fast.tw14261183047121148227:Nat:=0
def PySem.W.Fast.tw11316651627160244355:Nat:=0
def PySem.W.Fast.tw8638752091623703684:Nat:=0
def PySem.W.Fast.tw16582933831176731449:Nat:=0
def PySem.W.Fast.tw17123558645295665198:Nat:=0
def PySem.W.Fast.tw9598893782315268015:Nat:=0
def PySem.W.Fast.tw12494238776208770887:Nat:=0
def PySem.W.Fast.tw6943282259963178051:Nat:=0
def PySem.W.Fast.tw5890081968166615550:Nat:=0
def PySem.W.Fast.tw7962722704287641501:Nat:=0
def PySem.W.Fast.tw9065240390467469745:Nat:=0
def PySem.W.Fast.tw17332788786422808769:Nat:=0
namespace My
open PySem L2 PyProof.Rows
seal PE PT PW PA PS PSs PG PI aL6 PO OpR UnR B0 bd8 IxR SlR MtR MtM a98 PC
def top (i:Nat):Stmt:=PySem.Challenge.pw_crossracks_k23_what_is_refused.main.body.getD i (.Pass ⟨0,0,0,0⟩)
structure Txt (K:PySem.W.Frag) (mg:Str → Option Value):Prop where
 m_len:mg "len" = none
 m_isinstance:mg "isinstance" = none
 m_int:mg "int" = none
 m_bool:mg "bool" = none
 m_tuple:mg "tuple" = none
 m_list:mg "list" = none
 m_set:mg "set" = none
 m_sorted:mg "sorted" = none
 m_divmod:mg "divmod" = none
 m_range:mg "range" = none
 m_abs:mg "abs" = none
 m_min:mg "min" = none
 m_any:mg "any" = none
 m_all:mg "all" = none
 m_str:mg "str" = none
 m_ValueError:mg "ValueError" = none
structure TxtC (K:PySem.W.Frag) (mg:Str → Option Value) (C_Rule:Addr) (C_Round:Addr) (C_HallError:Addr) (C_NoHall:Addr) (C_NoCalls:Addr) (C_NoLine:Addr) (C_NoRule:Addr) (C_Idle:Addr) (C_Busy:Addr) (C_Engaged:Addr) (C_NoMove:Addr):Prop where
 mg_Rule:mg "Rule" = some (.ref C_Rule)
 M_Rule:Made K mg "Rule" C_Rule
 cl_Rule:Cls K C_Rule
 p_Rule:PySem.W.findIn K (.ref C_Rule) "__init__" = some (some (.builtin "object.__init__"))
 ty_Rule:∀ (H:Hp) (a dx:Addr) (fs:List (Str × V)),H a = some (.ins C_Rule dx fs) → TyOf K H (.ref a) (.ref C_Rule)
 mg_Round:mg "Round" = some (.ref C_Round)
 M_Round:Made K mg "Round" C_Round
 cl_Round:Cls K C_Round
 n_Round_start:W7 K C_Round "start"
 ty_Round:∀ (H:Hp) (a dx:Addr) (fs:List (Str × V)),H a = some (.ins C_Round dx fs) → TyOf K H (.ref a) (.ref C_Round)
 mg_HallError:mg "HallError" = some (.ref C_HallError)
 mg_NoHall:mg "NoHall" = some (.ref C_NoHall)
 mg_NoCalls:mg "NoCalls" = some (.ref C_NoCalls)
 mg_NoLine:mg "NoLine" = some (.ref C_NoLine)
 mg_NoRule:mg "NoRule" = some (.ref C_NoRule)
 mg_Idle:mg "Idle" = some (.ref C_Idle)
 mg_Busy:mg "Busy" = some (.ref C_Busy)
 mg_Engaged:mg "Engaged" = some (.ref C_Engaged)
 mg_NoMove:mg "NoMove" = some (.ref C_NoMove)
 kit_Round_Rule:PySem.W.kitOne K (.ref C_Round) (.ref C_Rule) = some true
 kit_Round_Round:PySem.W.kitOne K (.ref C_Round) (.ref C_Round) = some true
 e_NoLine:ExcC K mg "NoLine" C_NoLine
 x_NoLine:ExcX K C_NoLine
 kv_NoLine:PySem.W.kitOne K (.ref C_NoLine) (.type "ValueError") = some true
 kh_NoLine:PySem.W.exmOne K (.ref C_NoLine) (.ref C_HallError) = some true
 kx_NoLine_HallError:PySem.W.kitOne K (.ref C_NoLine) (.ref C_HallError) = some true
 kx_NoLine_NoHall:PySem.W.kitOne K (.ref C_NoLine) (.ref C_NoHall) = some false
 kx_NoLine_NoCalls:PySem.W.kitOne K (.ref C_NoLine) (.ref C_NoCalls) = some false
 kx_NoLine_NoLine:PySem.W.kitOne K (.ref C_NoLine) (.ref C_NoLine) = some true
 kx_NoLine_NoRule:PySem.W.kitOne K (.ref C_NoLine) (.ref C_NoRule) = some false
 kx_NoLine_Idle:PySem.W.kitOne K (.ref C_NoLine) (.ref C_Idle) = some false
 kx_NoLine_Busy:PySem.W.kitOne K (.ref C_NoLine) (.ref C_Busy) = some false
 kx_NoLine_Engaged:PySem.W.kitOne K (.ref C_NoLine) (.ref C_Engaged) = some false
 kx_NoLine_NoMove:PySem.W.kitOne K (.ref C_NoLine) (.ref C_NoMove) = some false
 i_Busy:∃ fI,ExcI K mg "Busy" C_Busy fI
 n_Busy:ExcN K C_Busy
 x_Busy:ExcX K C_Busy
 kv_Busy:PySem.W.kitOne K (.ref C_Busy) (.type "ValueError") = some true
 kh_Busy:PySem.W.exmOne K (.ref C_Busy) (.ref C_HallError) = some true
 kx_Busy_HallError:PySem.W.kitOne K (.ref C_Busy) (.ref C_HallError) = some true
 kx_Busy_NoHall:PySem.W.kitOne K (.ref C_Busy) (.ref C_NoHall) = some false
 kx_Busy_NoCalls:PySem.W.kitOne K (.ref C_Busy) (.ref C_NoCalls) = some false
 kx_Busy_NoLine:PySem.W.kitOne K (.ref C_Busy) (.ref C_NoLine) = some false
 kx_Busy_NoRule:PySem.W.kitOne K (.ref C_Busy) (.ref C_NoRule) = some false
 kx_Busy_Idle:PySem.W.kitOne K (.ref C_Busy) (.ref C_Idle) = some false
 kx_Busy_Busy:PySem.W.kitOne K (.ref C_Busy) (.ref C_Busy) = some true
 kx_Busy_Engaged:PySem.W.kitOne K (.ref C_Busy) (.ref C_Engaged) = some false
 kx_Busy_NoMove:PySem.W.kitOne K (.ref C_Busy) (.ref C_NoMove) = some false
 f_Busy_who:PySem.W.findIn K (.ref C_Busy) "who" = some none
 i_Engaged:∃ fI,ExcI K mg "Engaged" C_Engaged fI
 n_Engaged:ExcN K C_Engaged
 x_Engaged:ExcX K C_Engaged
 kv_Engaged:PySem.W.kitOne K (.ref C_Engaged) (.type "ValueError") = some true
 kh_Engaged:PySem.W.exmOne K (.ref C_Engaged) (.ref C_HallError) = some true
 kx_Engaged_HallError:PySem.W.kitOne K (.ref C_Engaged) (.ref C_HallError) = some true
 kx_Engaged_NoHall:PySem.W.kitOne K (.ref C_Engaged) (.ref C_NoHall) = some false
 kx_Engaged_NoCalls:PySem.W.kitOne K (.ref C_Engaged) (.ref C_NoCalls) = some false
 kx_Engaged_NoLine:PySem.W.kitOne K (.ref C_Engaged) (.ref C_NoLine) = some false
 kx_Engaged_NoRule:PySem.W.kitOne K (.ref C_Engaged) (.ref C_NoRule) = some false
 kx_Engaged_Idle:PySem.W.kitOne K (.ref C_Engaged) (.ref C_Idle) = some false
 kx_Engaged_Busy:PySem.W.kitOne K (.ref C_Engaged) (.ref C_Busy) = some false
 kx_Engaged_Engaged:PySem.W.kitOne K (.ref C_Engaged) (.ref C_Engaged) = some true
 kx_Engaged_NoMove:PySem.W.kitOne K (.ref C_Engaged) (.ref C_NoMove) = some false
 f_Engaged_holds:PySem.W.findIn K (.ref C_Engaged) "holds" = some none
 f_Engaged_least:PySem.W.findIn K (.ref C_Engaged) "least" = some none
def cell (ns:List Int) (k:Nat):Int:=ns.getD k 0
theorem aE2 {ns:List Int} {k:Nat} (h:k < ns.length):atI (ns.map V.int) (k:Int) = some (.int (cell ns k)):=z8 (by
 rw [List.getElem?_map,List.getElem?_eq_getElem h]
 simp [cell,List.getD,h])
theorem i6 {H:Hp} {p:Addr} (h:H p = none) (o:HO):j5 H (upd H p o):=fun b u q=>by rw [j4 (o4 q h)]; exact q
theorem j5.put {H H':Hp} {l:Addr} {o:HO} (s:j5 H H') (hl:H l = none):j5 H (upd H' l o):=fun b u q=>by
 rw [j4 (o4 q hl)]
 exact s b u q
def aW7 (K:PySem.W.Frag):Sp:=fun vs H Q _=>∃ (a:Addr) (ns:List Int) (k:Nat),vs = [.ref a,.int k] ∧ SqL K H a (ns.map V.int) ∧ Q (.int (cell ns k)) H
def aK4 (K:PySem.W.Frag):Sp:=fun vs H Q _=>∃ (a:Addr) (ns:List Int),vs = [.ref a] ∧ SqL K H a (ns.map V.int) ∧ ns.length ≤ 63 ∧ ∀ H',Q (.bl true) H'
structure Hall where
 i:Int
 c:Int
 m:Int
 o:Int
 e:Int
def Hall.row (h:Hall):List Int:=[h.i,h.c,h.m,h.o,h.e]
structure Hall.Ok (h:Hall):Prop where
 i:1 ≤ h.i ∧ h.i ≤ 12
 c:1 ≤ h.c ∧ h.c ≤ 12
 m:1 ≤ h.m ∧ h.m ≤ 24
 o:1 ≤ h.o ∧ h.o ≤ 12
 e:1 ≤ h.e ∧ h.e ≤ 12
theorem aG3 {a b:Int} (ha:1 ≤ a ∧ a ≤ 12) (hb:1 ≤ b ∧ b ≤ 12):1 ≤ a * b ∧ a * b ≤ 144:=by
 have h1:1 * 1 ≤ a * b:=Int.mul_le_mul ha.1 hb.1 (by decide) (by lia)
 have h2:a * b ≤ 12 * 12:=Int.mul_le_mul ha.2 hb.2 (by lia) (by decide)
 lia
theorem Hall.Ok.ic {h:Hall} (k:h.Ok):1 ≤ h.i * h.c ∧ h.i * h.c ≤ 144:=aG3 k.i k.c
theorem Hall.Ok.oe {h:Hall} (k:h.Ok):1 ≤ h.o * h.e ∧ h.o * h.e ≤ 144:=aG3 k.o k.e
def aU1 (K:PySem.W.Frag):Sp:=fun vs H Q _=>∃ (a:Addr) (ns:List Int),vs = [.ref a] ∧ SqL K H a (ns.map V.int) ∧ ∀ (p:Addr) (h:Hall) (H':Hp),h.Ok → j5 H H' → H' p = some (.tup (h.row.map V.int)) → Q (.ref p) H'
def ag7 (j:Nat):Int:=if j = 2 then 24 else 12
theorem a55 {i:Nat} (hi:i < 5):(∃ m:Int,atI ([4,4,6,4,4].map V.int) (i:Int) = some (.int m) ∧ 1 ≤ m ∧ m ≤ ag7 i) ∧ ∃ m:Int,atI ([12,12,24,12,12].map V.int) (i:Int) = some (.int m) ∧ 1 ≤ m ∧ m ≤ ag7 i:=by
 match i,hi with
 | 0,_=>exact ⟨⟨_,rfl,by decide,by decide⟩,_,rfl,by decide,by decide⟩
 | 1,_=>exact ⟨⟨_,rfl,by decide,by decide⟩,_,rfl,by decide,by decide⟩
 | 2,_=>exact ⟨⟨_,rfl,by decide,by decide⟩,_,rfl,by decide,by decide⟩
 | 3,_=>exact ⟨⟨_,rfl,by decide,by decide⟩,_,rfl,by decide,by decide⟩
 | 4,_=>exact ⟨⟨_,rfl,by decide,by decide⟩,_,rfl,by decide,by decide⟩
section
variable {P:Program} {w:World} {K:PySem.W.Frag} {mg:Str → Option Value} {base:Heap}
theorem j5.seqT {H H':Hp} {a:Addr} {xs:List V} (e:j5 H H') (h:SqT K H a xs):SqT K H' a xs:=by
 rcases h with (h | ⟨o,h⟩) | h
 ·exact .inl (.inl (e _ _ h))
 ·exact .inl (.inr ⟨o,e _ _ h⟩)
 ·exact .inr h
theorem ae2:FnScope ["_law_script","_law_k"] ["_law_script","_law_k"] (i7 (top 39)):=⟨rfl,rfl,rfl,by decide +kernel,rfl,by decide +kernel,by decide +kernel⟩
theorem a49 (T:Txt K mg) (D:Def K mg "_law_cell_at" (top 39) ["_law_script","_law_k"]):Callee P w K mg base 1 "_law_cell_at" ["_law_script","_law_k"] (aW7 K):=by
 refine D.ok ae2 (fun vs H Q E h=>?_) (fun f cdv A outer s H vs Q E hr h=>?_)
 ·obtain ⟨a,ns,k,rfl,_⟩:=h
  rfl
 obtain ⟨a,ns,k,rfl,hS,q⟩:=h
 refine ⟨_,(i4 (m8 (j8 S2 (pv 1) (i8 (o7 K) rfl T.m_len boot_len (b8 (pv 0) d9 b9)) (m7 _)) (i5 (i9 (j3 (n9 K) (pv 0) (pv 1) (fun _ _=>rfl)))) j1)
  (i5 (i9 i0))),?_⟩
 refine ⟨_,rfl,_,rfl,a,_,rfl,.inl hS,_,_,rfl,rfl,_,rfl,?_⟩
 refine A7 (fun c=>?_) (fun c=>?_)
 ·have c':(k:Int) < (((ns.map V.int).length:Nat):Int):=of_decide_eq_true c
  rw [List.length_map] at c'
  exact ⟨_,rfl,_,rfl,a,_,_,_,rfl,rfl,hS,aE2 (by lia),q⟩
 ·have c':¬ (k:Int) < (((ns.map V.int).length:Nat):Int):=of_decide_eq_false (Bool.eq_false_iff.mpr c)
  rw [List.length_map] at c'
  have e:cell ns k = 0:=by simp [cell,List.getD,List.getElem?_eq_none (show ns.length ≤ k by lia)]
  rw [e] at q
  exact q
theorem E4:FnScope ["_law_script","_law_sizes","_law_k","_law_number_here","_law_most"] ["_law_script"] (i7 (top 40)):=⟨rfl,rfl,rfl,by decide +kernel,rfl,by decide +kernel,by decide +kernel⟩
theorem a48 (T:Txt K mg) (C__law_cell_at:Callee P w K mg base 1 "_law_cell_at" ["_law_script","_law_k"] (aW7 K)) (D:Def K mg "_law_hall" (top 40) ["_law_script"]):Callee P w K mg base 2 "_law_hall" ["_law_script"] (aU1 K):=by
 refine D.ok E4 (fun vs H Q E h=>?_) (fun f cdv A outer s H vs Q E hr h=>?_)
 ·obtain ⟨a,ns,rfl,_⟩:=h
  rfl
 obtain ⟨a,ns,rfl,hS,q⟩:=h
 refine ⟨_,(i4 (j7 (i:=1) E4.nd rfl (Or.inl rfl) (q9 d9))
  (i4 (A3 PassesOwn.never rfl (z9 rfl T.m_range (b8 i0 d9 m6)) (o5 (i:=2) E4.nd rfl (Or.inl rfl))
  (i4 (j7 (i:=3) E4.nd rfl (Or.inl rfl) (j2 K2 (j2 o9 (j2 u6 (r6 C__law_cell_at hr rfl (b8 (pv 0) (b8 (pv 2) d9 b9) b9)) (j2 aC5 i0 i0)) (j2 K2 (j2 o9 i0 (pv 2)) i0)) (j2 o9 i0 (pv 2))))
  (i4 (j7 (i:=4) E4.nd rfl (Or.inl rfl) (j3 (n9 K) (q9 (b8 i0 (b8 i0 (b8 i0 (b8 i0 (b8 i0 d9 m6) m6) m6) m6) m6)) (pv 2) (fun _ _=>rfl)))
  (i4 (m8 (j8 C4 (j2 u6 (r6 C__law_cell_at hr rfl (b8 (pv 0) (b8 i0 d9 m6) b9)) i0) i0 (m7 _)) (i5 (j7 (i:=4) E4.nd rfl (Or.inl rfl) (j3 (n9 K) (q9 (b8 i0 (b8 i0 (b8 i0 (b8 i0 (b8 i0 d9 m6) m6) m6) m6) m6)) (pv 2) (fun _ _=>rfl)))) j1)
  (i5 (D2 (K8 K PySem.F.plainAttrs_list PySem.F.slot_list_append PySem.F.type_list_append B2 (pv 1) (b8 (j2 K2 i0 (j2 u6 (j2 u6 (pv 3) i0) (pv 4))) d9 O9))))))))
  (i5 (i9 (B1 (M1 K) rfl T.m_tuple boot_tuple (b8 (pv 1) d9 b9)))))),?_⟩
 refine ⟨(by show 0 ≤ sizeLine; decide),fun l hl=>?_⟩
 have el:=i3 (H:=H) (a:=l) (o:=.lst [])
 have s1:=i6 hl (.lst [])
 generalize upd H l (.lst []) = H1 at el s1 ⊢
 refine ⟨_,rfl,by decide,by decide,?_⟩
 refine A4 (lo:=0) (n:=5) (fun i σ H'=>j5 H H' ∧ ∃ xs:List Int,xs.length = i ∧ (∀ j x,xs[j]? = some x → 1 ≤ x ∧ x ≤ ag7 j) ∧ H' l = some (.lst (xs.map V.int)) ∧ ∃ v2 v3 v4,σ = [some (.ref a),some (.ref l),v2,v3,v4])
  ⟨s1,[],rfl,(fun j x hx=>by simp at hx),el,none,none,none,rfl⟩ ?_ ?_
 ·rintro i σ H' hi ⟨s2,xs,hlen,hx,el2,v2,v3,v4,rfl⟩
  rw [Int.zero_add]
  obtain ⟨⟨m1,a1,b1,c1⟩,m2,a2,b2,c2⟩:=a55 hi
  have fin:∀ (H3:Hp),j5 H' H3 → ∀ n m:Int,1 ≤ m → m ≤ ag7 i → H3 l = some (.lst (xs.map V.int)) ∧ (xs.map V.int).length < sizeLine ∧ (∃ xs':List Int,xs'.length = i + 1 ∧ (∀ j x,xs'[j]? = some x → 1 ≤ x ∧ x ≤ ag7 j) ∧ upd H3 l (.lst (xs.map V.int ++ [.int (1 + n % 999983 % m)])) l = some (.lst (xs'.map V.int))) ∧ j5 H (upd H3 l (.lst (xs.map V.int ++ [.int (1 + n % 999983 % m)]))):=fun H3 s3 n m hm1 hm2=>by
   refine ⟨s3 _ _ el2,n5 (by rw [List.length_map]; lia),⟨xs ++ [1 + n % 999983 % m],by rw [List.length_append,hlen]; rfl,fun j x hj=>?_,by rw [i3,List.map_append]; rfl⟩,j5.put (s2.trans s3) hl⟩
   rcases Nat.lt_trichotomy j xs.length with c | c | c
   ·rw [List.getElem?_append_left c] at hj
    exact hx j x hj
   ·rw [c,List.getElem?_concat_length] at hj
    cases hj
    rw [c,hlen]
    have h1:=Int.emod_nonneg (n % 999983) (show m ≠ 0 by lia)
    have h2:=Int.emod_lt_of_pos (n % 999983) (show 0 < m by lia)
    lia
   ·rw [List.getElem?_eq_none (by rw [List.length_append,List.length_singleton]; lia)] at hj
    cases hj
  refine ⟨_,rfl,_,rfl,a,ns,i,rfl,s2.seq hS,_,_,rfl,rfl,⟨by decide,by decide,by decide⟩,_,_,rfl,rfl,(by show (0:Int) < 10 ^ 18; decide),_,rfl,_,_,rfl,rfl,.inl ⟨by decide,by decide⟩,_,_,rfl,rfl,_,_,rfl,rfl,.inr ⟨by lia,by lia⟩,_,rfl,_,_,rfl,rfl,.inl ⟨by decide,by decide⟩,_,_,rfl,rfl,?_⟩
  refine ⟨(by show 5 ≤ sizeLine; decide),fun l1 hl1=>?_⟩
  have el1:=i3 (H:=H') (a:=l1) (o:=.lst [.int 4,.int 4,.int 6,.int 4,.int 4])
  have s3:=i6 hl1 (.lst [.int 4,.int 4,.int 6,.int 4,.int 4])
  refine ⟨_,rfl,l1,_,_,_,rfl,rfl,SqL.of el1,a1,?_⟩
  generalize upd H' l1 (.lst [.int 4,.int 4,.int 6,.int 4,.int 4]) = H3 at s3 ⊢
  have s23:=s2.trans s3
  refine ⟨_,rfl,a,ns,5,rfl,s23.seq hS,_,_,rfl,rfl,(by show (0:Int) < 5; decide),rfl,_,rfl,?_⟩
  refine A7 (fun _=>?_) (fun _=>?_)
  ·refine ⟨(by show 5 ≤ sizeLine; decide),fun l2 hl2=>?_⟩
   have el3:=i3 (H:=H3) (a:=l2) (o:=.lst [.int 12,.int 12,.int 24,.int 12,.int 12])
   have s4:=s3.trans (i6 hl2 (.lst [.int 12,.int 12,.int 24,.int 12,.int 12]))
   refine ⟨_,rfl,l2,_,_,_,rfl,rfl,SqL.of el3,a2,?_⟩
   obtain ⟨f1,f2,⟨xs',g1,g2,g3⟩,f4⟩:=fin _ s4 (cell ns i % 10 ^ Int.toNat 18 * (2 * (i:Int) + 48271) + 7 * (i:Int)) m2 b2 c2
   exact ⟨_,rfl,.inl ⟨rfl,_,SqL.of f1⟩,_,rfl,_,_,rfl,rfl,(by show (0:Int) < 999983; decide),_,rfl,_,_,rfl,rfl,(by show (0:Int) < m2; lia),_,_,rfl,rfl,l,xs.map V.int,_,rfl,rfl,f1,f2,f4,xs',g1,g2,g3,_,_,_,rfl⟩
  ·obtain ⟨f1,f2,⟨xs',g1,g2,g3⟩,f4⟩:=fin _ s3 (cell ns i % 10 ^ Int.toNat 18 * (2 * (i:Int) + 48271) + 7 * (i:Int)) m1 b1 c1
   exact ⟨_,rfl,.inl ⟨rfl,_,SqL.of f1⟩,_,rfl,_,_,rfl,rfl,(by show (0:Int) < 999983; decide),_,rfl,_,_,rfl,rfl,(by show (0:Int) < m1; lia),_,_,rfl,rfl,l,xs.map V.int,_,rfl,rfl,f1,f2,f4,xs',g1,g2,g3,_,_,_,rfl⟩
 ·rintro σ H' ⟨s2,xs,hlen,hx,el2,v2,v3,v4,rfl⟩
  match xs,hlen with
  | [x0,x1,x2,x3,x4],_ =>
   refine ⟨_,rfl,l,_,rfl,.inl ⟨SqL.of el2,fun p hp=>?_⟩⟩
   refine q p ⟨x0,x1,x2,x3,x4⟩ _ ?_ (s2.trans (i6 hp _)) i3
   exact ⟨hx 0 x0 rfl,hx 1 x1 rfl,hx 2 x2 rfl,hx 3 x3 rfl,hx 4 x4 rfl⟩
end
theorem O1 (es:List Int):(es.map V.int).all Z5 = true:=by
 rw [List.all_eq_true]
 intro x hx
 obtain ⟨p,_,rfl⟩:=List.mem_map.mp hx
 rfl
theorem Y2 (e:Int) (es:List Int):inV (.int e) (es.map V.int) = decide (e ∈ es):=by
 unfold inV
 rw [List.any_map]
 rw [Bool.eq_iff_iff,List.any_eq_true,decide_eq_true_iff]
 constructor
 ·rintro ⟨q,hq,e'⟩
  have e':(q == e) = true:=e'
  exact eq_of_beq e' ▸ hq
 ·intro h
  exact ⟨e,h,beq_self_eq_true e⟩
structure EndsOk (h:Hall) (xs:List Int):Prop where
 nd:xs.Nodup
 es:∀ e ∈ xs,0 ≤ e ∧ e < h.o * h.e
 some:xs ≠ []
 few:xs.length ≤ 12
theorem aF4 {x d:Int} (h:0 < d):0 ≤ x % d ∧ x % d < d:=⟨Int.emod_nonneg _ (by lia),Int.emod_lt_of_pos _ h⟩
def aH5 (K:PySem.W.Frag):Sp:=fun vs H Q _=>∃ (a:Addr) (h:Hall) (n:Int),vs = [.ref a,.int n] ∧ SqT K H a (h.row.map V.int) ∧ h.Ok ∧ ∀ (l:Addr) (es:List Int) (H':Hp),j5 H H' → H l = none → H' l = some (.lst (es.map V.int)) → EndsOk h es → Q (.ref l) H'
section
variable {P:Program} {w:World} {K:PySem.W.Frag} {mg:Str → Option Value} {base:Heap}
theorem A9:FnScope ["_law_hall_here","_law_number_here","_law_ends_here","_law_left","_law_many","_law_k","_law_end"] ["_law_hall_here","_law_number_here"] (i7 (top 41)):=⟨rfl,rfl,rfl,by decide +kernel,rfl,by decide +kernel,by decide +kernel⟩
theorem aX4 (T:Txt K mg) (D:Def K mg "_law_ends" (top 41) ["_law_hall_here","_law_number_here"]):Callee P w K mg base 1 "_law_ends" ["_law_hall_here","_law_number_here"] (aH5 K):=by
 refine D.ok A9 (fun vs H Q E h=>?_) (fun f cdv A outer s H vs Q E hr h=>?_)
 ·obtain ⟨a,h,n,rfl,_⟩:=h
  rfl
 obtain ⟨a,h,n,rfl,hH,ok,q⟩:=h
 have b1:=ok.oe
 have b2:=ok.o
 have b3:=ok.e
 refine ⟨_,(i4 (j7 (i:=2) A9.nd rfl (Or.inl rfl) (q9 d9))
  (i4 (j7 (i:=3) A9.nd rfl (Or.inl rfl) (j2 aT0 (pv 1) (j2 aC5 i0 i0)))
  (i4 (j7 (i:=4) A9.nd rfl (Or.inl rfl) (j2 K2 i0 (j2 u6 (j2 u6 (j2 o9 (pv 1) i0) i0) i0)))
  (i4 (m8 (j8 C4 (j2 u6 (j2 u6 (j2 o9 (pv 1) i0) i0) i0) i0 (m7 _)) (i5 (j7 (i:=4) A9.nd rfl (Or.inl rfl) (j2 K2 i0 (j2 u6 (j2 u6 (j2 o9 (pv 1) i0) i0) i0)))) j1)
  (i4 (A3 PassesOwn.never rfl (z9 rfl T.m_range (b8 (pv 4) d9 b9)) (o5 (i:=5) A9.nd rfl (Or.inl rfl))
  (i4 (j7 (i:=6) A9.nd rfl (Or.inl rfl) (j2 u6 (j2 u6 (j2 o9 (pv 1) (j2 K2 i0 (j2 o9 (j2 o9 i0 (pv 5)) (pv 5)))) i0) (j2 o9 (j3 (j0 K) (pv 0) i0 (fun _ _=>rfl)) (j3 (j0 K) (pv 0) i0 (fun _ _=>rfl)))))
  (i4 (m8 (j8 a62 (pv 1) (j2 aC5 i0 i0) (m7 _)) (i4 (j7 (i:=6) A9.nd rfl (Or.inl rfl) (j2 u6 (pv 3) (j2 o9 (j3 (j0 K) (pv 0) i0 (fun _ _=>rfl)) (j3 (j0 K) (pv 0) i0 (fun _ _=>rfl)))))
  (i5 (j7 (i:=3) A9.nd rfl (Or.inl rfl) (j2 Y6 (pv 3) (j2 o9 (j3 (j0 K) (pv 0) i0 (fun _ _=>rfl)) (j3 (j0 K) (pv 0) i0 (fun _ _=>rfl))))))) j1)
  (i5 (m8 (j8 (al6 K) (pv 6) (pv 2) (by with_unfolding_all rfl)) (i5 (D2 (K8 K PySem.F.plainAttrs_list PySem.F.slot_list_append PySem.F.type_list_append B2 (pv 2) (b8 (pv 6) d9 b9)))) j1)))))
  (i5 (i9 (pv 2)))))))),?_⟩
 refine ⟨(by show 0 ≤ sizeLine; decide),fun l hl=>?_⟩
 have el:=i3 (H:=H) (a:=l) (o:=.lst [])
 have s1:=i6 hl (.lst [])
 generalize upd H l (.lst []) = H1 at el s1 ⊢
 refine ⟨_,rfl,_,_,rfl,rfl,⟨by decide,by decide,by decide⟩,_,_,rfl,rfl,⟨by show (0:Int) < 10 ^ 18; decide,by show (10:Int) ^ 18 < 18446744073709551616; decide⟩,?_⟩
 refine ⟨_,rfl,_,_,rfl,rfl,.inr ⟨by decide,by decide⟩,_,_,rfl,rfl,(by show (0:Int) < 999961; decide),_,_,rfl,rfl,(by show (0:Int) < 3; decide),_,_,rfl,rfl,?_⟩
 refine ⟨_,rfl,_,_,rfl,rfl,.inr ⟨by decide,by decide⟩,_,_,rfl,rfl,(by show (0:Int) < 999863; decide),_,_,rfl,rfl,(by show (0:Int) < 6; decide),rfl,_,rfl,?_⟩
 refine A7 (fun _=>⟨_,rfl,_,_,rfl,rfl,.inr ⟨by decide,by decide⟩,_,_,rfl,rfl,(by show (0:Int) < 999961; decide),_,_,rfl,rfl,(by show (0:Int) < 12; decide),_,_,rfl,rfl,_,rfl,_,rfl,by show -(2 ^ 62) ≤ 1 + n * 16807 % 999961 % 12; omega,by show 1 + n * 16807 % 999961 % 12 < 2 ^ 62; omega,?_⟩) (fun _=>⟨_,rfl,_,rfl,by show -(2 ^ 62) ≤ 1 + n * 16807 % 999961 % 3; omega,by show 1 + n * 16807 % 999961 % 3 < 2 ^ 62; omega,?_⟩)
 all_goals
  refine A4 (fun i σ H'=>j5 H H' ∧ ∃ es:List Int,es.Nodup ∧ (∀ e ∈ es,0 ≤ e ∧ e < h.o * h.e) ∧ (i = 0 ∨ es ≠ []) ∧ es.length ≤ i ∧ H' l = some (.lst (es.map V.int)) ∧ ∃ v3 v4 v5 v6,σ = [some (.ref a),some (.int n),some (.ref l),some (.int v3),v4,v5,v6])
   ⟨s1,[],List.nodup_nil,(fun e he=>nomatch he),.inl rfl,Nat.le_refl _,el,_,_,none,none,rfl⟩ ?_ ?_
  ·rintro i σ H' hi ⟨s2,es,d1,d2,d3,d4,el2,v3,v4,v5,v6,rfl⟩
   have hi:i < 12:=by omega
   rw [Int.zero_add]
   have hk2:0 ≤ 2 * (i:Int) * (i:Int) ∧ 2 * (i:Int) * (i:Int) ≤ 24 * 12:=⟨Int.mul_nonneg (by omega) (by omega),Int.mul_le_mul (by omega) (by omega) (by omega) (by omega)⟩
   have hH2:=j5.seqT s2 hH
   refine ⟨_,rfl,_,rfl,_,_,rfl,rfl,.inl ⟨by decide,by decide⟩,_,rfl,_,_,rfl,rfl,.inr ⟨by omega,by omega⟩,_,_,rfl,rfl,_,_,rfl,rfl,.inr ⟨by omega,by omega⟩,_,_,rfl,rfl,(by show (0:Int) < 999983; decide),_,rfl,a,_,_,_,rfl,rfl,hH2,rfl,_,rfl,a,_,_,_,rfl,rfl,hH2,rfl,_,_,rfl,rfl,.inl ⟨by omega,by omega⟩,_,_,rfl,rfl,(by show 0 < h.o * h.e; omega),?_⟩
   refine ⟨_,rfl,_,_,rfl,rfl,⟨by decide,by decide,by decide⟩,_,_,rfl,rfl,_,rfl,?_⟩
   have key:∀ x:Int,(!inV (.int x) (es.map V.int)) = true → ¬ x ∈ es:=fun x c=>by rw [Y2] at c; simpa using c
   have key2:∀ x:Int,¬ (!inV (.int x) (es.map V.int)) = true → x ∈ es:=fun x c=>by rw [Y2] at c; simpa using c
   have fin:∀ x:Int,0 ≤ x ∧ x < h.o * h.e → ¬ x ∈ es → (j5 H (upd H' l (.lst (es.map V.int ++ [.int x])))) ∧ ∃ es':List Int,es'.Nodup ∧ (∀ e ∈ es',0 ≤ e ∧ e < h.o * h.e) ∧ (i + 1 = 0 ∨ es' ≠ []) ∧ es'.length ≤ i + 1 ∧ upd H' l (.lst (es.map V.int ++ [.int x])) l = some (.lst (es'.map V.int)):=fun x hx hn=>by
    refine ⟨j5.put s2 hl,es ++ [x],List.nodup_append.mpr ⟨d1,by simp,fun y hy z hz=>?_⟩,fun e he=>?_,.inr (by simp),by rw [List.length_append,List.length_singleton]; omega,by rw [i3,List.map_append]; rfl⟩
    ·rw [List.mem_singleton] at hz
     exact fun e=>hn (by rw [← hz,← e]; exact hy)
    ·rcases List.mem_append.mp he with c | c
     ·exact d2 e c
     ·rw [List.mem_singleton] at c
      rw [c]; exact hx
   refine A7 (fun _=>⟨_,rfl,_,rfl,a,_,_,_,rfl,rfl,hH2,rfl,_,rfl,a,_,_,_,rfl,rfl,hH2,rfl,_,_,rfl,rfl,.inl ⟨by omega,by omega⟩,_,_,rfl,rfl,(by show 0 < h.o * h.e; omega),_,rfl,_,rfl,a,_,_,_,rfl,rfl,hH2,rfl,_,rfl,a,_,_,_,rfl,rfl,hH2,rfl,_,_,rfl,rfl,.inl ⟨by omega,by omega⟩,_,_,rfl,rfl,⟨by show 0 < h.o * h.e; omega,by show h.o * h.e < 1073741824; omega⟩,?_⟩) (fun _=>?_)
   all_goals
    refine ⟨_,rfl,_,rfl,l,_,rfl,.inl (SqL.of el2),rfl,O1 es,_,rfl,?_⟩
    refine A7 (fun c=>?_) (fun c=>?_)
    ·have c':=key _ c
     obtain ⟨g0,es',g1,g2,g3,g4,g5⟩:=fin _ (aF4 (by omega)) c'
     exact ⟨_,rfl,.inl ⟨rfl,_,SqL.of el2⟩,_,rfl,l,_,_,rfl,rfl,el2,n5 (by rw [List.length_map]; omega),g0,es',g1,g2,g3,g4,g5,_,_,_,_,rfl⟩
    ·have c':=key2 _ c
     exact ⟨s2,es,d1,d2,.inr (List.ne_nil_of_mem c'),by omega,el2,_,_,_,_,rfl⟩
  ·rintro σ H' ⟨s2,es,d1,d2,d3,d4,el2,v3,v4,v5,v6,rfl⟩
   exact ⟨_,rfl,q l es H' s2 hl el2 ⟨d1,d2,d3.resolve_left (by omega),by omega⟩⟩
end
def nIn (r k:Int):List Key:=[.inr "in",.inl r,.inl k]
def R0 (r k:Int):List Key:=[.inr "out",.inl r,.inl k]
def x9 (h:Hall) (k:Int) (acc:List (List Key)) (e:Int):List (List Key):=if inD acc (R0 (e / h.e) k) then acc else acc ++ [R0 (e / h.e) k]
def A5 (h:Hall) (c:Int) (es:List Int) (k:Int):List (List Key):=es.foldl (x9 h k) [nIn (c / h.c) k]
theorem S6 (h:Hall) (k:Int) (d:List Key):∀ (es:List Int) (acc:List (List Key)),d ∈ es.foldl (x9 h k) acc ↔ d ∈ acc ∨ ∃ e ∈ es,d = R0 (e / h.e) k
 | [],acc=>by simp
 | e :: t,acc=>by
  rw [List.foldl_cons,S6 h k d t]
  have st:d ∈ x9 h k acc e ↔ d ∈ acc ∨ d = R0 (e / h.e) k:=by
   unfold x9
   by_cases c:inD acc (R0 (e / h.e) k) = true
   ·rw [if_pos c]
    have c':=af2.mp c
    constructor
    ·exact .inl
    ·rintro (g | g)
     ·exact g
     ·rw [g]; exact c'
   ·rw [if_neg c,List.mem_append,List.mem_singleton]
  rw [st]
  constructor
  ·rintro ((g | g) | ⟨x,hx,g⟩)
   ·exact .inl g
   ·exact .inr ⟨e,List.mem_cons_self ..,g⟩
   ·exact .inr ⟨x,List.mem_cons_of_mem _ hx,g⟩
  ·rintro (g | ⟨x,hx,g⟩)
   ·exact .inl (.inl g)
   ·rcases List.mem_cons.mp hx with rfl | hx
    ·exact .inl (.inr g)
    ·exact .inr ⟨x,hx,g⟩
theorem I9 {h:Hall} {c:Int} {es:List Int} {k:Int} {d:List Key}:d ∈ A5 h c es k ↔ d = nIn (c / h.c) k ∨ ∃ e ∈ es,d = R0 (e / h.e) k:=by
 unfold A5
 rw [S6,List.mem_singleton]
theorem K3 (h:Hall) (k:Int):∀ (es:List Int) (acc:List (List Key)),(es.foldl (x9 h k) acc).length ≤ acc.length + es.length
 | [],acc=>by simp
 | e :: t,acc=>by
  have ih:=K3 h k t (x9 h k acc e)
  have:(x9 h k acc e).length ≤ acc.length + 1:=by
   unfold x9
   split <;> simp
  rw [List.foldl_cons,List.length_cons]
  lia
theorem aa9 (h:Hall) (c:Int) (es:List Int) (k:Int):(A5 h c es k).length ≤ 1 + es.length:=K3 h k es _
def D1 (H:Hp) (as:List Addr) (ds:List (List Key)):Prop:=Paired (fun a d=>H a = some (.tup (d.map kV))) as ds
def az8 (H:Hp) (l:Addr) (ds:List (List Key)):Prop:=∃ as:List Addr,H l = some (.lst (as.map V.ref)) ∧ D1 H as ds
theorem D1.same {H H':Hp} {as:List Addr} {ds:List (List Key)} (s:∀ b xs,H b = some (.tup xs) → H' b = some (.tup xs)) (h:D1 H as ds):D1 H' as ds:=by
 unfold D1 at h ⊢
 exact F9 h fun a d _ e=>s _ _ e
theorem az8.push {H:Hp} {l p:Addr} {as:List Addr} {ds:List (List Key)} {d:List Key} (e:H l = some (.lst (as.map V.ref))) (h:D1 H as ds) (hp:H p = some (.tup (d.map kV))) :
  az8 (upd H l (.lst (as.map V.ref ++ [.ref p]))) l (ds ++ [d]):=by
 have hpl:p ≠ l:=fun z=>by rw [z,e] at hp; cases hp
 refine ⟨as ++ [p],by rw [i3,List.map_append]; rfl,Paired.snoc (D1.same (fun b xs hb=>?_) h) ?_⟩
 ·have hbl:b ≠ l:=fun z=>by rw [z,e] at hb; cases hb
  rw [j4 hbl]
  exact hb
 ·show upd _ l _ p = _
  rw [j4 hpl]
  exact hp
def ar7 (K:PySem.W.Frag):Sp:=fun vs H Q _=>∃ (a e:Addr) (h:Hall) (c k:Int) (es:List Int),vs = [.ref a,.int c,.ref e,.int k] ∧ SqT K H a (h.row.map V.int) ∧ h.Ok ∧ (SqT K H e (es.map V.int) ∨ SqL K H e (es.map V.int)) ∧ es.length ≤ 13 ∧
 ∀ (l:Addr) (as:List Addr) (H':Hp),j5 H H' → H l = none → H' l = some (.lst (as.map V.ref)) → D1 H' as (A5 h c es k) → Q (.ref l) H'
section
variable {P:Program} {w:World} {K:PySem.W.Frag} {mg:Str → Option Value} {base:Heap}
theorem B8:FnScope ["_law_hall_here","_law_caller_here","_law_ends_here","_law_k","_law_lines_here","_law_end","_law_line"] ["_law_hall_here","_law_caller_here","_law_ends_here","_law_k"] (i7 (top 42)):=⟨rfl,rfl,rfl,by decide +kernel,rfl,by decide +kernel,by decide +kernel⟩
theorem aV4 (T:Txt K mg) (D:Def K mg "_law_lines" (top 42) ["_law_hall_here","_law_caller_here","_law_ends_here","_law_k"]):Callee P w K mg base 1 "_law_lines" ["_law_hall_here","_law_caller_here","_law_ends_here","_law_k"] (ar7 K):=by
 refine D.ok B8 (fun vs H Q E h=>?_) (fun f cdv A outer s H vs Q E hr h=>?_)
 ·obtain ⟨a,e,h,c,k,es,rfl,_⟩:=h
  rfl
 obtain ⟨a,e,h,c,k,es,rfl,hH,ok,hE,few,q⟩:=h
 have o2:=ok.c
 have o3:=ok.e
 rcases hE with hE | hE
 ·refine ⟨_,(i4 (j7 (i:=4) B8.nd rfl (Or.inl rfl) (q9 (b8 (C7 (b8 O6 (b8 (j2 Y6 (pv 1) (j3 (j0 K) (pv 0) i0 (fun _ _=>rfl))) (b8 (pv 3) d9 b9) O9) m6)) d9 O4)))
  (i4 (A3 PassesOwn.never rfl (au1 K (pv 2)) (o5 (i:=5) B8.nd rfl (Or.inl rfl))
  (i4 (j7 (i:=6) B8.nd rfl (Or.inl rfl) (C7 (b8 O6 (b8 (j2 Y6 (pv 5) (j3 (j0 K) (pv 0) i0 (fun _ _=>rfl))) (b8 (pv 3) d9 b9) O9) m6)))
  (i5 (m8 (j8 (ag6 K (Room.unitsT hr)) (pv 6) (pv 4) (by with_unfolding_all rfl)) (i5 (D2 (K8 K PySem.F.plainAttrs_list PySem.F.slot_list_append PySem.F.type_list_append B2 (pv 4) (b8 (pv 6) d9 b9)))) j1))))
  (i5 (i9 (pv 4))))),?_⟩
  refine ⟨_,rfl,_,rfl,a,_,_,_,rfl,rfl,hH,rfl,_,_,rfl,rfl,⟨by lia,by lia⟩,_,rfl,(by show 3 ≤ sizeLine; decide),fun t1 ht1=>?_⟩
  have e1:=i3 (H:=H) (a:=t1) (o:=.tup [.str "in",.int (c / h.c),.int k])
  have s1:=i6 ht1 (.tup [.str "in",.int (c / h.c),.int k])
  generalize upd H t1 (.tup [.str "in",.int (c / h.c),.int k]) = H1 at e1 s1 ⊢
  refine ⟨(by show 1 ≤ sizeLine; decide),fun l hl=>?_⟩
  have bag0:az8 (upd H1 l (.lst [.ref t1])) l [nIn (c / h.c) k]:=⟨[t1],i3,.cons (i6 hl _ _ _ e1) .nil⟩
  have sl:=i6 hl (.lst [.ref t1])
  generalize upd H1 l (.lst [.ref t1]) = H3 at bag0 sl ⊢
  have s3:=s1.trans sl
  refine ⟨_,rfl,e,rfl,⟨_,j5.seqT s3 hE⟩,?_⟩
  refine a01 (xs:=es.map V.int) (fun i σ H'=>j5 H1 H' ∧ az8 H' l ((es.take i).foldl (x9 h k) [nIn (c / h.c) k]) ∧ ∃ v5 v6,σ = [some (.ref a),some (.int c),some (.ref e),some (.int k),some (.ref l),v5,v6])
   ⟨sl,bag0,none,none,rfl⟩ (fun i σ H' _ g=>j5.seqT (s1.trans g.1) hE) ?_ ?_
  ·rintro i x σ H' hx ⟨s5,⟨as,b1,b2⟩,v5,v6,rfl⟩
   rw [List.getElem?_map] at hx
   obtain ⟨y,hy,rfl⟩:=Option.map_eq_some_iff.mp hx
   have hlen:=K3 h k (es.take i) [nIn (c / h.c) k]
   have hlt:(es.take i).length ≤ 13:=by rw [List.length_take]; lia
   rw [List.length_singleton] at hlen
   have step:(es.take (i + 1)).foldl (x9 h k) [nIn (c / h.c) k] = x9 h k ((es.take i).foldl (x9 h k) [nIn (c / h.c) k]) y:=by
    rw [List.take_succ,hy,List.foldl_append]
    rfl
   rw [step]
   generalize (es.take i).foldl (x9 h k) [nIn (c / h.c) k] = ds at b2 hlen
   have hn:=Paired.length b2
   have hH5:=j5.seqT (s1.trans s5) hH
   refine ⟨_,rfl,_,rfl,a,_,_,_,rfl,rfl,hH5,rfl,_,_,rfl,rfl,⟨by lia,by lia⟩,_,rfl,(by show 3 ≤ sizeLine; decide),fun u hu=>?_⟩
   have eu:=i3 (H:=H') (a:=u) (o:=.tup [.str "out",.int (y / h.e),.int k])
   have s6:=i6 hu (.tup [.str "out",.int (y / h.e),.int k])
   generalize upd H' u (.tup [.str "out",.int (y / h.e),.int k]) = H6 at eu s6 ⊢
   have c1:=s6 _ _ b1
   have c2:=D1.same (fun b xs hb=>s6 _ _ hb) b2
   refine ⟨_,rfl,_,rfl,l,u,as,R0 (y / h.e) k,ds,rfl,rfl,SqL.of c1,SqT.of eu,F9 c2 (fun _ _ _ z=>SqT.of z),_,rfl,?_⟩
   refine A7 (fun cc=>?_) (fun cc=>?_)
   ·have cc':inD ds (R0 (y / h.e) k) = false:=by simpa using cc
    refine ⟨_,rfl,.inl ⟨rfl,_,SqL.of c1⟩,_,rfl,l,as.map V.ref,.ref u,rfl,rfl,c1,n5 (by rw [List.length_map,hn]; lia),?_⟩
    refine ⟨j5.put (s5.trans s6) hl,?_,_,_,rfl⟩
    unfold x9
    rw [if_neg (by rw [cc']; exact Bool.false_ne_true)]
    exact az8.push (d:=R0 (y / h.e) k) c1 c2 eu
   ·have cc':inD ds (R0 (y / h.e) k) = true:=by simpa using cc
    refine ⟨s5.trans s6,?_,_,_,rfl⟩
    unfold x9
    rw [if_pos cc']
    exact ⟨as,c1,c2⟩
  ·rintro σ H' ⟨s5,⟨as,b1,b2⟩,v5,v6,rfl⟩
   rw [List.length_map,List.take_length] at b2
   exact ⟨_,rfl,q l as H' (s1.trans s5) (s1.free hl) b1 b2⟩
 ·refine ⟨_,(i4 (j7 (i:=4) B8.nd rfl (Or.inl rfl) (q9 (b8 (C7 (b8 O6 (b8 (j2 Y6 (pv 1) (j3 (j0 K) (pv 0) i0 (fun _ _=>rfl))) (b8 (pv 3) d9 b9) O9) m6)) d9 O4)))
  (i4 (A3 PassesOwn.never rfl (y9 K (pv 2)) (o5 (i:=5) B8.nd rfl (Or.inl rfl))
  (i4 (j7 (i:=6) B8.nd rfl (Or.inl rfl) (C7 (b8 O6 (b8 (j2 Y6 (pv 5) (j3 (j0 K) (pv 0) i0 (fun _ _=>rfl))) (b8 (pv 3) d9 b9) O9) m6)))
  (i5 (m8 (j8 (ag6 K (Room.unitsT hr)) (pv 6) (pv 4) (by with_unfolding_all rfl)) (i5 (D2 (K8 K PySem.F.plainAttrs_list PySem.F.slot_list_append PySem.F.type_list_append B2 (pv 4) (b8 (pv 6) d9 b9)))) j1))))
  (i5 (i9 (pv 4))))),?_⟩
  refine ⟨_,rfl,_,rfl,a,_,_,_,rfl,rfl,hH,rfl,_,_,rfl,rfl,⟨by lia,by lia⟩,_,rfl,(by show 3 ≤ sizeLine; decide),fun t1 ht1=>?_⟩
  have e1:=i3 (H:=H) (a:=t1) (o:=.tup [.str "in",.int (c / h.c),.int k])
  have s1:=i6 ht1 (.tup [.str "in",.int (c / h.c),.int k])
  generalize upd H t1 (.tup [.str "in",.int (c / h.c),.int k]) = H1 at e1 s1 ⊢
  refine ⟨(by show 1 ≤ sizeLine; decide),fun l hl=>?_⟩
  have bag0:az8 (upd H1 l (.lst [.ref t1])) l [nIn (c / h.c) k]:=⟨[t1],i3,.cons (i6 hl _ _ _ e1) .nil⟩
  have sl:=i6 hl (.lst [.ref t1])
  generalize upd H1 l (.lst [.ref t1]) = H3 at bag0 sl ⊢
  have s3:=s1.trans sl
  refine ⟨_,rfl,e,rfl,⟨_,j5.seq s3 hE⟩,?_⟩
  refine D8 (xs:=es.map V.int) (fun i σ H'=>j5 H1 H' ∧ az8 H' l ((es.take i).foldl (x9 h k) [nIn (c / h.c) k]) ∧ ∃ v5 v6,σ = [some (.ref a),some (.int c),some (.ref e),some (.int k),some (.ref l),v5,v6])
   ⟨sl,bag0,none,none,rfl⟩ (fun i σ H' _ g=>j5.seq (s1.trans g.1) hE) ?_ ?_
  ·rintro i x σ H' hx ⟨s5,⟨as,b1,b2⟩,v5,v6,rfl⟩
   rw [List.getElem?_map] at hx
   obtain ⟨y,hy,rfl⟩:=Option.map_eq_some_iff.mp hx
   have hlen:=K3 h k (es.take i) [nIn (c / h.c) k]
   have hlt:(es.take i).length ≤ 13:=by rw [List.length_take]; lia
   rw [List.length_singleton] at hlen
   have step:(es.take (i + 1)).foldl (x9 h k) [nIn (c / h.c) k] = x9 h k ((es.take i).foldl (x9 h k) [nIn (c / h.c) k]) y:=by
    rw [List.take_succ,hy,List.foldl_append]
    rfl
   rw [step]
   generalize (es.take i).foldl (x9 h k) [nIn (c / h.c) k] = ds at b2 hlen
   have hn:=Paired.length b2
   have hH5:=j5.seqT (s1.trans s5) hH
   refine ⟨_,rfl,_,rfl,a,_,_,_,rfl,rfl,hH5,rfl,_,_,rfl,rfl,⟨by lia,by lia⟩,_,rfl,(by show 3 ≤ sizeLine; decide),fun u hu=>?_⟩
   have eu:=i3 (H:=H') (a:=u) (o:=.tup [.str "out",.int (y / h.e),.int k])
   have s6:=i6 hu (.tup [.str "out",.int (y / h.e),.int k])
   generalize upd H' u (.tup [.str "out",.int (y / h.e),.int k]) = H6 at eu s6 ⊢
   have c1:=s6 _ _ b1
   have c2:=D1.same (fun b xs hb=>s6 _ _ hb) b2
   refine ⟨_,rfl,_,rfl,l,u,as,R0 (y / h.e) k,ds,rfl,rfl,SqL.of c1,SqT.of eu,F9 c2 (fun _ _ _ z=>SqT.of z),_,rfl,?_⟩
   refine A7 (fun cc=>?_) (fun cc=>?_)
   ·have cc':inD ds (R0 (y / h.e) k) = false:=by simpa using cc
    refine ⟨_,rfl,.inl ⟨rfl,_,SqL.of c1⟩,_,rfl,l,as.map V.ref,.ref u,rfl,rfl,c1,n5 (by rw [List.length_map,hn]; lia),?_⟩
    refine ⟨j5.put (s5.trans s6) hl,?_,_,_,rfl⟩
    unfold x9
    rw [if_neg (by rw [cc']; exact Bool.false_ne_true)]
    exact az8.push (d:=R0 (y / h.e) k) c1 c2 eu
   ·have cc':inD ds (R0 (y / h.e) k) = true:=by simpa using cc
    refine ⟨s5.trans s6,?_,_,_,rfl⟩
    unfold x9
    rw [if_pos cc']
    exact ⟨as,c1,c2⟩
  ·rintro σ H' ⟨s5,⟨as,b1,b2⟩,v5,v6,rfl⟩
   rw [List.length_map,List.take_length] at b2
   exact ⟨_,rfl,q l as H' (s1.trans s5) (s1.free hl) b1 b2⟩
end
structure Call where
 c:Int
 es:List Int
 k:Int
structure Call.In (k:Call) (h:Hall):Prop where
 c:0 ≤ k.c ∧ k.c < h.i * h.c
 rise:k.es.Pairwise (· < ·)
 es:∀ e ∈ k.es,0 ≤ e ∧ e < h.o * h.e
 some:k.es ≠ []
 few:k.es.length ≤ 12
 k:0 ≤ k.k ∧ k.k < h.m
def af5 (c:Int):List Key:=[.inr "caller",.inl c]
def aP0 (e:Int):List Key:=[.inr "end",.inl e]
def M8 (h:Hall) (k:Call):List (List Key):=A5 h k.c k.es k.k ++ [af5 k.c] ++ k.es.map aP0
theorem V6 {h:Hall} {k:Call} {d:List Key}:d ∈ M8 h k ↔ d = nIn (k.c / h.c) k.k ∨ (∃ e ∈ k.es,d = R0 (e / h.e) k.k) ∨ d = af5 k.c ∨ ∃ e ∈ k.es,d = aP0 e:=by
 unfold M8
 rw [List.mem_append,List.mem_append,I9,List.mem_singleton,List.mem_map,or_assoc,or_assoc]
 have:(∃ a,a ∈ k.es ∧ aP0 a = d) ↔ ∃ e ∈ k.es,d = aP0 e:=⟨fun ⟨a,h1,h2⟩=>⟨a,h1,h2.symm⟩,fun ⟨a,h1,h2⟩=>⟨a,h1,h2.symm⟩⟩
 rw [this]
theorem aP1 {h:Hall} {k:Call} (few:k.es.length ≤ 12):(M8 h k).length ≤ 26:=by
 unfold M8
 have:=aa9 h k.c k.es k.k
 rw [List.length_append,List.length_append,List.length_singleton,List.length_map]
 lia
def B4 (H:Hp) (p:Addr) (k:Call):Prop:=∃ e:Addr,H e = some (.tup (k.es.map V.int)) ∧ H p = some (.tup [.int k.c,.ref e,.int k.k])
theorem B4.same {H H':Hp} {p:Addr} {k:Call} (s:∀ b xs,H b = some (.tup xs) → H' b = some (.tup xs)) (h:B4 H p k):B4 H' p k:=by
 obtain ⟨e,h1,h2⟩:=h
 exact ⟨e,s _ _ h1,s _ _ h2⟩
def W3 (t:Addr) (H H':Hp):Prop:=∀ b u,b ≠ t → H b = some u → H' b = some u
theorem R9 {K:PySem.W.Frag} {H:Hp}:∀ {as:List Addr} {ds:List (List Key)},D1 H as ds → Paired (bd9 K a86 H) (as.map V.ref) ds
 | _,_,.nil=>.nil
 | _,_,.cons h t=>.cons ⟨_,_,rfl,SqT.of h,J5 _⟩ (R9 t)
theorem W2 {α β:Type} {R:α → β → Prop} {as':List α} {ds':List β} (h':Paired R as' ds'):∀ {as:List α} {ds:List β},Paired R as ds → Paired R (as ++ as') (ds ++ ds')
 | _,_,.nil=>h'
 | _,_,.cons h t=>.cons h (W2 h' t)
theorem a07 {es es':List Int} (p:es'.Perm es) (s:es'.Pairwise (· ≤ ·)) (nd:es.Nodup):es'.Pairwise (· < ·):=by
 have nd':es'.Nodup:=p.nodup_iff.mpr nd
 exact (s.and nd').imp fun {a b} ⟨h1,h2⟩=>by lia
def aQ3:Sp:=fun vs H Q _=>∃ (c:Int) (i:Nat),vs = [.int c,.int i] ∧ i < 64 ∧ ∀ n:Int,0 ≤ n → Q (.int n) H
def a63 (K:PySem.W.Frag):Sp:=fun vs H Q _=>∃ (a t:Addr) (h:Hall) (n:Int) (kvs:List (List Key × V)),vs = [.ref a,.ref t,.int n] ∧ SqT K H a (h.row.map V.int) ∧ h.Ok ∧ H t = some (.dT kvs) ∧ kvs.length ≤ 10000 ∧
 (∀ H',j5 H H' → Q .non H') ∧
 ∀ (p:Addr) (k:Call) (kvs':List (List Key × V)) (H':Hp),W3 t H H' → H' t = some (.dT kvs') → B4 H' p k → k.In h → (∀ d ∈ M8 h k,¬ (E9 kvs d).isSome = true) → (∀ d,(E9 kvs' d).isSome = true ↔ (E9 kvs d).isSome = true ∨ d ∈ M8 h k) → kvs'.length ≤ kvs.length + 26 → Q (.ref p) H'
section
variable {P:Program} {w:World} {K:PySem.W.Frag} {mg:Str → Option Value} {base:Heap}
theorem ai8:FnScope ["_law_cell","_law_at"] ["_law_cell","_law_at"] (i7 (top 43)):=⟨rfl,rfl,rfl,by decide +kernel,rfl,by decide +kernel,by decide +kernel⟩
theorem aO5 (T:Txt K mg) (D:Def K mg "_law_number" (top 43) ["_law_cell","_law_at"]):Callee P w K mg base 1 "_law_number" ["_law_cell","_law_at"] aQ3:=by
 refine D.ok ai8 (fun vs H Q E h=>?_) (fun f cdv A outer s H vs Q E hr h=>?_)
 ·obtain ⟨c,i,rfl,_⟩:=h
  rfl
 obtain ⟨c,i,rfl,hi,q⟩:=h
 refine ⟨_,(i5 (i9 (j2 K2 (j2 o9 (i8 aU0 rfl T.m_abs boot_abs (b8 (pv 0) d9 b9)) (j2 K2 (j2 o9 i0 (pv 1)) i0)) (j2 o9 (pv 1) (pv 1))))),?_⟩
 refine ⟨_,rfl,_,rfl,_,rfl,_,_,rfl,rfl,.inl ⟨by decide,by decide⟩,_,_,rfl,rfl,_,_,rfl,rfl,.inr ⟨by lia,by lia⟩,_,rfl,_,rfl,_,_,rfl,rfl,.inl ⟨by lia,by lia⟩,_,_,rfl,rfl,?_⟩
 refine q _ (Int.add_nonneg (Int.mul_nonneg ?_ (by lia)) (Int.mul_nonneg (by lia) (by lia)))
 split <;> lia
theorem D9:FnScope ["_law_hall_here","_law_taken","_law_number_here","_law_caller_here","_law_ends_here","_law_step","_law_k","_law_need","_law_one"] ["_law_hall_here","_law_taken","_law_number_here"] (i7 (top 44)):=⟨rfl,rfl,rfl,by decide +kernel,rfl,by decide +kernel,by decide +kernel⟩
theorem a_6 (T:Txt K mg) (C__law_ends:Callee P w K mg base 1 "_law_ends" ["_law_hall_here","_law_number_here"] (aH5 K)) (C__law_lines:Callee P w K mg base 1 "_law_lines" ["_law_hall_here","_law_caller_here","_law_ends_here","_law_k"] (ar7 K)) (D:Def K mg "_law_try" (top 44) ["_law_hall_here","_law_taken","_law_number_here"]):Callee P w K mg base 2 "_law_try" ["_law_hall_here","_law_taken","_law_number_here"] (a63 K):=by
 refine D.ok D9 (fun vs H Q E h=>?_) (fun f cdv A outer s H vs Q E hr h=>?_)
 ·obtain ⟨a,t,h,n,kvs,rfl,_⟩:=h
  rfl
 obtain ⟨a,t,h,n,kvs,rfl,hH,ok,ht,hk,qN,q⟩:=h
 have b1:=ok.ic
 have b2:=ok.i
 have b3:=ok.m
 have b4:=ok.c
 refine ⟨_,(i4 (j7 (i:=3) D9.nd rfl (Or.inl rfl) (j2 u6 (j2 u6 (j2 o9 (pv 2) i0) i0) (j2 o9 (j3 (j0 K) (pv 0) i0 (fun _ _=>rfl)) (j3 (j0 K) (pv 0) i0 (fun _ _=>rfl)))))
  (i4 (j7 (i:=4) D9.nd rfl (Or.inl rfl) (i8 (Z0 K) rfl T.m_sorted boot_sorted (b8 (r6 C__law_ends hr rfl (b8 (pv 0) (b8 (pv 2) d9 b9) b9)) d9 r9)))
  (i4 (A3 PassesOwn.never rfl (z9 rfl T.m_range (b8 (i8 (am7 rfl) rfl T.m_min boot_min (b8 (j3 (j0 K) (pv 0) i0 (fun _ _=>rfl)) (b8 i0 d9 m6) x6)) d9 r9)) (o5 (i:=5) D9.nd rfl (Or.inl rfl))
  (i4 (j7 (i:=6) D9.nd rfl (Or.inl rfl) (j2 u6 (j2 K2 (j2 u6 (j2 o9 (pv 2) i0) i0) (pv 5)) (j3 (j0 K) (pv 0) i0 (fun _ _=>rfl))))
  (i4 (j7 (i:=7) D9.nd rfl (Or.inl rfl) (j2 O8 (j2 O8 (r6 C__law_lines hr rfl (b8 (pv 0) (b8 (pv 3) (b8 (pv 4) (b8 (pv 6) d9 b9) b9) b9) b9)) (q9 (b8 (C7 (b8 O6 (b8 (pv 3) d9 b9) m6)) d9 O4))) (F6 (own:=["_law_end"]) (fr:=[]) rfl (show CompScope ["_law_hall_here","_law_taken","_law_number_here","_law_caller_here","_law_ends_here","_law_step","_law_k","_law_need","_law_one"] (i7 (top 44)) _ _ _ from ⟨rfl,by decide +kernel,by decide +kernel,by decide +kernel,by decide +kernel⟩) (y9 K (pv 4)) (fun cl C s H ex=>⟨(o5 (i:=0) (show (["_law_end"]:List Str).Nodup from by decide +kernel) rfl (Or.inl rfl) (Or.inr rfl)),N0,(C7 (b8 O6 (b8 (pv 0) d9 b9) m6))⟩))))
  (i5 (m8 (j8 (aX7 K (aE7 aC3) (Room.units2 hr)) (F6 (own:=["_law_one"]) (fr:=[(1,"_law_taken")]) rfl (show CompScope ["_law_hall_here","_law_taken","_law_number_here","_law_caller_here","_law_ends_here","_law_step","_law_k","_law_need","_law_one"] (i7 (top 44)) _ _ _ from ⟨rfl,by decide +kernel,by decide +kernel,by decide +kernel,by decide +kernel⟩) (y9 K (pv 7)) (fun cl C s H ex=>⟨(o5 (i:=0) (show (["_law_one","_law_taken"]:List Str).Nodup from by decide +kernel) rfl (Or.inl rfl) (Or.inr rfl)),(aa6 (a_9 (a_0 (a67 hr) (pv 0) (pv 1)))),(pv 0)⟩)) (q9 d9) (m7 _)) (i4 (A3 PassesOwn.never rfl (y9 K (pv 7)) (o5 (i:=8) D9.nd rfl (Or.inl rfl))
  (i5 (aY9 (a67 hr) (pv 1) (pv 8) z5 rfl)))
  (i5 (i9 (C7 (b8 (pv 3) (b8 (B1 (M1 K) rfl T.m_tuple boot_tuple (b8 (pv 4) d9 b9)) (b8 (pv 6) d9 b9) r9) b9))))) j1)))))
  (i5 (i9 y6))))),?_⟩
 refine ⟨_,rfl,_,_,rfl,rfl,.inr ⟨by decide,by decide⟩,_,_,rfl,rfl,(by show (0:Int) < 1000003; decide),_,rfl,a,_,_,_,rfl,rfl,hH,rfl,_,rfl,a,_,_,_,rfl,rfl,hH,rfl,_,_,rfl,rfl,.inl ⟨by lia,by lia⟩,_,_,rfl,rfl,(by show 0 < h.i * h.c; lia),?_⟩
 have hc:0 ≤ n * 48271 % 1000003 % (h.i * h.c) ∧ n * 48271 % 1000003 % (h.i * h.c) < h.i * h.c:=aF4 (by lia)
 refine ⟨_,rfl,_,rfl,a,h,n,rfl,hH,ok,fun l0 es0 H0 s0 _ el0 eo=>?_⟩
 have few:=eo.few
 refine ⟨l0,es0,rfl,SqL.of el0,by lia,fun es pm up le hle=>?_⟩
 have ee:=i3 (H:=H0) (a:=le) (o:=.lst (es.map V.int))
 have s1:=s0.trans (i6 hle (.lst (es.map V.int)))
 generalize upd H0 le (.lst (es.map V.int)) = H1 at ee s1 ⊢
 have hes:∀ e ∈ es,0 ≤ e ∧ e < h.o * h.e:=fun e he=>eo.es e (pm.mem_iff.mp he)
 have hlen:es.length ≤ 12:=by rw [pm.length_eq]; exact few
 have hne:es ≠ []:=fun z=>eo.some (by rw [z] at pm; exact pm.symm.eq_nil)
 have hri:=a07 pm up eo.nd
 refine ⟨_,rfl,a,_,_,_,rfl,rfl,j5.seqT s1 hH,rfl,_,_,rfl,_,rfl,?_,?_,?_⟩
 ·show -(2 ^ 62) ≤ (if (6:Int) < h.m then 6 else h.m)
  split <;> lia
 ·show (if (6:Int) < h.m then 6 else h.m) < 2 ^ 62
  split <;> lia
 refine A4 (fun i σ H'=>j5 H H' ∧ H' le = some (.lst (es.map V.int)) ∧ ∃ c v5 v6 v7 v8,(0 ≤ c ∧ c < h.i * h.c) ∧ σ = [some (.ref a),some (.ref t),some (.int n),some (.int c),some (.ref le),v5,v6,v7,v8])
  ⟨s1,ee,_,none,none,none,none,hc,rfl⟩ ?_ ?_
 ·rintro i σ H' hi ⟨s2,ee2,c,v5,v6,v7,v8,hc,rfl⟩
  have hH2:=j5.seqT s2 hH
  refine ⟨_,rfl,_,_,rfl,rfl,.inr ⟨by decide,by decide⟩,_,_,rfl,rfl,(by show (0:Int) < 999979; decide),_,rfl,_,_,rfl,rfl,_,rfl,a,_,_,_,rfl,rfl,hH2,rfl,_,_,rfl,rfl,(by show 0 < h.m; lia),?_⟩
  have hkk:0 ≤ (n * 40692 % 999979 + (0 + (i:Int))) % h.m ∧ (n * 40692 % 999979 + (0 + (i:Int))) % h.m < h.m:=aF4 (by lia)
  refine ⟨_,rfl,_,rfl,_,rfl,_,rfl,a,le,h,c,(n * 40692 % 999979 + (0 + (i:Int))) % h.m,es,rfl,hH2,ok,.inr (SqL.of ee2),Nat.le_succ_of_le hlen,fun l1 as1 H3 s3 _ el1 tk1=>?_⟩
  refine ⟨_,rfl,(by show 2 ≤ sizeLine; decide),fun t2 ht2=>?_⟩
  have et2:=i3 (H:=H3) (a:=t2) (o:=.tup [.str "caller",.int c])
  have s4:=i6 ht2 (.tup [.str "caller",.int c])
  generalize upd H3 t2 (.tup [.str "caller",.int c]) = H4 at et2 s4 ⊢
  refine ⟨(by show 1 ≤ sizeLine; decide),fun l2 hl2=>?_⟩
  have el2:=i3 (H:=H4) (a:=l2) (o:=.lst [.ref t2])
  have s5:=i6 hl2 (.lst [.ref t2])
  generalize upd H4 l2 (.lst [.ref t2]) = H5 at el2 s5 ⊢
  have ln1:=Paired.length tk1
  have ln2:=aa9 h c es ((n * 40692 % 999979 + (0 + (i:Int))) % h.m)
  refine ⟨l1,l2,as1.map V.ref,[.ref t2],rfl,rfl,s5 _ _ (s4 _ _ el1),el2,Nat.le_of_lt (n5 (by rw [List.length_map,List.length_singleton]; lia)),fun l3 hl3=>?_⟩
  have el3:=i3 (H:=H5) (a:=l3) (o:=.lst (as1.map V.ref ++ [.ref t2]))
  have s6:=i6 hl3 (.lst (as1.map V.ref ++ [.ref t2]))
  generalize upd H5 l3 (.lst (as1.map V.ref ++ [.ref t2])) = H6 at el3 s6 ⊢
  have s46:=(s4.trans s5).trans s6
  have tk3:D1 H6 (as1 ++ [t2]) (A5 h c es ((n * 40692 % 999979 + (0 + (i:Int))) % h.m) ++ [af5 c]):=Paired.snoc (D1.same (fun b xs z=>s46 _ _ z) tk1) (s6 _ _ (s5 _ _ et2))
  have el3':H6 l3 = some (.lst ((as1 ++ [t2]).map V.ref)):=by rw [el3,List.map_append]; rfl
  have ee6:=s46 _ _ (s3 _ _ ee2)
  refine ⟨_,rfl,le,rfl,⟨_,SqL.of ee6⟩,?_⟩
  refine C9 (xs:=es.map V.int) (fun j acc σ H''=>j5 H6 H'' ∧ (∃ bs,acc = bs.map V.ref ∧ D1 H'' bs ((es.take j).map aP0)) ∧ ∃ v,σ = [v])
   ⟨j5.refl H6,⟨[],rfl,.nil⟩,none,rfl⟩ (Nat.le_of_lt (n5 (by rw [List.length_map]; lia))) (fun j acc σ H'' g=>?_) (fun j acc σ H'' _ g=>SqL.of (g.1 _ _ ee6)) ?_ ?_
  ·obtain ⟨_,⟨bs,rfl,hb⟩,_⟩:=g
   have:=Paired.length hb
   rw [List.length_map,this,List.length_map,List.length_take]
   lia
  ·rintro j y acc σ H'' hy ⟨g1,⟨bs,rfl,hb⟩,v,rfl⟩
   rw [List.getElem?_map] at hy
   obtain ⟨e,he,rfl⟩:=Option.map_eq_some_iff.mp hy
   refine ⟨_,rfl,(by show 2 ≤ sizeLine; decide),fun u hu=>⟨g1.trans (i6 hu _),⟨bs ++ [u],by rw [List.map_append]; rfl,?_⟩,_,rfl⟩⟩
   rw [List.take_succ,he,List.map_append]
   exact Paired.snoc (D1.same (fun b xs z=>i6 hu _ _ _ z) hb) i3
  rintro acc σ H7 ⟨s7,⟨bs,rfl,hb⟩,v,rfl⟩ l4 hl4
  rw [List.length_map,List.take_length] at hb
  have el4:=i3 (H:=H7) (a:=l4) (o:=.lst (bs.map V.ref))
  have s8:=i6 hl4 (.lst (bs.map V.ref))
  generalize upd H7 l4 (.lst (bs.map V.ref)) = H8 at el4 s8 ⊢
  have lb:=Paired.length hb
  rw [List.length_map] at lb
  refine ⟨l3,l4,(as1 ++ [t2]).map V.ref,bs.map V.ref,rfl,rfl,s8 _ _ (s7 _ _ el3'),el4,Nat.le_of_lt (n5 (by rw [List.length_map,List.length_map,List.length_append,List.length_singleton]; lia)),fun nl hnl=>?_⟩
  have en:=i3 (H:=H8) (a:=nl) (o:=.lst ((as1 ++ [t2]).map V.ref ++ bs.map V.ref))
  have s9:=i6 hnl (.lst ((as1 ++ [t2]).map V.ref ++ bs.map V.ref))
  generalize upd H8 nl (.lst ((as1 ++ [t2]).map V.ref ++ bs.map V.ref)) = H9 at en s9 ⊢
  rw [← List.map_append] at en
  have s79:=(s7.trans s8).trans s9
  have tn:D1 H9 ((as1 ++ [t2]) ++ bs) (M8 h ⟨c,es,((n * 40692 % 999979 + (0 + (i:Int))) % h.m)⟩):=W2 (D1.same (fun b xs z=>s9 _ _ (s8 _ _ z)) hb) (D1.same (fun b xs z=>s79 _ _ z) tk3)
  generalize (as1 ++ [t2]) ++ bs = nas at en tn
  have hIn:Call.In ⟨c,es,((n * 40692 % 999979 + (0 + (i:Int))) % h.m)⟩ h:=⟨hc,hri,hes,hne,hlen,hkk⟩
  have nl26:(M8 h ⟨c,es,((n * 40692 % 999979 + (0 + (i:Int))) % h.m)⟩).length ≤ 26:=aP1 hlen
  have nn:=Paired.length tn
  have s29:j5 H H9:=s2.trans ((s3.trans s46).trans s79)
  have ht9:=s29 _ _ ht
  have ee9:H9 le = some (.lst (es.map V.int)):=s79 _ _ ee6
  generalize hds:M8 h ⟨c,es,((n * 40692 % 999979 + (0 + (i:Int))) % h.m)⟩ = ds at tn nl26 nn
  refine ⟨_,rfl,nl,rfl,⟨_,SqL.of en⟩,?_⟩
  refine C9 (xs:=nas.map V.ref) (fun j acc σ H''=>H'' = H9 ∧ (∃ bs,acc = bs.map V.ref ∧ D1 H9 bs ((ds.take j).filter fun d=>(E9 kvs d).isSome)) ∧ ∃ v,σ = [v,some (.ref t)])
   ⟨rfl,⟨[],rfl,.nil⟩,none,rfl⟩ (Nat.le_of_lt (n5 (by rw [List.length_map]; lia))) (fun j acc σ H'' g=>?_) (fun j acc σ H'' _ g=>by rw [g.1]; exact SqL.of en) ?_ ?_
  ·obtain ⟨_,⟨bs,rfl,hb⟩,_⟩:=g
   have:=Paired.length hb
   rw [List.length_map,this]
   exact Nat.le_trans (List.length_filter_le _ _) (by rw [List.length_take]; lia)
  ·rintro j y acc σ H'' hy ⟨rfl,⟨bs,rfl,hb⟩,v,rfl⟩
   rw [List.getElem?_map] at hy
   obtain ⟨x,hx,rfl⟩:=Option.map_eq_some_iff.mp hy
   obtain ⟨d,hd1,hd2⟩:=m3 tn j x hx
   have step:(ds.take (j + 1)).filter (fun d=>(E9 kvs d).isSome) = (ds.take j).filter (fun d=>(E9 kvs d).isSome) ++ (if (E9 kvs d).isSome = true then [d] else []):=by
    rw [List.take_succ,hd1,List.filter_append]
    by_cases c:(E9 kvs d).isSome = true
    ·rw [if_pos c]
     simp [c]
    ·rw [if_neg c]
     simp [c]
   refine ⟨_,rfl,_,rfl,t,_,rfl,aS2.t ht9 hd2,_,rfl,?_⟩
   refine A7 (fun c=>?_) (fun c=>?_)
   ·refine ⟨_,rfl,rfl,⟨bs ++ [_],by rw [List.map_append]; rfl,?_⟩,_,rfl⟩
    rw [step,if_pos c]
    exact Paired.snoc hb hd2
   ·refine ⟨rfl,⟨bs,rfl,?_⟩,_,rfl⟩
    rw [step,if_neg c,List.append_nil]
    exact hb
  rintro acc σ H'' ⟨rfl,⟨bs,rfl,hb⟩,v,rfl⟩ l5 hl5
  rw [List.length_map,nn,List.take_length] at hb
  have el5:=i3 (H:=H'') (a:=l5) (o:=.lst (bs.map V.ref))
  have s10:=i6 hl5 (.lst (bs.map V.ref))
  generalize upd H'' l5 (.lst (bs.map V.ref)) = H10 at el5 s10 ⊢
  refine ⟨(by show 0 ≤ sizeLine; decide),fun o ho=>?_⟩
  have eo:=i3 (H:=H10) (a:=o) (o:=.lst [])
  have s11:=i6 ho (.lst [])
  generalize upd H10 o (.lst []) = H11 at eo s11 ⊢
  have sA:=s10.trans s11
  refine ⟨_,[],⟨l5,_,rfl,SqL.of (s11 _ _ el5),R9 (D1.same (fun b xs q=>sA _ _ q) hb)⟩,⟨o,[],rfl,SqL.of eo,.nil⟩,_,rfl,?_⟩
  have htA:=sA _ _ ht9
  have enA:=sA _ _ en
  have eeA:=sA _ _ ee9
  have tnA:=D1.same (fun b xs q=>sA _ _ q) tn
  have sB:j5 H H11:=s29.trans sA
  have hnt:nl ≠ t:=fun z=>by rw [z,htA] at enA; cases enA
  have hlt:le ≠ t:=fun z=>by rw [z,htA] at eeA; cases eeA
  refine A7 (fun cc=>?_) (fun cc=>?_)
  ·have c0:ds.filter (fun d=>(E9 kvs d).isSome) = []:=of_decide_eq_true cc
   have fr:∀ d ∈ ds,¬ (E9 kvs d).isSome = true:=fun d hd z=>List.filter_eq_nil_iff.mp c0 d hd z
   refine ⟨_,rfl,nl,rfl,⟨_,SqL.of enA⟩,?_⟩
   refine D8 (xs:=nas.map V.ref) (fun j σ H'=>W3 t H11 H' ∧ ∃ kvs',H' t = some (.dT kvs') ∧ kvs'.length ≤ kvs.length + j ∧ (∀ d,(E9 kvs' d).isSome = true ↔ (E9 kvs d).isSome = true ∨ d ∈ ds.take j) ∧ ∃ v8,σ = [some (.ref a),some (.ref t),some (.int n),some (.int c),some (.ref le),some (.int (0 + (i:Int))),some (.int ((n * 40692 % 999979 + (0 + (i:Int))) % h.m)),some (.ref nl),v8])
    ⟨fun _ _ _ z=>z,kvs,htA,Nat.le_refl _,(fun d=>by simp),_,rfl⟩ (fun j σ H' _ g=>SqL.of (g.1 _ _ hnt enA)) ?_ ?_
   ·rintro j y σ H' hy ⟨t1,kvs',t2,t7,t9,v8,rfl⟩
    rw [List.getElem?_map] at hy
    obtain ⟨x,hx,rfl⟩:=Option.map_eq_some_iff.mp hy
    obtain ⟨d,hd1,hd2⟩:=m3 tnA j x hx
    have hj:j < 26:=by
     have:=(List.getElem?_eq_some_iff.mp hd1).1
     lia
    replace hd2:H11 x = some (.tup (d.map kV)):=hd2
    have hxt:x ≠ t:=fun z=>by rw [z,htA] at hd2; cases hd2
    refine ⟨_,rfl,_,rfl,t,_,rfl,aT4.t t2 (t1 _ _ hxt hd2) (by show kvs'.length < 16777216; lia),?_⟩
    refine ⟨fun b u hb z=>by rw [j4 hb]; exact t1 b u hb z,_,i3,?_,fun d'=>?_,_,rfl⟩
    ·have:=T7 kvs' d (.bl true)
     lia
    ·rw [aQ6,List.take_succ,hd1,List.mem_append]
     by_cases c:d' = d
     ·rw [if_pos c]
      simp [c]
     ·rw [if_neg c,t9]
      simp [c]
   ·rintro σ H' ⟨t1,kvs',t2,t7,t9,v8,rfl⟩
    rw [List.length_map,nn] at t7 t9
    rw [List.take_length] at t9
    refine ⟨_,rfl,_,rfl,le,_,rfl,.inl ⟨SqL.of (t1 _ _ hlt eeA),fun e he=>?_⟩⟩
    refine ⟨_,rfl,(by show 3 ≤ sizeLine; decide),fun p hp=>?_⟩
    refine q p ⟨c,es,(n * 40692 % 999979 + (0 + (i:Int))) % h.m⟩ kvs' _ (fun b u hb z=>?_) ?_ ⟨e,?_,i3⟩ hIn (by rw [hds]; exact fr) (by rw [hds]; exact t9) (by lia)
    ·have h1:=t1 b u hb (sB _ _ z)
     exact i6 hp _ _ _ (i6 he _ _ _ h1)
    ·exact i6 hp _ _ _ (i6 he _ _ _ t2)
    ·exact i6 hp _ _ _ i3
  ·exact ⟨sB,eeA,c,_,_,_,_,hc,rfl⟩
 ·rintro σ H' ⟨s2,ee2,c,v5,v6,v7,v8,hc,rfl⟩
  exact qN H' s2
end
def X7 (h:Hall) (k k':Call):Prop:=∀ d ∈ M8 h k,¬ d ∈ M8 h k'
theorem X7.symm {h:Hall} {k k':Call} (f:X7 h k k'):X7 h k' k:=fun d h1 h2=>f d h2 h1
theorem X7.caller {h:Hall} {k k':Call} (f:X7 h k k'):k.c ≠ k'.c:=fun z=>f (af5 k.c) (V6.mpr (.inr (.inr (.inl rfl)))) (V6.mpr (.inr (.inr (.inl (by rw [z])))))
def m4 (H:Hp) (as:List Addr) (ks:List Call):Prop:=Paired (B4 H) as ks
theorem m4.same {H H':Hp} {as:List Addr} {ks:List Call} (s:∀ b xs,H b = some (.tup xs) → H' b = some (.tup xs)) (h:m4 H as ks):m4 H' as ks:=by
 unfold m4 at h ⊢
 exact F9 h fun a d _ e=>B4.same s e
theorem T8 {α β:Type} {R:α → β → Prop} {as:List α} {ds:List β} (a0:α) (d0:β) (h:Paired R as ds):∀ (is:List Nat),(∀ i ∈ is,i < ds.length) → Paired R (is.map fun i=>as.getD i a0) (is.map fun i=>ds.getD i d0)
 | [],_=>.nil
 | i :: t,hin=>by
  refine .cons ?_ (T8 a0 d0 h t fun j hj=>hin j (List.mem_cons_of_mem _ hj))
  have hi:=hin i (List.mem_cons_self ..)
  have hl:as.length = ds.length:=Paired.length h
  have ea:as[i]? = some (as[i]'(by lia)):=List.getElem?_eq_getElem (by lia)
  obtain ⟨d,e2,hs⟩:=m3 h i _ ea
  show R (as.getD i a0) (ds.getD i d0)
  rw [show as.getD i a0 = as[i]'(by lia) by rw [List.getD,ea]; rfl,show ds.getD i d0 = d by rw [List.getD,e2]; rfl]
  exact hs
theorem T6 {K:PySem.W.Frag} {H:Hp}:∀ {as:List Addr} {ks:List Call},m4 H as ks → ∃ its:List (List V),ab0 K H as its ∧ Paired (fun k xs=>∃ e,xs = [V.int k.c,V.ref e,V.int k.k]) ks its
 | _,_,.nil=>⟨[],.nil,.nil⟩
 | _,_,.cons (b:=k) ⟨e,h1,h2⟩ t=>by
  obtain ⟨its,q1,q2⟩:=T6 t
  exact ⟨[V.int k.c,V.ref e,V.int k.k] :: its,.cons ⟨SqT.of h2,_,_,rfl⟩ q1,.cons ⟨e,rfl⟩ q2⟩
def aI1 (K:PySem.W.Frag):Sp:=fun vs H Q _=>∃ (a b:Addr) (h:Hall) (ns:List Int),vs = [.ref a,.ref b] ∧ SqT K H a (h.row.map V.int) ∧ h.Ok ∧ SqL K H b (ns.map V.int) ∧ ns.length ≤ 63 ∧
 ∀ (l:Addr) (as:List Addr) (ks:List Call) (H':Hp),j5 H H' → H' l = some (.lst (as.map V.ref)) → m4 H' as ks → (∀ k ∈ ks,k.In h) → ks.Pairwise (fun k k'=>k.c < k'.c) → ks.Pairwise (X7 h) → ks.length ≤ ns.length → Q (.ref l) H'
section
variable {P:Program} {w:World} {K:PySem.W.Frag} {mg:Str → Option Value} {base:Heap}
theorem F3:FnScope ["_law_hall_here","_law_cells","_law_taken","_law_calls_here","_law_at","_law_call"] ["_law_hall_here","_law_cells"] (i7 (top 45)):=⟨rfl,rfl,rfl,by decide +kernel,rfl,by decide +kernel,by decide +kernel⟩
theorem aR8 (T:Txt K mg) (C__law_number:Callee P w K mg base 1 "_law_number" ["_law_cell","_law_at"] aQ3) (C__law_try:Callee P w K mg base 2 "_law_try" ["_law_hall_here","_law_taken","_law_number_here"] (a63 K)) (D:Def K mg "_law_calls" (top 45) ["_law_hall_here","_law_cells"]):Callee P w K mg base 3 "_law_calls" ["_law_hall_here","_law_cells"] (aI1 K):=by
 refine D.ok F3 (fun vs H Q E h=>?_) (fun f cdv A outer s H vs Q E hr h=>?_)
 ·obtain ⟨a,b,h,ns,rfl,_⟩:=h
  rfl
 obtain ⟨a,b,h,ns,rfl,hH,ok,hB,h63,q⟩:=h
 refine ⟨_,(i4 (j7 (i:=2) F3.nd rfl (Or.inl rfl) aQ1)
  (i4 (j7 (i:=3) F3.nd rfl (Or.inl rfl) (q9 d9))
  (i4 (A3 PassesOwn.never rfl (z9 rfl T.m_range (b8 (i8 (o7 K) rfl T.m_len boot_len (b8 (pv 1) d9 b9)) d9 r9)) (o5 (i:=4) F3.nd rfl (Or.inl rfl))
  (i4 (j7 (i:=5) F3.nd rfl (Or.inl rfl) (r6 C__law_try hr rfl (b8 (pv 0) (b8 (pv 2) (b8 (r6 C__law_number hr rfl (b8 (j3 (n9 K) (pv 1) (pv 4) (fun _ _=>rfl)) (b8 (pv 4) d9 b9) x6)) d9 r9) b9) b9)))
  (i5 (m8 (j8 V4 (pv 5) y6 (m7 _)) (i5 (D2 (K8 K PySem.F.plainAttrs_list PySem.F.slot_list_append PySem.F.type_list_append B2 (pv 3) (b8 (pv 5) d9 b9)))) j1))))
  (i5 (i9 (i8 (Q1 K) rfl T.m_sorted boot_sorted (b8 (pv 3) d9 b9))))))),?_⟩
 refine fun hd hhd=>?_
 have ed:=i3 (H:=H) (a:=hd) (o:=.dT [])
 have s1:=i6 hhd (.dT [])
 generalize upd H hd (.dT []) = H1 at ed s1 ⊢
 refine ⟨(by show 0 ≤ sizeLine; decide),fun l hl=>?_⟩
 have el:=i3 (H:=H1) (a:=l) (o:=.lst [])
 have s2:=s1.trans (i6 hl (.lst []))
 have ed2:=i6 hl (.lst []) _ _ ed
 generalize upd H1 l (.lst []) = H2 at el s2 ed2 ⊢
 have hlH:H l = none:=s1.free hl
 have ln:(ns.map V.int).length = ns.length:=List.length_map _
 refine ⟨_,rfl,b,_,rfl,.inl (s2.seq hB),_,rfl,by lia,by lia,?_⟩
 rw [Int.toNat_natCast,ln]
 refine A4 (fun i σ H'=>j5 H H' ∧ ∃ kvs as ks,H' hd = some (.dT kvs) ∧ H' l = some (.lst (as.map V.ref)) ∧ m4 H' as ks ∧ (∀ k ∈ ks,k.In h) ∧ ks.Pairwise (X7 h) ∧ ks.length ≤ i ∧ kvs.length ≤ 26 * i ∧ (∀ d,(E9 kvs d).isSome = true ↔ ∃ k ∈ ks,d ∈ M8 h k) ∧
   ∃ v4 v5,σ = [some (.ref a),some (.ref b),some (.ref hd),some (.ref l),v4,v5])
  ⟨s2,[],[],[],ed2,el,.nil,(fun k hk=>nomatch hk),List.Pairwise.nil,Nat.le_refl _,Nat.le_refl _,(fun d=>by constructor <;> intro z <;> first | (obtain ⟨k,hk,_⟩:=z; cases hk) | cases z),none,none,rfl⟩ ?_ ?_
 ·rintro i σ H' hi ⟨s3,kvs,as,ks,d1,d2,d3,d4,d5,d6,d7,d8,v4,v5,rfl⟩
  rw [Int.zero_add]
  refine ⟨_,rfl,_,rfl,_,rfl,_,rfl,b,_,_,_,rfl,rfl,s3.seq hB,aE2 hi,_,rfl,_,i,rfl,by lia,fun n hn=>?_⟩
  have hl2:l ≠ hd:=fun q=>by rw [q,d1] at d2; cases d2
  refine ⟨a,hd,h,n,kvs,rfl,j5.seqT s3 hH,ok,d1,by lia,fun H4 s4=>?_,fun p k kvs' H4 s4 d1' hc hk fr t9 t7=>?_⟩
  ·refine ⟨_,rfl,rfl,_,rfl,z6 ?_⟩
   exact ⟨s3.trans s4,kvs,as,ks,s4 _ _ d1,s4 _ _ d2,m4.same (fun b xs q=>s4 _ _ q) d3,d4,d5,by lia,by lia,d8,_,_,rfl⟩
  ·have tp:∀ b xs,H' b = some (.tup xs) → H4 b = some (.tup xs):=fun b xs z=>s4 _ _ (fun y=>by rw [y,d1] at z; cases z) z
   have el4:=s4 _ _ hl2 d2
   refine ⟨_,rfl,rfl,_,rfl,C3 ?_⟩
   refine ⟨_,rfl,.inl ⟨rfl,_,SqL.of el4⟩,_,rfl,l,as.map V.ref,.ref p,rfl,rfl,el4,n5 (by
    have:=Paired.length d3
    rw [List.length_map,this]; lia),?_⟩
   have t8:∀ b xs,H4 b = some (.tup xs) → upd H4 l (.lst (as.map V.ref ++ [.ref p])) b = some (.tup xs):=fun b xs q=>by
    have:b ≠ l:=fun z=>by rw [z,el4] at q; cases q
    rw [j4 this]; exact q
   refine ⟨fun b u z=>?_,kvs',as ++ [p],ks ++ [k],by rw [j4 (Ne.symm hl2)]; exact d1',by rw [i3,List.map_append]; rfl,Paired.snoc (m4.same (fun b xs q=>t8 _ _ (tp _ _ q)) d3) (B4.same t8 hc),fun k' hk'=>?_,?_,by rw [List.length_append,List.length_singleton]; lia,by lia,fun d=>?_,_,_,rfl⟩
   ·have h1:b ≠ l:=o4 z hlH
    have h2:b ≠ hd:=o4 z hhd
    rw [j4 h1]
    exact s4 _ _ h2 (s3 _ _ z)
   ·rcases List.mem_append.mp hk' with q | q
    ·exact d4 k' q
    ·rw [List.mem_singleton] at q
     rw [q]; exact hk
   ·rw [List.pairwise_append]
    refine ⟨d5,List.pairwise_singleton _ _,fun k1 hk1 k2 hk2=>?_⟩
    rw [List.mem_singleton] at hk2
    subst hk2
    intro d g1 g2
    exact fr d g2 ((d8 d).mpr ⟨k1,hk1,g1⟩)
   ·rw [t9,d8]
    constructor
    ·rintro (⟨k1,g1,g2⟩ | g)
     ·exact ⟨k1,List.mem_append_left _ g1,g2⟩
     ·exact ⟨k,List.mem_append_right _ (List.mem_singleton.mpr rfl),g⟩
    ·rintro ⟨k1,g1,g2⟩
     rcases List.mem_append.mp g1 with g | g
     ·exact .inl ⟨k1,g,g2⟩
     ·rw [List.mem_singleton] at g
      rw [g] at g2
      exact .inr g2
 ·rintro σ H' ⟨s3,kvs,as,ks,d1,d2,d3,d4,d5,d6,d7,d8,v4,v5,rfl⟩
  obtain ⟨its,t1,t2⟩:=T6 (K:=K) d3
  have la:=Paired.length d3
  have lk:=Paired.length t2
  have gd:∀ (i:Nat) k,ks[i]? = some k → ks.getD i ⟨0,[],0⟩ = k:=fun i k e=>by rw [List.getD,e]; rfl
  have uniq:∀ (i j:Nat) k k',ks[i]? = some k → ks[j]? = some k' → k.c = k'.c → i = j:=fun i j k k' e1 e2 hc=>by
   rcases Nat.lt_trichotomy i j with hij | hij | hij
   ·obtain ⟨q1,z1⟩:=List.getElem?_eq_some_iff.mp e1
    obtain ⟨q2,z2⟩:=List.getElem?_eq_some_iff.mp e2
    have:=(List.pairwise_iff_getElem.mp d5) i j q1 q2 hij
    rw [z1,z2] at this
    exact absurd hc this.caller
   ·exact hij
   ·obtain ⟨q1,z1⟩:=List.getElem?_eq_some_iff.mp e1
    obtain ⟨q2,z2⟩:=List.getElem?_eq_some_iff.mp e2
    have:=(List.pairwise_iff_getElem.mp d5) j i q2 q1 hij
    rw [z1,z2] at this
    exact absurd hc.symm this.caller
  have back:∀ (i:Nat) x,its[i]? = some x → ∃ k e,ks[i]? = some k ∧ x = [V.int k.c,V.ref e,V.int k.k]:=fun i x hx=>by
   have hi:=(List.getElem?_eq_some_iff.mp hx).1
   have ek:ks[i]? = some (ks[i]'(by lia)):=List.getElem?_eq_getElem (by lia)
   obtain ⟨x',e1,e,e2⟩:=m3 t2 i _ ek
   rw [hx] at e1
   cases e1
   exact ⟨_,e,ek,e2⟩
  refine ⟨_,rfl,l,as,its,fun i=>(ks.getD i ⟨0,[],0⟩).c,rfl,SqL.of d2,t1,by lia,fun i j x y hx hy=>?_,fun pq pm up l2 hl2=>?_⟩
  ·obtain ⟨k,e,e1,rfl⟩:=back i x hx
   obtain ⟨k',e',e2,rfl⟩:=back j y hy
   show (if k.c = k'.c then Q0 [V.ref e,V.int k.k] [V.ref e',V.int k'.k] else some (decide (k.c < k'.c))) = some (decide ((ks.getD i ⟨0,[],0⟩).c < (ks.getD j ⟨0,[],0⟩).c))
   rw [gd i k e1,gd j k' e2]
   by_cases c:k.c = k'.c
   ·obtain rfl:=uniq i j k k' e1 e2 c
    rw [hx] at hy
    rw [e1] at e2
    cases e2
    cases hy
    rw [if_pos rfl]
    show (if e = e then (if k.k = k.k then Q0 [] [] else some (decide (k.k < k.k))) else none) = _
    rw [if_pos rfl,if_pos rfl,decide_eq_false (Int.lt_irrefl _)]
    rfl
   ·rw [if_neg c]
  ·rw [la] at pm up
   obtain ⟨g1,g2⟩:=az4 (xs:=ks) pm up ⟨0,[],0⟩ Call.c fun i _=>rfl
   have hin:∀ i ∈ pq.toList,i < ks.length:=fun i hi=>by
    have:=(Array.Perm.mem_iff pm (a:=i)).mp (by simpa using hi)
    simpa using this
   have cs:=T8 0 ⟨0,[],0⟩ d3 pq.toList hin
   generalize (pq.toList.map fun i=>ks.getD i ⟨0,[],0⟩) = ks' at g1 g2 cs
   have fr':ks'.Pairwise (X7 h):=(List.Perm.pairwise_iff (fun q=>X7.symm q) g1).mpr d5
   refine q l2 _ ks' _ (s3.trans (i6 hl2 _)) i3 (m4.same (fun b xs q=>i6 hl2 _ _ _ q) cs) (fun k hk=>d4 k (g1.mem_iff.mp hk)) ?_ fr' (by rw [g1.length_eq]; lia)
   exact (g2.and fr').imp fun {k k'} ⟨q1,q2⟩=>by
    have:=q2.caller
    lia
end
def P0 (x y:V):Prop:=(x = .non ∧ y = .non) ∨ ∃ i:Int,x = .int i ∧ y = .int i
def D0 (H:Hp):Nat → V → V → Prop
 | 0,x,y=>P0 x y
 | n + 1,x,y=>P0 x y ∨ ∃ (p q:Addr) (xs ys:List V),x = .ref p ∧ y = .ref q ∧ ((H p = some (.lst xs) ∧ H q = some (.lst ys)) ∨ (H p = some (.tup xs) ∧ H q = some (.tup ys))) ∧ Paired (D0 H n) xs ys ∧ xs.length ≤ 1000
def ae8 (n:Nat):Sp:=fun vs H Q _=>∃ x y,vs = [x,y] ∧ D0 H n x y ∧ Q (.bl true) H
theorem P0.at {H:Hp} {n:Nat} {x y:V} (h:P0 x y):D0 H n x y:=by
 cases n with
 | zero=>exact h
 | succ n=>exact .inl h
theorem R7 {H:Hp} {n:Nat}:∀ ns:List Int,Paired (D0 H n) (ns.map V.int) (ns.map V.int)
 | []=>.nil
 | i :: t=>.cons (P0.at (.inr ⟨i,rfl,rfl⟩)) (R7 t)
section
variable {P:Program} {w:World} {K:PySem.W.Frag} {mg:Str → Option Value} {base:Heap}
theorem Z7 {x:Str} {st:Stmt} {ps:List Str} (D:Def K mg x st ps) (k:Nat):Callee P w K mg base k x ps (fun _ _ _ _=>False):=by
 obtain ⟨f,fd,F,b,m⟩:=D.ex
 exact ⟨f,fd,⟨fun _ _ _ _ h=>h.elim,fun _ _ _ _ _ _ _ _ _ _ _ _ _ h=>h.elim⟩,b,F.kp,m⟩
theorem L5:FnScope ["_law_found","_law_due_here","_law_k"] ["_law_found","_law_due_here"] (i7 (top 46)):=⟨rfl,rfl,rfl,by decide +kernel,rfl,by decide +kernel,by decide +kernel⟩
theorem aj8 (T:Txt K mg) (n:Nat) (sp:Sp) (C__law_alike:Callee P w K mg base n "_law_alike" ["_law_found","_law_due_here"] sp) (D:Def K mg "_law_alike" (top 46) ["_law_found","_law_due_here"]) (hsp:∀ m,n = m + 1 → sp = ae8 m):Callee P w K mg base (n+1) "_law_alike" ["_law_found","_law_due_here"] (ae8 n):=by
 refine D.ok L5 (fun vs H Q E h=>?_) (fun f cdv A outer s H vs Q E hr h=>?_)
 ·obtain ⟨x,y,rfl,_⟩:=h
  rfl
 obtain ⟨x,y,rfl,hA,q⟩:=h
 refine ⟨_,(i4 (m8 (j8 Q7 (pv 1) y6 (m7 _)) (i5 (i9 (J8 Q7 (pv 0) y6 (m7 _)))) j1)
  (i4 (m8 (m9 K (i8 (j6 K) rfl T.m_isinstance boot_isinstance (b8 (pv 1) (b8 (n6 (v:=.ty "int") rfl T.m_int boot_int rfl) d9 b9) b9)) (fun _=>rfl)) (i5 (i9 (P9 (i8 (j6 K) rfl T.m_isinstance boot_isinstance (b8 (pv 0) (b8 (n6 (v:=.ty "int") rfl T.m_int boot_int rfl) d9 b9) b9)) (P9 (Y4 (i8 (j6 K) rfl T.m_isinstance boot_isinstance (b8 (pv 0) (b8 (n6 (v:=.ty "bool") rfl T.m_bool boot_bool rfl) d9 b9) b9))) (X6 (J8 C4 (pv 0) (pv 1) (m7 _))))))) j1)
  (i4 (m8 (m9 K (i8 (j6 K) rfl T.m_isinstance boot_isinstance (b8 (pv 1) (b8 (n6 (v:=.ty "tuple") rfl T.m_tuple boot_tuple rfl) d9 b9) b9)) (fun _=>rfl)) (i5 (m8 (y0 (m9 K (i8 (j6 K) rfl T.m_isinstance boot_isinstance (b8 (pv 0) (b8 (n6 (v:=.ty "tuple") rfl T.m_tuple boot_tuple rfl) d9 b9) b9)) (fun _=>rfl))) (i5 (i9 z5)) j1)) (i5 (m8 (y0 (m9 K (i8 (j6 K) rfl T.m_isinstance boot_isinstance (b8 (pv 0) (b8 (n6 (v:=.ty "list") rfl T.m_list boot_list rfl) d9 b9) b9)) (fun _=>rfl))) (i5 (i9 z5)) j1)))
  (i4 (m8 (j8 al9 (i8 (o7 K) rfl T.m_len boot_len (b8 (pv 0) d9 b9)) (i8 (o7 K) rfl T.m_len boot_len (b8 (pv 1) d9 b9)) (m7 _)) (i5 (i9 z5)) j1)
  (i4 (A3 PassesOwn.never rfl (z9 rfl T.m_range (b8 (i8 (o7 K) rfl T.m_len boot_len (b8 (pv 1) d9 b9)) d9 r9)) (o5 (i:=2) L5.nd rfl (Or.inl rfl))
  (i5 (m8 (y0 (m9 K (r6 C__law_alike hr rfl (b8 (j3 ai9 (pv 0) (pv 2) (fun _ _=>rfl)) (b8 (j3 ai9 (pv 1) (pv 2) (fun _ _=>rfl)) d9 x6) x6) (Nat.le_refl _)) (fun _=>rfl))) (i5 (i9 z5)) j1)))
  (i5 (i9 z5))))))),?_⟩
 have hB:P0 x y ∨ ∃ m,n = m + 1 ∧ ∃ (p q:Addr) (xs ys:List V),x = .ref p ∧ y = .ref q ∧ ((H p = some (.lst xs) ∧ H q = some (.lst ys)) ∨ (H p = some (.tup xs) ∧ H q = some (.tup ys))) ∧ Paired (D0 H m) xs ys ∧ xs.length ≤ 1000:=by
  cases n with
  | zero=>exact .inl hA
  | succ m=>exact hA.imp id fun z=>⟨m,rfl,z⟩
 rcases hB with (⟨rfl,rfl⟩ | ⟨i,rfl,rfl⟩) | ⟨m,rfl,p,r,xs,ys,rfl,rfl,hk,hp,h1000⟩
 ·exact ⟨_,rfl,rfl,_,rfl,C3 ⟨_,rfl,rfl,q⟩⟩
 ·refine ⟨_,rfl,rfl,_,rfl,z6 ?_⟩
  refine ⟨_,rfl,_,_,_,true,rfl,.int i,M3,true,rfl,C3 ?_⟩
  refine ⟨_,rfl,_,_,_,true,rfl,.int i,M3,_,rfl,C3 ?_⟩
  refine ⟨_,rfl,_,_,_,false,rfl,.int i,Q8,_,rfl,_,rfl,C3 ?_⟩
  refine ⟨_,rfl,_,rfl,rfl,?_⟩
  rw [decide_eq_true rfl]
  exact q
 ·obtain rfl:=hsp m rfl
  have ln:=Paired.length hp
  refine ⟨_,rfl,rfl,_,rfl,z6 ?_⟩
  rcases hk with ⟨k1,k2⟩ | ⟨k1,k2⟩
  ·refine ⟨_,rfl,_,_,_,false,rfl,.lst k2,S9,false,rfl,z6 ?_⟩
   refine ⟨_,rfl,_,_,_,false,rfl,.lst k2,U2,false,rfl,z6 ?_⟩
   refine ⟨_,rfl,_,_,_,true,rfl,.lst k1,P6,true,rfl,z6 ?_⟩
   refine ⟨_,rfl,p,_,rfl,.inl (SqL.of k1),_,rfl,r,_,rfl,.inl (SqL.of k2),rfl,_,rfl,ax3 (by simp [ln]) ?_⟩
   refine ⟨_,rfl,r,_,rfl,.inl (SqL.of k2),_,rfl,by lia,by lia,?_⟩
   rw [Int.toNat_natCast]
   refine A4 (fun i σ H'=>H' = H ∧ ∃ v,σ = [some (.ref p),some (.ref r),v]) ⟨rfl,_,rfl⟩ ?_ ?_
   ·rintro i σ H' hi ⟨rfl,v,rfl⟩
    rw [Int.zero_add]
    have ex:xs[i]? = some (xs[i]'(by lia)):=List.getElem?_eq_getElem (by lia)
    obtain ⟨y,ey,al⟩:=m3 hp i _ ex
    refine ⟨_,rfl,_,rfl,.inl ⟨p,_,_,_,rfl,rfl,SqL.of k1,z8 ex,_,rfl,_,rfl,.inl ⟨r,_,_,_,rfl,rfl,SqL.of k2,z8 ey,_,_,rfl,al,_,rfl,z6 ⟨rfl,_,rfl⟩⟩⟩⟩
   ·rintro σ H' ⟨rfl,v,rfl⟩
    exact q
  ·refine ⟨_,rfl,_,_,_,false,rfl,.tup k2,ad6,false,rfl,z6 ?_⟩
   refine ⟨_,rfl,_,_,_,true,rfl,.tup k2,L9,true,rfl,C3 ?_⟩
   refine ⟨_,rfl,_,_,_,true,rfl,.tup k1,L9,true,rfl,z6 ?_⟩
   refine ⟨_,rfl,p,_,rfl,.inr (SqT.of k1),_,rfl,r,_,rfl,.inr (SqT.of k2),rfl,_,rfl,ax3 (by simp [ln]) ?_⟩
   refine ⟨_,rfl,r,_,rfl,.inr (SqT.of k2),_,rfl,by lia,by lia,?_⟩
   rw [Int.toNat_natCast]
   refine A4 (fun i σ H'=>H' = H ∧ ∃ v,σ = [some (.ref p),some (.ref r),v]) ⟨rfl,_,rfl⟩ ?_ ?_
   ·rintro i σ H' hi ⟨rfl,v,rfl⟩
    rw [Int.zero_add]
    have ex:xs[i]? = some (xs[i]'(by lia)):=List.getElem?_eq_getElem (by lia)
    obtain ⟨y,ey,al⟩:=m3 hp i _ ex
    refine ⟨_,rfl,_,rfl,.inr (.inl ⟨p,_,_,_,rfl,rfl,SqT.of k1,z8 ex,_,rfl,_,rfl,.inr (.inl ⟨r,_,_,_,rfl,rfl,SqT.of k2,z8 ey,_,_,rfl,al,_,rfl,z6 ⟨rfl,_,rfl⟩⟩)⟩)⟩
   ·rintro σ H' ⟨rfl,v,rfl⟩
    exact q
theorem aw9 (T:Txt K mg) (D:Def K mg "_law_alike" (top 46) ["_law_found","_law_due_here"]):∀ n,Callee P w K mg base (n+1) "_law_alike" ["_law_found","_law_due_here"] (ae8 n)
 | 0=>aj8 T 0 _ (Z7 D 0) D fun m h=>nomatch h
 | n + 1=>aj8 T (n + 1) _ (aw9 T D n) D fun m h=>by cases h; rfl
end
def o8 (h:Hall) (es:List Int):List Int:=A0 (es.map fun e=>e / h.e)
def aa1 (K:PySem.W.Frag) (d:Hall → Int):Sp:=fun vs H Q _=>∃ (a:Addr) (h:Hall) (x:Int),vs = [.ref a,.int x] ∧ SqT K H a (h.row.map V.int) ∧ h.Ok ∧ ∀ p,H p = none → Q (.ref p) (upd H p (.tup [.int (x / d h),.int (x % d h)]))
def at4 (K:PySem.W.Frag):Sp:=fun vs H Q _=>∃ (a p:Addr) (h:Hall) (es:List Int),vs = [.ref a,.ref p] ∧ SqT K H a (h.row.map V.int) ∧ h.Ok ∧ (SqT K H p (es.map V.int) ∨ SqL K H p (es.map V.int)) ∧ es.length < 64 ∧ ∀ (l:Addr) (H':Hp),j5 H H' → H l = none → H' l = some (.lst ((o8 h es).map V.int)) → Q (.ref l) H'
section
variable {P:Program} {w:World} {K:PySem.W.Frag} {mg:Str → Option Value} {base:Heap}
theorem aw4:FnScope ["hall","caller"] ["hall","caller"] (i7 (top 13)):=⟨rfl,rfl,rfl,by decide +kernel,rfl,by decide +kernel,by decide +kernel⟩
theorem aA7 (T:Txt K mg) (D:Def K mg "place_in" (top 13) ["hall","caller"]):Callee P w K mg base 1 "place_in" ["hall","caller"] (aa1 K Hall.c):=by
 refine D.ok aw4 (fun vs H Q E h=>?_) (fun f cdv A outer s H vs Q E hr h=>?_)
 ·obtain ⟨a,h,x,rfl,_⟩:=h
  rfl
 obtain ⟨a,h,x,rfl,hS,ok,q⟩:=h
 have b:=ok.c
 refine ⟨_,(i5 (i9 (i8 ad0 rfl T.m_divmod boot_divmod (b8 (pv 1) (b8 (j3 (j0 K) (pv 0) i0 (fun _ _=>rfl)) d9 x6) b9)))),?_⟩
 exact ⟨_,rfl,_,rfl,a,_,_,_,rfl,rfl,hS,rfl,_,_,rfl,⟨by lia,by lia⟩,q⟩
theorem ar9:FnScope ["hall","end"] ["hall","end"] (i7 (top 14)):=⟨rfl,rfl,rfl,by decide +kernel,rfl,by decide +kernel,by decide +kernel⟩
theorem aq5 (T:Txt K mg) (D:Def K mg "place_out" (top 14) ["hall","end"]):Callee P w K mg base 1 "place_out" ["hall","end"] (aa1 K Hall.e):=by
 refine D.ok ar9 (fun vs H Q E h=>?_) (fun f cdv A outer s H vs Q E hr h=>?_)
 ·obtain ⟨a,h,x,rfl,_⟩:=h
  rfl
 obtain ⟨a,h,x,rfl,hS,ok,q⟩:=h
 have b:=ok.e
 refine ⟨_,(i5 (i9 (i8 ad0 rfl T.m_divmod boot_divmod (b8 (pv 1) (b8 (j3 (j0 K) (pv 0) i0 (fun _ _=>rfl)) d9 x6) b9)))),?_⟩
 exact ⟨_,rfl,_,rfl,a,_,_,_,rfl,rfl,hS,rfl,_,_,rfl,⟨by lia,by lia⟩,q⟩
theorem aB2:FnScope ["hall","ends"] ["hall","ends"] (i7 (top 16)):=⟨rfl,rfl,rfl,by decide +kernel,rfl,by decide +kernel,by decide +kernel⟩
theorem aR5 (T:Txt K mg) (C_place_out:Callee P w K mg base 1 "place_out" ["hall","end"] (aa1 K Hall.e)) (D:Def K mg "racks_of" (top 16) ["hall","ends"]):Callee P w K mg base 2 "racks_of" ["hall","ends"] (at4 K):=by
 refine D.ok aB2 (fun vs H Q E h=>?_) (fun f cdv A outer s H vs Q E hr h=>?_)
 ·obtain ⟨a,p,h,es,rfl,_⟩:=h
  rfl
 obtain ⟨a,p,h,es,rfl,hH,ok,hS,h64,q⟩:=h
 have hl:(es.map V.int).length = es.length:=List.length_map _
 have sz:(es.map V.int).length ≤ sizeLine:=by rw [hl]; exact Nat.le_of_lt (n5 (by lia))
 have fin:∀ (H':Hp),j5 H H' → ∀ l,H' l = none → a64 K P w [.ref l] (upd H' l (.lst ((es.take (es.map V.int).length).map fun e=>V.int (e / h.e)))) fun x H1=>ay1 P w [x] H1 Q:=fun H' s1 l hl'=>by
  rw [hl,List.take_length]
  have e1:upd H' l (.lst (es.map fun e=>V.int (e / h.e))) l = some (.lst ((es.map fun e=>e / h.e).map V.int)):=by rw [i3,List.map_map]; rfl
  have s2:=s1.trans (i6 hl' (.lst (es.map fun e=>V.int (e / h.e))))
  generalize upd H' l (.lst (es.map fun e=>V.int (e / h.e))) = H2 at e1 s2 ⊢
  refine ⟨l,_,rfl,SqL.of e1,by rw [List.length_map]; lia,fun l2 hl2=>?_⟩
  refine ⟨l2,_,rfl,i3,by rw [List.length_map]; lia,fun l3 hl3=>?_⟩
  exact q l3 _ ((s2.trans (i6 hl2 _)).trans (i6 hl3 _)) ((s2.trans (i6 hl2 _)).free hl3) i3
 rcases hS with hS | hS
 ·refine ⟨_,(i5 (i9 (i8 (W1 P w rfl) rfl T.m_sorted boot_sorted (b8 (B1 (ac5 K P w rfl) rfl T.m_set boot_set (b8 (F6 (own:=["end"]) (fr:=[(0,"hall")]) rfl (show CompScope ["hall","ends"] (i7 (top 16)) _ _ _ from ⟨rfl,by decide +kernel,by decide +kernel,by decide +kernel,by decide +kernel⟩) (au1 K (pv 1)) (fun cl C s H ex=>⟨(o5 (i:=0) (show (["end","hall"]:List Str).Nodup from by decide +kernel) rfl (Or.inl rfl) (Or.inr rfl)),N0,(j3 (j0 K) (r6 C_place_out hr rfl (b8 (pv 1) (b8 (pv 0) d9 b9) b9)) i0 (fun _ _=>rfl))⟩)) d9 V5)) d9 r9)))),?_⟩
  refine ⟨_,rfl,p,rfl,⟨_,hS⟩,?_⟩
  refine az0 (xs:=es.map V.int) (fun i acc σ H'=>j5 H H' ∧ acc = (es.take i).map (fun e=>V.int (e / h.e)) ∧ ∃ v,σ = [v,some (.ref a)])
   ⟨j5.refl H,rfl,none,rfl⟩ sz (fun i acc σ H' g=>?_) (fun i acc σ H' _ g=>j5.seqT g.1 hS) ?_ ?_
  ·obtain ⟨_,rfl,_⟩:=g
   rw [List.length_map,List.length_take]
   lia
  ·rintro i y acc σ H' hy ⟨s1,rfl,v,rfl⟩
   rw [List.getElem?_map] at hy
   obtain ⟨e,he,rfl⟩:=Option.map_eq_some_iff.mp hy
   refine ⟨_,rfl,_,rfl,a,h,e,rfl,j5.seqT s1 hH,ok,fun r hr2=>⟨r,_,_,_,rfl,rfl,SqT.of i3,rfl,s1.trans (i6 hr2 _),?_,_,rfl⟩⟩
   rw [List.take_succ,he,List.map_append]
   rfl
  ·rintro acc σ H' ⟨s1,rfl,v,rfl⟩ l hl'
   exact fin H' s1 l hl'
 ·refine ⟨_,(i5 (i9 (i8 (W1 P w rfl) rfl T.m_sorted boot_sorted (b8 (B1 (ac5 K P w rfl) rfl T.m_set boot_set (b8 (F6 (own:=["end"]) (fr:=[(0,"hall")]) rfl (show CompScope ["hall","ends"] (i7 (top 16)) _ _ _ from ⟨rfl,by decide +kernel,by decide +kernel,by decide +kernel,by decide +kernel⟩) (y9 K (pv 1)) (fun cl C s H ex=>⟨(o5 (i:=0) (show (["end","hall"]:List Str).Nodup from by decide +kernel) rfl (Or.inl rfl) (Or.inr rfl)),N0,(j3 (j0 K) (r6 C_place_out hr rfl (b8 (pv 1) (b8 (pv 0) d9 b9) b9)) i0 (fun _ _=>rfl))⟩)) d9 V5)) d9 r9)))),?_⟩
  refine ⟨_,rfl,p,rfl,⟨_,hS⟩,?_⟩
  refine C9 (xs:=es.map V.int) (fun i acc σ H'=>j5 H H' ∧ acc = (es.take i).map (fun e=>V.int (e / h.e)) ∧ ∃ v,σ = [v,some (.ref a)])
   ⟨j5.refl H,rfl,none,rfl⟩ sz (fun i acc σ H' g=>?_) (fun i acc σ H' _ g=>g.1.seq hS) ?_ ?_
  ·obtain ⟨_,rfl,_⟩:=g
   rw [List.length_map,List.length_take]
   lia
  ·rintro i y acc σ H' hy ⟨s1,rfl,v,rfl⟩
   rw [List.getElem?_map] at hy
   obtain ⟨e,he,rfl⟩:=Option.map_eq_some_iff.mp hy
   refine ⟨_,rfl,_,rfl,a,h,e,rfl,j5.seqT s1 hH,ok,fun r hr2=>⟨r,_,_,_,rfl,rfl,SqT.of i3,rfl,s1.trans (i6 hr2 _),?_,_,rfl⟩⟩
   rw [List.take_succ,he,List.map_append]
   rfl
  ·rintro acc σ H' ⟨s1,rfl,v,rfl⟩ l hl'
   exact fin H' s1 l hl'
end
theorem R8 {h:Hall} {es:List Int} {r:Int}:r ∈ o8 h es ↔ ∃ e ∈ es,e / h.e = r:=by
 unfold o8
 rw [J4,List.mem_map]
theorem aN9 (h:Hall) (es:List Int):(o8 h es).length ≤ es.length:=by
 have:=ab5 (es.map fun e=>e / h.e)
 rw [List.length_map] at this
 exact this
inductive PartIs (K:PySem.W.Frag) (H:Hp):V → Prop where
 | int (i:Int):PartIs K H (.int i)
 | odd {x:V} {t:Value} {b1 b2:Bool} (ni:∀ i,x ≠ .int i) (ty:TyOf K H x t) (h1:PySem.W.kitOne K t (.type "int") = some b1) (h2:PySem.W.kitOne K t (.type "bool") = some b2) (hb:b1 = false ∨ b2 = true):PartIs K H x
theorem TyOf.same {K:PySem.W.Frag} {H H':Hp} {x:V} {t:Value} (s:j5 H H') (h:TyOf K H x t):TyOf K H' x t:=by
 cases h with
 | non=>exact .non
 | bl b=>exact .bl b
 | int i=>exact .int i
 | str y=>exact .str y
 | flt y=>exact .flt y
 | lst e=>exact .lst (s _ _ e)
 | frz e=>exact .frz (s _ _ e)
 | tup e=>exact .tup (s _ _ e)
 | dK e=>exact .dK (s _ _ e)
 | dT e=>exact .dT (s _ _ e)
 | ins e a b c d f=>exact .ins (s _ _ e) a b c d f
theorem PartIs.same {K:PySem.W.Frag} {H H':Hp} {x:V} (s:j5 H H') (h:PartIs K H x):PartIs K H' x:=by
 cases h with
 | int i=>exact .int i
 | odd ni ty h1 h2 hb=>exact .odd ni (TyOf.same s ty) h1 h2 hb
def n4 (x:V) (lo hi:Int):Bool:=match x with
 | .int i=>decide (lo ≤ i) && decide (i ≤ hi)
 | _=>false
def isInt:V → Bool
 | .int _=>true
 | _=>false
def ac2 (K:PySem.W.Frag):Sp:=fun vs H Q _=>∃ (x:V) (lo hi:Int),vs = [x,.int lo,.int hi] ∧ PartIs K H x ∧ Q (.bl (n4 x lo hi)) H
def af3 (K:PySem.W.Frag):Sp:=fun vs H Q _=>∃ x:V,vs = [x] ∧ PartIs K H x ∧ Q (.bl (isInt x)) H
section
variable {P:Program} {w:World} {K:PySem.W.Frag} {mg:Str → Option Value} {base:Heap}
theorem au2:FnScope ["thing"] ["thing"] (i7 (top 11)):=⟨rfl,rfl,rfl,by decide +kernel,rfl,by decide +kernel,by decide +kernel⟩
theorem at9 (T:Txt K mg) (D:Def K mg "is_number" (top 11) ["thing"]):Callee P w K mg base 1 "is_number" ["thing"] (af3 K):=by
 refine D.ok au2 (fun vs H Q E h=>?_) (fun f cdv A outer s H vs Q E hr h=>?_)
 ·obtain ⟨x,rfl,_⟩:=h
  rfl
 obtain ⟨x,rfl,hp,q⟩:=h
 refine ⟨_,(i5 (i9 (P9 (i8 (j6 K) rfl T.m_isinstance boot_isinstance (b8 (pv 0) (b8 (n6 (v:=.ty "int") rfl T.m_int boot_int rfl) d9 b9) b9)) (X6 (Y4 (i8 (j6 K) rfl T.m_isinstance boot_isinstance (b8 (pv 0) (b8 (n6 (v:=.ty "bool") rfl T.m_bool boot_bool rfl) d9 b9) b9))))))),?_⟩
 cases hp with
 | int i =>
  refine ⟨_,rfl,_,_,_,true,rfl,.int i,M3,_,rfl,C3 ?_⟩
  exact ⟨_,rfl,_,_,_,false,rfl,.int i,Q8,_,rfl,q⟩
 | @odd _ t b1 b2 ni ty h1 h2 hb =>
  have e:isInt x = false:=by
   cases x with
   | int i=>exact absurd rfl (ni i)
   | _=>rfl
  rw [e] at q
  refine ⟨_,rfl,_,_,_,b1,rfl,ty,h1,_,rfl,?_⟩
  cases b1 with
  | false=>exact z6 q
  | true =>
   have hb2:b2 = true:=hb.elim (fun z=>nomatch z) id
   subst hb2
   exact C3 ⟨_,rfl,_,_,_,true,rfl,ty,h2,_,rfl,q⟩
theorem aB0:FnScope ["thing","least","most"] ["thing","least","most"] (i7 (top 12)):=⟨rfl,rfl,rfl,by decide +kernel,rfl,by decide +kernel,by decide +kernel⟩
theorem aA0 (T:Txt K mg) (C_is_number:Callee P w K mg base 1 "is_number" ["thing"] (af3 K)) (D:Def K mg "is_whole" (top 12) ["thing","least","most"]):Callee P w K mg base 2 "is_whole" ["thing","least","most"] (ac2 K):=by
 refine D.ok aB0 (fun vs H Q E h=>?_) (fun f cdv A outer s H vs Q E hr h=>?_)
 ·obtain ⟨x,lo,hi,rfl,_⟩:=h
  rfl
 obtain ⟨x,lo,hi,rfl,hp,q⟩:=h
 refine ⟨_,(i5 (i9 (P9 (r6 C_is_number hr rfl (b8 (pv 0) d9 b9)) (X6 (U1 W4 W4 (pv 1) (pv 0) (pv 2)))))),?_⟩
 refine ⟨_,rfl,x,rfl,hp,_,rfl,?_⟩
 cases hp with
 | int i =>
  refine C3 ?_
  refine ⟨_,rfl,_,rfl,_,_,rfl,rfl,_,rfl,?_⟩
  refine A7 (fun c=>?_) (fun c=>?_)
  ·refine ⟨_,rfl,_,_,rfl,rfl,?_⟩
   have e:n4 (.int i) lo hi = decide (i ≤ hi):=by show (decide (lo ≤ i) && decide (i ≤ hi)) = _; rw [c,Bool.true_and]
   rw [e] at q
   exact q
  ·have e:n4 (.int i) lo hi = false:=by show (decide (lo ≤ i) && decide (i ≤ hi)) = _; rw [Bool.eq_false_iff.mpr c,Bool.false_and]
   rw [e] at q
   exact q
 | @odd _ t b1 b2 ni ty h1 h2 hb =>
  have e0:isInt x = false:=by
   cases x with
   | int i=>exact absurd rfl (ni i)
   | _=>rfl
  have e:n4 x lo hi = false:=by
   cases x with
   | int i=>exact absurd rfl (ni i)
   | _=>rfl
  rw [e] at q
  rw [e0]
  exact z6 q
end
def aJ2 (xs:List V):List Int:=xs.filterMap fun x=>match x with | .int i=>some i | _=>none
theorem N9 (ns:List Int):aJ2 (ns.map V.int) = ns:=by
 unfold aJ2
 induction ns with
 | nil=>rfl
 | cons i t ih=>rw [List.map_cons,List.filterMap_cons]; exact congrArg (i :: ·) ih
def C5 (xs:List V):Bool:=decide ((A0 (aJ2 xs)).length = xs.length)
def B3 (h:Hall):Option (List V) → Bool
 | none=>false
 | some xs=>!xs.isEmpty && (xs.all (fun x=>n4 x 0 (h.o * h.e - 1)) && C5 xs)
inductive EndTh (K:PySem.W.Frag) (H:Hp):V → Option (List V) → Prop where
 | lst {a:Addr} {xs:List V} (e:H a = some (.lst xs)) (h:∀ x ∈ xs,PartIs K H x) (hn:xs.length ≤ 64):EndTh K H (.ref a) (some xs)
 | tup {a:Addr} {xs:List V} (e:H a = some (.tup xs)) (h:∀ x ∈ xs,PartIs K H x) (hn:xs.length ≤ 64):EndTh K H (.ref a) (some xs)
 | no {x:V} {t:Value} (ty:TyOf K H x t) (h1:PySem.W.kitOne K t (.type "list") = some false) (h2:PySem.W.kitOne K t (.type "tuple") = some false):EndTh K H x none
theorem EndTh.same {K:PySem.W.Frag} {H H':Hp} {x:V} {o:Option (List V)} (s:j5 H H') (h:EndTh K H x o):EndTh K H' x o:=by
 cases h with
 | lst e h hn=>exact .lst (s _ _ e) (fun x hx=>(h x hx).same s) hn
 | tup e h hn=>exact .tup (s _ _ e) (fun x hx=>(h x hx).same s) hn
 | no ty h1 h2=>exact .no (TyOf.same s ty) h1 h2
theorem U3 {x:V} {lo hi:Int} (h:n4 x lo hi = true):∃ i:Int,x = .int i ∧ lo ≤ i ∧ i ≤ hi:=by
 cases x with
 | int i =>
  have h':(decide (lo ≤ i) && decide (i ≤ hi)) = true:=h
  rw [Bool.and_eq_true] at h'
  exact ⟨i,rfl,of_decide_eq_true h'.1,of_decide_eq_true h'.2⟩
 | _=>cases h
theorem ac0 {lo hi:Int}:∀ {xs:List V},xs.all (fun x=>n4 x lo hi) = true → ∃ ns:List Int,xs = ns.map V.int
 | [],_=>⟨[],rfl⟩
 | x :: t,h=>by
  rw [List.all_cons,Bool.and_eq_true] at h
  obtain ⟨i,rfl,_⟩:=U3 h.1
  obtain ⟨ns,rfl⟩:=ac0 h.2
  exact ⟨i :: ns,rfl⟩
def ah4 (K:PySem.W.Frag):Sp:=fun vs H Q _=>∃ (a:Addr) (h:Hall) (x:V),vs = [.ref a,x] ∧ SqT K H a (h.row.map V.int) ∧ h.Ok ∧ PartIs K H x ∧ Q (.bl (n4 x 0 (h.i * h.c - 1))) H
def ao1 (K:PySem.W.Frag):Sp:=fun vs H Q _=>∃ (a p:Addr) (h:Hall) (xs:List V),vs = [.ref a,.ref p] ∧ SqT K H a (h.row.map V.int) ∧ h.Ok ∧ (SqL K H p xs ∨ SqT K H p xs) ∧ (∀ x ∈ xs,PartIs K H x) ∧ xs.length ≤ 64 ∧ ∀ H',j5 H H' → Q (.bl (xs.all fun x=>n4 x 0 (h.o * h.e - 1))) H'
def ax4 (K:PySem.W.Frag):Sp:=fun vs H Q _=>∃ (p:Addr) (ns:List Int),vs = [.ref p] ∧ (SqL K H p (ns.map V.int) ∨ SqT K H p (ns.map V.int)) ∧ ns.length ≤ 64 ∧ ∀ H',j5 H H' → Q (.bl (decide ((A0 ns).length = ns.length))) H'
def az9 (K:PySem.W.Frag):Sp:=fun vs H Q _=>∃ (a:Addr) (h:Hall) (x:V) (o:Option (List V)),vs = [.ref a,x] ∧ SqT K H a (h.row.map V.int) ∧ h.Ok ∧ EndTh K H x o ∧ ∀ H',j5 H H' → Q (.bl (B3 h o)) H'
section
variable {P:Program} {w:World} {K:PySem.W.Frag} {mg:Str → Option Value} {base:Heap}
theorem at6:FnScope ["hall","thing"] ["hall","thing"] (i7 (top 24)):=⟨rfl,rfl,rfl,by decide +kernel,rfl,by decide +kernel,by decide +kernel⟩
theorem ar1 (T:Txt K mg) (C_is_whole:Callee P w K mg base 2 "is_whole" ["thing","least","most"] (ac2 K)) (D:Def K mg "is_caller" (top 24) ["hall","thing"]):Callee P w K mg base 3 "is_caller" ["hall","thing"] (ah4 K):=by
 refine D.ok at6 (fun vs H Q E h=>?_) (fun f cdv A outer s H vs Q E hr h=>?_)
 ·obtain ⟨a,h,x,rfl,_⟩:=h
  rfl
 obtain ⟨a,h,x,rfl,hH,ok,hp,q⟩:=h
 have o1:=ok.i
 refine ⟨_,(i5 (i9 (r6 C_is_whole hr rfl (b8 (pv 1) (b8 i0 (b8 (j2 ar8 (j2 o9 (j3 (j0 K) (pv 0) i0 (fun _ _=>rfl)) (j3 (j0 K) (pv 0) i0 (fun _ _=>rfl))) i0) d9 O9) m6) b9)))),?_⟩
 exact ⟨_,rfl,_,rfl,a,_,_,_,rfl,rfl,hH,rfl,_,rfl,a,_,_,_,rfl,rfl,hH,rfl,_,_,rfl,rfl,.inl ⟨by lia,by lia⟩,_,_,rfl,rfl,x,_,_,rfl,hp,q⟩
theorem U7:FnScope ["hall","things","last"] ["hall","things"] (i7 (top 15)):=⟨rfl,rfl,rfl,by decide +kernel,rfl,by decide +kernel,by decide +kernel⟩
theorem ay9 (T:Txt K mg) (C_is_whole:Callee P w K mg base 2 "is_whole" ["thing","least","most"] (ac2 K)) (D:Def K mg "are_ends" (top 15) ["hall","things"]):Callee P w K mg base 3 "are_ends" ["hall","things"] (ao1 K):=by
 refine D.ok U7 (fun vs H Q E h=>?_) (fun f cdv A outer s H vs Q E hr h=>?_)
 ·obtain ⟨a,p,h,xs,rfl,_⟩:=h
  rfl
 obtain ⟨a,p,h,xs,rfl,hH,ok,hS,hx,h64,q⟩:=h
 have o1:=ok.o
 rcases hS with hS | hS
 ·refine ⟨_,(i4 (j7 (i:=2) U7.nd rfl (Or.inr rfl) (j2 ar8 (j2 o9 (j3 (j0 K) (pv 0) i0 (fun _ _=>rfl)) (j3 (j0 K) (pv 0) i0 (fun _ _=>rfl))) i0))
  (i5 (i9 (i8 (am9 K rfl) rfl T.m_all boot_all (b8 (F6 (own:=["thing"]) (fr:=[(2,"last")]) rfl (show CompScope ["hall","things","last"] (i7 (top 15)) _ _ _ from ⟨rfl,by decide +kernel,by decide +kernel,by decide +kernel,by decide +kernel⟩) (y9 K (pv 1)) (fun cl C s H ex=>⟨(o5 (i:=0) (show (["thing","last"]:List Str).Nodup from by decide +kernel) rfl (Or.inl rfl) (Or.inr rfl)),N0,(r6 C_is_whole hr rfl (b8 (pv 0) (b8 i0 (b8 (pv 1) d9 b9) m6) b9))⟩)) d9 V5))))),?_⟩
  refine ⟨_,rfl,a,_,_,_,rfl,rfl,hH,rfl,_,rfl,a,_,_,_,rfl,rfl,hH,rfl,_,_,rfl,rfl,.inl ⟨by lia,by lia⟩,_,_,rfl,rfl,?_⟩
  refine ⟨_,rfl,p,rfl,⟨_,hS⟩,?_⟩
  refine C9 (xs:=xs) (fun i acc σ H'=>H' = H ∧ acc = ((xs.take i).map fun x=>n4 x 0 (h.o * h.e - 1)).map V.bl ∧ ∃ v,σ = [v,some (.int (h.o * h.e - 1))])
   ⟨rfl,rfl,none,rfl⟩ (Nat.le_of_lt (n5 (by lia))) (fun i acc σ H' g=>?_) (fun i acc σ H' _ g=>by rw [g.1]; exact hS) ?_ ?_
  ·obtain ⟨_,rfl,_⟩:=g
   rw [List.length_map,List.length_map,List.length_take]
   lia
  ·rintro i y acc σ H' hy ⟨rfl,rfl,v,rfl⟩
   refine ⟨_,rfl,_,rfl,y,_,_,rfl,hx y (List.mem_of_getElem? hy),rfl,?_,_,rfl⟩
   rw [List.take_succ,hy,List.map_append,List.map_append]
   rfl
  ·rintro acc σ H' ⟨rfl,rfl,v,rfl⟩ l hl
   rw [List.take_length]
   refine ⟨l,_,rfl,SqL.of i3,?_⟩
   have:=q _ (i6 hl (.lst ((xs.map fun x=>n4 x 0 (h.o * h.e - 1)).map V.bl)))
   rw [List.all_map]
   exact this
 ·refine ⟨_,(i4 (j7 (i:=2) U7.nd rfl (Or.inr rfl) (j2 ar8 (j2 o9 (j3 (j0 K) (pv 0) i0 (fun _ _=>rfl)) (j3 (j0 K) (pv 0) i0 (fun _ _=>rfl))) i0))
  (i5 (i9 (i8 (am9 K rfl) rfl T.m_all boot_all (b8 (F6 (own:=["thing"]) (fr:=[(2,"last")]) rfl (show CompScope ["hall","things","last"] (i7 (top 15)) _ _ _ from ⟨rfl,by decide +kernel,by decide +kernel,by decide +kernel,by decide +kernel⟩) (au1 K (pv 1)) (fun cl C s H ex=>⟨(o5 (i:=0) (show (["thing","last"]:List Str).Nodup from by decide +kernel) rfl (Or.inl rfl) (Or.inr rfl)),N0,(r6 C_is_whole hr rfl (b8 (pv 0) (b8 i0 (b8 (pv 1) d9 b9) m6) b9))⟩)) d9 V5))))),?_⟩
  refine ⟨_,rfl,a,_,_,_,rfl,rfl,hH,rfl,_,rfl,a,_,_,_,rfl,rfl,hH,rfl,_,_,rfl,rfl,.inl ⟨by lia,by lia⟩,_,_,rfl,rfl,?_⟩
  refine ⟨_,rfl,p,rfl,⟨_,hS⟩,?_⟩
  refine az0 (xs:=xs) (fun i acc σ H'=>H' = H ∧ acc = ((xs.take i).map fun x=>n4 x 0 (h.o * h.e - 1)).map V.bl ∧ ∃ v,σ = [v,some (.int (h.o * h.e - 1))])
   ⟨rfl,rfl,none,rfl⟩ (Nat.le_of_lt (n5 (by lia))) (fun i acc σ H' g=>?_) (fun i acc σ H' _ g=>by rw [g.1]; exact hS) ?_ ?_
  ·obtain ⟨_,rfl,_⟩:=g
   rw [List.length_map,List.length_map,List.length_take]
   lia
  ·rintro i y acc σ H' hy ⟨rfl,rfl,v,rfl⟩
   refine ⟨_,rfl,_,rfl,y,_,_,rfl,hx y (List.mem_of_getElem? hy),rfl,?_,_,rfl⟩
   rw [List.take_succ,hy,List.map_append,List.map_append]
   rfl
  ·rintro acc σ H' ⟨rfl,rfl,v,rfl⟩ l hl
   rw [List.take_length]
   refine ⟨l,_,rfl,SqL.of i3,?_⟩
   have:=q _ (i6 hl (.lst ((xs.map fun x=>n4 x 0 (h.o * h.e - 1)).map V.bl)))
   rw [List.all_map]
   exact this
theorem ak6:FnScope ["some"] ["some"] (i7 (top 19)):=⟨rfl,rfl,rfl,by decide +kernel,rfl,by decide +kernel,by decide +kernel⟩
theorem aM5 (T:Txt K mg) (D:Def K mg "are_unlike" (top 19) ["some"]):Callee P w K mg base 1 "are_unlike" ["some"] (ax4 K):=by
 refine D.ok ak6 (fun vs H Q E h=>?_) (fun f cdv A outer s H vs Q E hr h=>?_)
 ·obtain ⟨p,ns,rfl,_⟩:=h
  rfl
 obtain ⟨p,ns,rfl,hS,h64,q⟩:=h
 have ln:(ns.map V.int).length = ns.length:=List.length_map _
 rcases hS with hS | hS
 ·refine ⟨_,(i5 (i9 (J8 C4 (i8 (ai5 P w) rfl T.m_len boot_len (b8 (B1 (ac5 K P w rfl) rfl T.m_set boot_set (b8 (pv 0) d9 b9)) d9 r9)) (i8 (o7 K) rfl T.m_len boot_len (b8 (pv 0) d9 b9)) (m7 _)))),?_⟩
  refine ⟨_,rfl,p,ns,rfl,hS,by lia,fun l hl=>?_⟩
  have s1:=i6 hl (aN3 P w l ns)
  refine ⟨l,ns,rfl,i3,_,rfl,p,_,rfl,.inl (s1.seq hS),rfl,?_⟩
  have:=q _ s1
  rw [ln]
  have e:decide (V.int (((A0 ns).length:Nat):Int) = V.int ((ns.length:Nat):Int)) = decide ((A0 ns).length = ns.length):=by
   rw [Bool.eq_iff_iff,decide_eq_true_iff,decide_eq_true_iff]
   constructor
   ·intro z
    have:=V.int.inj z
    lia
   ·intro z
    rw [z]
  rw [e]
  exact this
 ·refine ⟨_,(i5 (i9 (J8 C4 (i8 (ai5 P w) rfl T.m_len boot_len (b8 (B1 (aD8 K P w rfl) rfl T.m_set boot_set (b8 (pv 0) d9 b9)) d9 r9)) (i8 (o7 K) rfl T.m_len boot_len (b8 (pv 0) d9 b9)) (m7 _)))),?_⟩
  refine ⟨_,rfl,p,ns,rfl,hS,by lia,fun l hl=>?_⟩
  have s1:=i6 hl (aN3 P w l ns)
  refine ⟨l,ns,rfl,i3,_,rfl,p,_,rfl,.inr (j5.seqT s1 hS),rfl,?_⟩
  have:=q _ s1
  rw [ln]
  have e:decide (V.int (((A0 ns).length:Nat):Int) = V.int ((ns.length:Nat):Int)) = decide ((A0 ns).length = ns.length):=by
   rw [Bool.eq_iff_iff,decide_eq_true_iff,decide_eq_true_iff]
   constructor
   ·intro z
    have:=V.int.inj z
    lia
   ·intro z
    rw [z]
  rw [e]
  exact this
theorem aF1:FnScope ["hall","thing"] ["hall","thing"] (i7 (top 25)):=⟨rfl,rfl,rfl,by decide +kernel,rfl,by decide +kernel,by decide +kernel⟩
theorem aE4 (T:Txt K mg) (C_are_ends:Callee P w K mg base 3 "are_ends" ["hall","things"] (ao1 K)) (C_are_unlike:Callee P w K mg base 1 "are_unlike" ["some"] (ax4 K)) (D:Def K mg "is_ends" (top 25) ["hall","thing"]):Callee P w K mg base 4 "is_ends" ["hall","thing"] (az9 K):=by
 refine D.ok aF1 (fun vs H Q E h=>?_) (fun f cdv A outer s H vs Q E hr h=>?_)
 ·obtain ⟨a,h,x,o,rfl,_⟩:=h
  rfl
 obtain ⟨a,h,x,o,rfl,hH,ok,hT,q⟩:=h
 refine ⟨_,(i4 (m8 (PW.pt (E7 (y0 (m9 K (i8 (F1 K) rfl T.m_isinstance boot_isinstance (b8 (pv 1) (b8 (C7 (b8 (n6 (v:=.ty "list") rfl T.m_list boot_list rfl) (b8 (n6 (v:=.ty "tuple") rfl T.m_tuple boot_tuple rfl) d9 b9) b9)) d9 O4) b9)) (fun _=>rfl))) (D6 (j8 C4 (i8 (o7 K) rfl T.m_len boot_len (b8 (pv 1) d9 b9)) i0 (m7 _))))) (i5 (i9 z5)) j1)
  (i5 (i9 (P9 (r6 C_are_ends hr rfl (b8 (pv 0) (b8 (pv 1) d9 b9) b9)) (X6 (r6 C_are_unlike hr rfl (b8 (pv 1) d9 b9))))))),?_⟩
 refine ⟨_,rfl,(by show 2 ≤ sizeLine; decide),fun tp htp=>?_⟩
 have etp:=i3 (H:=H) (a:=tp) (o:=.tup [.ty "list",.ty "tuple"])
 have s1:=i6 htp (.tup [.ty "list",.ty "tuple"])
 generalize upd H tp (.tup [.ty "list",.ty "tuple"]) = H1 at etp s1 ⊢
 have hT1:=hT.same s1
 cases hT1 with
 | no ty h1 h2 =>
  refine ⟨_,tp,_,_,_,_,_,rfl,etp,ty,h1,h2,_,rfl,C3 ?_⟩
  exact q _ s1
 | @lst p xs e hx h64 =>
  refine ⟨_,tp,_,_,_,_,_,rfl,etp,.lst e,P6,U2,_,rfl,z6 ?_⟩
  refine ⟨_,rfl,p,xs,rfl,.inl (SqL.of e),rfl,_,rfl,?_⟩
  refine A7 (fun c=>?_) (fun c=>?_)
  ·have c':xs = []:=by
    have:((xs.length:Nat):Int) = 0:=by simpa using c
    exact List.length_eq_zero_iff.mp (by lia)
   have:=q _ s1
   rw [c'] at this
   exact this
  ·have c':xs ≠ []:=fun z=>c (by rw [z]; rfl)
   have ne:(!xs.isEmpty) = true:=by cases xs with
    | nil=>exact absurd rfl c'
    | cons _ _=>rfl
   refine ⟨_,rfl,_,rfl,a,p,h,xs,rfl,j5.seqT s1 hH,ok,.inl (SqL.of e),hx,h64,fun H2 s2=>⟨_,rfl,?_⟩⟩
   refine A7 (fun d=>?_) (fun d=>?_)
   ·obtain ⟨ns,rfl⟩:=ac0 d
    have e2:=s2 _ _ e
    refine ⟨_,rfl,p,ns,rfl,.inl (SqL.of e2),by rw [List.length_map] at h64; exact h64,fun H3 s3=>?_⟩
    have:=q _ ((s1.trans s2).trans s3)
    rw [show B3 h (some (ns.map V.int)) = decide ((A0 ns).length = ns.length) by
     show (!(ns.map V.int).isEmpty && ((ns.map V.int).all (fun x=>n4 x 0 (h.o * h.e - 1)) && C5 (ns.map V.int))) = _
     rw [ne,d,Bool.true_and,Bool.true_and]
     unfold C5
     rw [N9,List.length_map]] at this
    exact this
   ·have:=q _ (s1.trans s2)
    rw [show B3 h (some xs) = false by
     show (!xs.isEmpty && (xs.all (fun x=>n4 x 0 (h.o * h.e - 1)) && C5 xs)) = _
     rw [Bool.eq_false_iff.mpr d,Bool.false_and,Bool.and_false]] at this
    exact this
 | @tup p xs e hx h64 =>
  refine ⟨_,tp,_,_,_,_,_,rfl,etp,.tup e,aw0,L9,_,rfl,z6 ?_⟩
  refine ⟨_,rfl,p,xs,rfl,.inr (SqT.of e),rfl,_,rfl,?_⟩
  refine A7 (fun c=>?_) (fun c=>?_)
  ·have c':xs = []:=by
    have:((xs.length:Nat):Int) = 0:=by simpa using c
    exact List.length_eq_zero_iff.mp (by lia)
   have:=q _ s1
   rw [c'] at this
   exact this
  ·have c':xs ≠ []:=fun z=>c (by rw [z]; rfl)
   have ne:(!xs.isEmpty) = true:=by cases xs with
    | nil=>exact absurd rfl c'
    | cons _ _=>rfl
   refine ⟨_,rfl,_,rfl,a,p,h,xs,rfl,j5.seqT s1 hH,ok,.inr (SqT.of e),hx,h64,fun H2 s2=>⟨_,rfl,?_⟩⟩
   refine A7 (fun d=>?_) (fun d=>?_)
   ·obtain ⟨ns,rfl⟩:=ac0 d
    have e2:=s2 _ _ e
    refine ⟨_,rfl,p,ns,rfl,.inr (SqT.of e2),by rw [List.length_map] at h64; exact h64,fun H3 s3=>?_⟩
    have:=q _ ((s1.trans s2).trans s3)
    rw [show B3 h (some (ns.map V.int)) = decide ((A0 ns).length = ns.length) by
     show (!(ns.map V.int).isEmpty && ((ns.map V.int).all (fun x=>n4 x 0 (h.o * h.e - 1)) && C5 (ns.map V.int))) = _
     rw [ne,d,Bool.true_and,Bool.true_and]
     unfold C5
     rw [N9,List.length_map]] at this
    exact this
   ·have:=q _ (s1.trans s2)
    rw [show B3 h (some xs) = false by
     show (!xs.isEmpty && (xs.all (fun x=>n4 x 0 (h.o * h.e - 1)) && C5 xs)) = _
     rw [Bool.eq_false_iff.mpr d,Bool.false_and,Bool.and_false]] at this
    exact this
end
def aE8 (as:List Addr) (ks:List Call) (c:Int) (v:V):Prop:=(v = .non ∧ ∀ k ∈ ks,k.c ≠ c) ∨ ∃ (j:Nat) (a:Addr) (k:Call),as[j]? = some a ∧ ks[j]? = some k ∧ k.c = c ∧ v = .ref a
def aw8 (K:PySem.W.Frag):Sp:=fun vs H Q _=>∃ (l:Addr) (x:V) (as:List Addr) (ks:List Call),vs = [.ref l,x] ∧ SqL K H l (as.map V.ref) ∧ m4 H as ks ∧ PartIs K H x ∧
 ((isInt x = false ∧ Q .non H) ∨ ∃ c,x = .int c ∧ ∀ v,aE8 as ks c v → Q v H)
section
variable {P:Program} {w:World} {K:PySem.W.Frag} {mg:Str → Option Value} {base:Heap}
theorem ah9:FnScope ["calls","caller","call"] ["calls","caller"] (i7 (top 31)):=⟨rfl,rfl,rfl,by decide +kernel,rfl,by decide +kernel,by decide +kernel⟩
theorem aG8 (T:Txt K mg) (C_is_number:Callee P w K mg base 1 "is_number" ["thing"] (af3 K)) (D:Def K mg "call_of" (top 31) ["calls","caller"]):Callee P w K mg base 2 "call_of" ["calls","caller"] (aw8 K):=by
 refine D.ok ah9 (fun vs H Q E h=>?_) (fun f cdv A outer s H vs Q E hr h=>?_)
 ·obtain ⟨l,x,as,ks,rfl,_⟩:=h
  rfl
 obtain ⟨l,x,as,ks,rfl,hL,hC,hp,q⟩:=h
 refine ⟨_,(i4 (m8 (y0 (m9 K (r6 C_is_number hr rfl (b8 (pv 1) d9 b9)) (fun _=>rfl))) (i5 (i9 y6)) j1)
  (i4 (A3 PassesOwn.never rfl (y9 K (pv 0)) (o5 (i:=2) ah9.nd rfl (Or.inl rfl))
  (i5 (m8 (j8 C4 (j3 (j0 K) (pv 2) i0 (fun _ _=>rfl)) (pv 1) (m7 _)) (i5 (i9 (pv 2))) j1)))
  (i5 (i9 y6)))),?_⟩
 refine ⟨_,rfl,x,rfl,hp,_,rfl,?_⟩
 rcases q with ⟨hx,q⟩ | ⟨c,rfl,q⟩
 ·rw [hx]
  exact C3 q
 refine z6 ?_
 have la:=Paired.length hC
 refine ⟨_,rfl,l,rfl,⟨_,hL⟩,?_⟩
 refine D8 (xs:=as.map V.ref) (fun i σ H'=>H' = H ∧ (∀ (j:Nat) k,j < i → ks[j]? = some k → k.c ≠ c) ∧ ∃ v,σ = [some (.ref l),some (.int c),v])
  ⟨rfl,(fun j k hj=>absurd hj (Nat.not_lt_zero _)),none,rfl⟩ (fun i σ H' _ g=>g.1 ▸ hL) ?_ ?_
 ·rintro i x σ H' hx ⟨rfl,hno,v,rfl⟩
  rw [List.getElem?_map] at hx
  obtain ⟨a,ha,rfl⟩:=Option.map_eq_some_iff.mp hx
  obtain ⟨k,hk,ce,e1,e2⟩:=m3 hC i a ha
  refine ⟨_,rfl,a,_,_,_,rfl,rfl,SqT.of e2,rfl,_,rfl,rfl,_,rfl,?_⟩
  refine A7 (fun cc=>?_) (fun cc=>?_)
  ·have cc':k.c = c:=by simpa using cc
   exact ⟨_,rfl,q _ (.inr ⟨i,a,k,ha,hk,cc',rfl⟩)⟩
  ·have cc':k.c ≠ c:=by simpa using cc
   refine ⟨rfl,fun j k' hj hk'=>?_,_,rfl⟩
   by_cases z:j = i
   ·subst z
    rw [hk] at hk'
    cases hk'
    exact cc'
   ·exact hno j k' (by lia) hk'
 ·rintro σ H' ⟨rfl,hno,v,rfl⟩
  refine q _ (.inl ⟨rfl,fun k hk=>?_⟩)
  obtain ⟨j,hj⟩:=List.mem_iff_getElem?.mp hk
  have:=(List.getElem?_eq_some_iff.mp hj).1
  exact hno j k (by rw [List.length_map]; lia) hj
end
def be6 (ks:List Call) (e:Int) (v:V):Prop:=(v = .non ∧ ∀ k ∈ ks,¬ e ∈ k.es) ∨ ∃ k ∈ ks,e ∈ k.es ∧ v = .int k.c
def aj1 (K:PySem.W.Frag):Sp:=fun vs H Q _=>∃ (l:Addr) (e:Int) (as:List Addr) (ks:List Call),vs = [.ref l,.int e] ∧ SqL K H l (as.map V.ref) ∧ m4 H as ks ∧ ∀ v,be6 ks e v → Q v H
section
variable {P:Program} {w:World} {K:PySem.W.Frag} {mg:Str → Option Value} {base:Heap}
theorem aa5:FnScope ["calls","end","call"] ["calls","end"] (i7 (top 32)):=⟨rfl,rfl,rfl,by decide +kernel,rfl,by decide +kernel,by decide +kernel⟩
theorem au9 (T:Txt K mg) (C_is_number:Callee P w K mg base 1 "is_number" ["thing"] (af3 K)) (D:Def K mg "holder_of" (top 32) ["calls","end"]):Callee P w K mg base 2 "holder_of" ["calls","end"] (aj1 K):=by
 refine D.ok aa5 (fun vs H Q E h=>?_) (fun f cdv A outer s H vs Q E hr h=>?_)
 ·obtain ⟨l,x,as,ks,rfl,_⟩:=h
  rfl
 obtain ⟨l,e,as,ks,rfl,hL,hC,q⟩:=h
 refine ⟨_,(i4 (m8 (y0 (m9 K (r6 C_is_number hr rfl (b8 (pv 1) d9 b9)) (fun _=>rfl))) (i5 (i9 y6)) j1)
  (i4 (A3 PassesOwn.never rfl (y9 K (pv 0)) (o5 (i:=2) aa5.nd rfl (Or.inl rfl))
  (i5 (m8 (j8 (Y3 K) (pv 1) (j3 (j0 K) (pv 2) i0 (fun _ _=>rfl)) (by with_unfolding_all rfl)) (i5 (i9 (j3 (j0 K) (pv 2) i0 (fun _ _=>rfl)))) j1)))
  (i5 (i9 y6)))),?_⟩
 refine ⟨_,rfl,.int e,rfl,.int e,_,rfl,z6 ?_⟩
 have la:=Paired.length hC
 refine ⟨_,rfl,l,rfl,⟨_,hL⟩,?_⟩
 refine D8 (xs:=as.map V.ref) (fun i σ H'=>H' = H ∧ (∀ (j:Nat) k,j < i → ks[j]? = some k → ¬ e ∈ k.es) ∧ ∃ v,σ = [some (.ref l),some (.int e),v])
  ⟨rfl,(fun j k hj=>absurd hj (Nat.not_lt_zero _)),none,rfl⟩ (fun i σ H' _ g=>g.1 ▸ hL) ?_ ?_
 ·rintro i x σ H' hx ⟨rfl,hno,v,rfl⟩
  rw [List.getElem?_map] at hx
  obtain ⟨a,ha,rfl⟩:=Option.map_eq_some_iff.mp hx
  obtain ⟨k,hk,ce,e1,e2⟩:=m3 hC i a ha
  refine ⟨_,rfl,_,rfl,a,_,_,_,rfl,rfl,SqT.of e2,rfl,ce,_,rfl,.inr (SqT.of e1),rfl,O1 k.es,_,rfl,?_⟩
  rw [Y2]
  refine A7 (fun cc=>?_) (fun cc=>?_)
  ·have cc':e ∈ k.es:=by simpa using cc
   exact ⟨_,rfl,a,_,_,_,rfl,rfl,SqT.of e2,rfl,q _ (.inr ⟨k,List.mem_of_getElem? hk,cc',rfl⟩)⟩
  ·have cc':¬ e ∈ k.es:=by simpa using cc
   refine ⟨rfl,fun j k' hj hk'=>?_,_,rfl⟩
   by_cases z:j = i
   ·subst z
    rw [hk] at hk'
    cases hk'
    exact cc'
   ·exact hno j k' (by lia) hk'
 ·rintro σ H' ⟨rfl,hno,v,rfl⟩
  refine q _ (.inl ⟨rfl,fun k hk=>?_⟩)
  obtain ⟨j,hj⟩:=List.mem_iff_getElem?.mp hk
  have:=(List.getElem?_eq_some_iff.mp hj).1
  exact hno j k (by rw [List.length_map]; lia) hj
end
def P4 (h:Hall) (s:Int) (gs:List Int) (k:Call):Bool:=decide (k.c / h.c = s) || (o8 h k.es).any fun r=>decide (r ∈ gs)
def F0 (h:Hall) (ks:List Call) (s:Int) (gs:List Int) (r:Nat):List Int:=(ks.filter fun k=>decide (k.k = (r:Int)) && P4 h s gs k).map Call.c
def J3 (h:Hall) (ks:List Call) (s:Int) (gs:List Int):List (List Int):=(List.range h.m.toNat).map (F0 h ks s gs)
def C8 (h:Hall) (ks:List Call) (c:Int) (es:List Int):List (List Int):=J3 h ks (c / h.c) (o8 h es)
theorem V8 (h:Hall) (ks:List Call) (s:Int) (gs:List Int) (r:Nat) (k:Call):F0 h (ks ++ [k]) s gs r = F0 h ks s gs r ++ (if (decide (k.k = (r:Int)) && P4 h s gs k) = true then [k.c] else []):=by
 unfold F0
 rw [List.filter_append,List.map_append]
 have e:List.filter (fun k=>decide (k.k = (r:Int)) && P4 h s gs k) [k] = if (decide (k.k = (r:Int)) && P4 h s gs k) = true then [k] else []:=by
  rw [List.filter_cons]
  rfl
 rw [e]
 by_cases c:(decide (k.k = (r:Int)) && P4 h s gs k) = true
 ·rw [if_pos c,if_pos c]
  rfl
 ·rw [if_neg c,if_neg c]
  rfl
theorem aa3 (h:Hall) (ks:List Call) (s:Int) (gs:List Int) (r:Nat):(F0 h ks s gs r).length ≤ ks.length:=by
 unfold F0
 rw [List.length_map]
 exact List.length_filter_le _ _
theorem T0 (h:Hall) (ks:List Call) (s:Int) (gs:List Int):(J3 h ks s gs).length = h.m.toNat:=by
 unfold J3
 rw [List.length_map,List.length_range]
def x5 (H:Hp) (rs:List Addr) (rows:List (List Int)):Prop:=Paired (fun a row=>H a = some (.lst (row.map V.int))) rs rows
theorem x5.other {H:Hp} {a:Addr} {o:HO}:∀ {rs:List Addr} {rows:List (List Int)},x5 H rs rows → ¬ a ∈ rs → x5 (upd H a o) rs rows
 | _,_,.nil,_=>.nil
 | _,_,.cons (a:=b) h t,hn=>.cons (by
   have:b ≠ a:=fun z=>hn (by rw [z]; exact List.mem_cons_self ..)
   show upd H a o b = _
   rw [j4 this]; exact h) (x5.other t fun z=>hn (List.mem_cons_of_mem _ z))
theorem x5.set {H:Hp} {a:Addr} {row:List Int}:∀ {rs:List Addr} {rows:List (List Int)} {j:Nat},x5 H rs rows → rs.Nodup → rs[j]? = some a → x5 (upd H a (.lst (row.map V.int))) rs (rows.set j row)
 | _,_,_,.nil,_,h=>by cases h
 | _,_,0,.cons (a:=b) h t,nd,hj=>by
  cases hj
  exact .cons i3 (x5.other t (List.nodup_cons.mp nd).1)
 | _,_,j + 1,.cons (a:=b) h t,nd,hj=>by
  have hj':_:=hj
  rw [List.getElem?_cons_succ] at hj'
  have hm:=List.mem_of_getElem? hj'
  have hb:b ≠ a:=fun z=>(List.nodup_cons.mp nd).1 (by rw [z]; exact hm)
  exact .cons (by
   show upd H a _ b = _
   rw [j4 hb]; exact h) (x5.set t (List.nodup_cons.mp nd).2 hj')
theorem x5.same {H H':Hp} {rs:List Addr} {rows:List (List Int)} (s:j5 H H') (h:x5 H rs rows):x5 H' rs rows:=by
 unfold x5 at h ⊢
 exact F9 h fun a d _ e=>s _ _ e
theorem aC8 {n j:Nat} (f:Nat → List Int) (x:List Int):((List.range n).map f).set j x = (List.range n).map fun r=>if r = j then x else f r:=by
 refine List.ext_getElem? fun i=>?_
 rw [List.getElem?_set,List.getElem?_map,List.getElem?_map]
 by_cases hi:i < n
 ·rw [List.getElem?_range hi]
  simp only [List.length_map,List.length_range,Option.map_some]
  by_cases c:j = i
  ·subst c; simp [hi]
  ·simp [c,Ne.symm c]
 ·rw [List.getElem?_eq_none (by simpa using hi)]
  simp only [List.length_map,List.length_range,Option.map_none]
  by_cases c:j = i
  ·subst c; simp [hi]
  ·simp [c]
def az1 (K:PySem.W.Frag):Sp:=fun vs H Q _=>∃ (a p g:Addr) (h:Hall) (k:Call) (st:Int) (gs:List Int),vs = [.ref a,.ref p,.int st,.ref g] ∧ SqT K H a (h.row.map V.int) ∧ h.Ok ∧ B4 H p k ∧ k.In h ∧ SqL K H g (gs.map V.int) ∧ ∀ H',j5 H H' → Q (.bl (P4 h st gs k)) H'
def V3 (K:PySem.W.Frag):Sp:=fun vs H Q _=>∃ (a l e:Addr) (h:Hall) (as:List Addr) (ks:List Call) (c:Int) (es:List Int),vs = [.ref a,.ref l,.int c,.ref e] ∧ SqT K H a (h.row.map V.int) ∧ h.Ok ∧ SqL K H l (as.map V.ref) ∧ m4 H as ks ∧ (∀ k ∈ ks,k.In h) ∧ ks.length ≤ 63 ∧ (SqT K H e (es.map V.int) ∨ SqL K H e (es.map V.int)) ∧ es.length < 64 ∧
 ∀ (f:Addr) (rs:List Addr) (H':Hp),j5 H H' → H f = none → (∀ r ∈ rs,H r = none) → rs.Nodup → ¬ f ∈ rs → H' f = some (.lst (rs.map V.ref)) → x5 H' rs (C8 h ks c es) → Q (.ref f) H'
section
variable {P:Program} {w:World} {K:PySem.W.Frag} {mg:Str → Option Value} {base:Heap}
theorem ae0:FnScope ["hall","call","start","goals"] ["hall","call","start","goals"] (i7 (top 26)):=⟨rfl,rfl,rfl,by decide +kernel,rfl,by decide +kernel,by decide +kernel⟩
theorem aO2 (T:Txt K mg) (C_place_in:Callee P w K mg base 1 "place_in" ["hall","caller"] (aa1 K Hall.c)) (C_racks_of:Callee P w K mg base 2 "racks_of" ["hall","ends"] (at4 K)) (D:Def K mg "holds_needed" (top 26) ["hall","call","start","goals"]):Callee P w K mg base 3 "holds_needed" ["hall","call","start","goals"] (az1 K):=by
 refine D.ok ae0 (fun vs H Q E h=>?_) (fun f cdv A outer s H vs Q E hr h=>?_)
 ·obtain ⟨a,p,g,h,k,st,gs,rfl,_⟩:=h
  rfl
 obtain ⟨a,p,g,h,k,st,gs,rfl,hH,ok,⟨e,ee,ep⟩,hk,hG,q⟩:=h
 have few:=hk.few
 refine ⟨_,(i4 (m8 (j8 C4 (j3 (j0 K) (r6 C_place_in hr rfl (b8 (pv 0) (b8 (j3 (j0 K) (pv 1) i0 (fun _ _=>rfl)) d9 x6) b9)) i0 (fun _ _=>rfl)) (pv 2) (m7 _)) (i5 (i9 z5)) j1)
  (i5 (i9 (i8 (aO4 K rfl) rfl T.m_any boot_any (b8 (F6 (own:=["rack"]) (fr:=[(3,"goals")]) rfl (show CompScope ["hall","call","start","goals"] (i7 (top 26)) _ _ _ from ⟨rfl,by decide +kernel,by decide +kernel,by decide +kernel,by decide +kernel⟩) (y9 K (r6 C_racks_of hr rfl (b8 (pv 0) (b8 (j3 (j0 K) (pv 1) i0 (fun _ _=>rfl)) d9 x6) b9))) (fun cl C s H ex=>⟨(o5 (i:=0) (show (["rack","goals"]:List Str).Nodup from by decide +kernel) rfl (Or.inl rfl) (Or.inr rfl)),N0,(J8 (Y3 K) (pv 0) (pv 1) (by with_unfolding_all rfl))⟩)) d9 V5))))),?_⟩
 refine ⟨_,rfl,_,rfl,p,_,_,_,rfl,rfl,SqT.of ep,rfl,a,h,k.c,rfl,hH,ok,fun r hr1=>?_⟩
 have er:=i3 (H:=H) (a:=r) (o:=.tup [.int (k.c / h.c),.int (k.c % h.c)])
 have s1:=i6 hr1 (.tup [.int (k.c / h.c),.int (k.c % h.c)])
 generalize upd H r (.tup [.int (k.c / h.c),.int (k.c % h.c)]) = H1 at er s1 ⊢
 refine ⟨r,_,_,_,rfl,rfl,SqT.of er,rfl,_,rfl,rfl,_,rfl,?_⟩
 refine A7 (fun c=>?_) (fun c=>?_)
 ·have c':k.c / h.c = st:=by simpa using c
  have:=q H1 s1
  rw [show P4 h st gs k = true by unfold P4; rw [decide_eq_true c']; rfl] at this
  exact this
 ·have c':¬ k.c / h.c = st:=by simpa using c
  refine ⟨_,rfl,_,rfl,p,_,_,_,rfl,rfl,SqT.of (s1 _ _ ep),rfl,a,e,h,k.es,rfl,j5.seqT s1 hH,ok,.inl (SqT.of (s1 _ _ ee)),by lia,fun l H2 s2 _ el=>?_⟩
  have s12:=s1.trans s2
  have rl:=aN9 h k.es
  refine ⟨l,rfl,⟨_,SqL.of el⟩,?_⟩
  refine C9 (xs:=(o8 h k.es).map V.int) (fun i acc σ H'=>H' = H2 ∧ acc = (((o8 h k.es).take i).map fun r=>decide (r ∈ gs)).map V.bl ∧ ∃ v,σ = [v,some (.ref g)])
   ⟨rfl,rfl,none,rfl⟩ (Nat.le_of_lt (n5 (by rw [List.length_map]; lia))) (fun i acc σ H' gg=>?_) (fun i acc σ H' _ gg=>by rw [gg.1]; exact SqL.of el) ?_ ?_
  ·obtain ⟨_,rfl,_⟩:=gg
   rw [List.length_map,List.length_map,List.length_take]
   lia
  ·rintro i y acc σ H' hy ⟨rfl,rfl,v,rfl⟩
   rw [List.getElem?_map] at hy
   obtain ⟨x,hx,rfl⟩:=Option.map_eq_some_iff.mp hy
   refine ⟨_,rfl,_,rfl,g,_,rfl,.inl (s12.seq hG),rfl,O1 gs,rfl,?_,_,rfl⟩
   rw [List.take_succ,hx,List.map_append,List.map_append]
   show _ = _ ++ [V.bl _]
   rw [Y2]
   rfl
  ·rintro acc σ H' ⟨rfl,rfl,v,rfl⟩ l2 hl2
   rw [List.length_map,List.take_length]
   refine ⟨l2,_,rfl,SqL.of i3,?_⟩
   have:=q _ (s12.trans (i6 hl2 (.lst (((o8 h k.es).map fun r=>decide (r ∈ gs)).map V.bl))))
   rw [show P4 h st gs k = ((o8 h k.es).map fun r=>decide (r ∈ gs)).any id by
    unfold P4
    rw [decide_eq_false c',Bool.false_or,List.any_map]
    rfl] at this
   exact this
theorem O7:FnScope ["hall","calls","caller","ends","start","goals","found","call"] ["hall","calls","caller","ends"] (i7 (top 27)):=⟨rfl,rfl,rfl,by decide +kernel,rfl,by decide +kernel,by decide +kernel⟩
theorem aD2 (T:Txt K mg) (C_place_in:Callee P w K mg base 1 "place_in" ["hall","caller"] (aa1 K Hall.c)) (C_racks_of:Callee P w K mg base 2 "racks_of" ["hall","ends"] (at4 K)) (C_holds_needed:Callee P w K mg base 3 "holds_needed" ["hall","call","start","goals"] (az1 K)) (D:Def K mg "holders" (top 27) ["hall","calls","caller","ends"]):Callee P w K mg base 4 "holders" ["hall","calls","caller","ends"] (V3 K):=by
 refine D.ok O7 (fun vs H Q E h=>?_) (fun f cdv A outer s H vs Q E hr h=>?_)
 ·obtain ⟨a,l,e,h,as,ks,c,es,rfl,_⟩:=h
  rfl
 obtain ⟨a,l,e,h,as,ks,c,es,rfl,hH,ok,hL,hC,hin,h63,hE,h64,q⟩:=h
 have b3:=ok.m
 have la:=Paired.length hC
 refine ⟨_,(i4 (j7 (i:=4) O7.nd rfl (Or.inl rfl) (j3 (j0 K) (r6 C_place_in hr rfl (b8 (pv 0) (b8 (pv 2) d9 b9) b9)) i0 (fun _ _=>rfl)))
  (i4 (j7 (i:=5) O7.nd rfl (Or.inl rfl) (r6 C_racks_of hr rfl (b8 (pv 0) (b8 (pv 3) d9 b9) b9)))
  (i4 (aH7 (i:=6) (own:=["k"]) (fr:=[]) rfl O7.nd rfl rfl (show CompScope ["hall","calls","caller","ends","start","goals","found","call"] (i7 (top 27)) _ _ _ from ⟨rfl,by decide +kernel,by decide +kernel,by decide +kernel,by decide +kernel⟩) (z9 rfl T.m_range (b8 (j3 (j0 K) (pv 0) i0 (fun _ _=>rfl)) d9 x6)) (fun cl C s H ex=>⟨(o5 (i:=0) (show (["k"]:List Str).Nodup from by decide +kernel) rfl (Or.inl rfl) (Or.inr rfl)),N0,(q9 d9)⟩) rfl)
  (i4 (A3 PassesOwn.never rfl (y9 K (pv 1)) (o5 (i:=7) O7.nd rfl (Or.inl rfl))
  (i5 (m8 (m9 K (r6 C_holds_needed hr rfl (b8 (pv 0) (b8 (pv 7) (b8 (pv 4) (b8 (pv 5) d9 b9) b9) b9) b9)) (fun _=>rfl)) (i5 (D2 (K8 K PySem.F.plainAttrs_list PySem.F.slot_list_append PySem.F.type_list_append B2 (j3 (n9 K) (pv 6) (j3 (j0 K) (pv 7) i0 (fun _ _=>rfl)) (fun _ _=>rfl)) (b8 (j3 (j0 K) (pv 7) i0 (fun _ _=>rfl)) d9 x6)))) j1)))
  (i5 (i9 (pv 6))))))),?_⟩
 refine ⟨_,rfl,_,rfl,a,h,c,rfl,hH,ok,fun r hr1=>?_⟩
 have er:=i3 (H:=H) (a:=r) (o:=.tup [.int (c / h.c),.int (c % h.c)])
 have s1:=i6 hr1 (.tup [.int (c / h.c),.int (c % h.c)])
 generalize upd H r (.tup [.int (c / h.c),.int (c % h.c)]) = H1 at er s1 ⊢
 refine ⟨r,_,_,_,rfl,rfl,SqT.of er,rfl,?_⟩
 refine ⟨_,rfl,_,rfl,a,e,h,es,rfl,j5.seqT s1 hH,ok,hE.imp (fun z=>j5.seqT s1 z) (fun z=>s1.seq z),h64,fun g H2 s2 _ eg=>?_⟩
 have s12:=s1.trans s2
 refine ⟨_,rfl,a,_,_,_,rfl,rfl,j5.seqT s12 hH,rfl,_,rfl,by show -(2 ^ 62) ≤ h.m; lia,by show h.m < 2 ^ 62; lia,?_⟩
 refine af8 (fun i acc σ H'=>j5 H2 H' ∧ (∃ rs:List Addr,acc = rs.map V.ref ∧ rs.length = i ∧ rs.Nodup ∧ (∀ r ∈ rs,H2 r = none) ∧ x5 H' rs (List.replicate i [])) ∧ ∃ v,σ = [v])
  ⟨j5.refl _,⟨[],rfl,rfl,List.nodup_nil,(fun r hr=>nomatch hr),.nil⟩,none,rfl⟩ (by show h.m.toNat ≤ 16777216; lia) (fun i acc σ H' gg=>?_) ?_ ?_
 ·obtain ⟨_,⟨rs,rfl,hl,_⟩,_⟩:=gg
  rw [List.length_map,hl]
  exact Nat.le_refl _
 ·rintro i acc σ H' hi ⟨g1,⟨rs,rfl,hl,nd,hn,hr⟩,v,rfl⟩
  refine ⟨(by show 0 ≤ sizeLine; decide),fun u hu=>⟨g1.trans (i6 hu _),⟨rs ++ [u],by rw [List.map_append]; rfl,by rw [List.length_append,hl]; rfl,?_,?_,?_⟩,_,rfl⟩⟩
  ·refine List.nodup_append.mpr ⟨nd,by simp,fun x hx y hy=>?_⟩
   rw [List.mem_singleton] at hy
   rintro rfl
   have:H' x ≠ none:=by
    obtain ⟨j,hj⟩:=List.mem_iff_getElem?.mp hx
    obtain ⟨row,_,e2⟩:=m3 hr j x hj
    exact fun z=>by rw [e2] at z; cases z
   exact this (by rw [hy]; exact hu)
  ·intro x hx
   rcases List.mem_append.mp hx with z | z
   ·exact hn x z
   ·rw [List.mem_singleton] at z
    rw [z]; exact g1.free hu
  ·rw [List.replicate_succ']
   exact Paired.snoc (x5.same (i6 hu _) hr) i3
 ·rintro acc σ H3 ⟨s3,⟨rs,rfl,hl,nd,hn,hr⟩,v,rfl⟩ F hF
  have eF:=i3 (H:=H3) (a:=F) (o:=.lst (rs.map V.ref))
  have s4:=s3.trans (i6 hF (.lst (rs.map V.ref)))
  have hr4:=x5.same (i6 hF (.lst (rs.map V.ref))) hr
  have hFn:¬ F ∈ rs:=fun z=>by
   obtain ⟨j,hj⟩:=List.mem_iff_getElem?.mp z
   obtain ⟨row,_,e2⟩:=m3 hr j F hj
   rw [hF] at e2
   cases e2
  generalize upd H3 F (.lst (rs.map V.ref)) = H4 at eF s4 hr4 ⊢
  have hF2:H2 F = none:=s3.free hF
  have e0:List.replicate h.m.toNat [] = J3 h (ks.take 0) (c / h.c) (o8 h es):=by
   unfold J3 F0
   rw [List.take_zero]
   refine List.ext_getElem? fun i=>?_
   rw [List.getElem?_map,List.getElem?_replicate]
   by_cases hi:i < h.m.toNat
   ·rw [if_pos hi,List.getElem?_range hi]
    rfl
   ·rw [if_neg hi,List.getElem?_eq_none (by simpa using hi)]
    rfl
  rw [e0] at hr4
  refine ⟨_,rfl,l,rfl,⟨_,(s12.trans s4).seq hL⟩,?_⟩
  refine D8 (xs:=as.map V.ref) (fun i σ H'=>j5 H2 H' ∧ H' F = some (.lst (rs.map V.ref)) ∧ x5 H' rs (J3 h (ks.take i) (c / h.c) (o8 h es)) ∧ ∃ v7,σ = [some (.ref a),some (.ref l),some (.int c),some (.ref e),some (.int (c / h.c)),some (.ref g),some (.ref F),v7])
   ⟨s4,eF,hr4,none,rfl⟩ (fun i σ H' _ gg=>(s12.trans gg.1).seq hL) ?_ ?_
  ·rintro i x σ H' hx ⟨s5,eF5,hr5,v7,rfl⟩
   rw [List.getElem?_map] at hx
   obtain ⟨p,hp,rfl⟩:=Option.map_eq_some_iff.mp hx
   obtain ⟨k,hk1,hk2⟩:=m3 hC i p hp
   have hkI:=hin k (List.mem_of_getElem? hk1)
   have hkk:=hkI.k
   have tk:ks.take (i + 1) = ks.take i ++ [k]:=by rw [List.take_succ,hk1]; rfl
   have s25:=s12.trans s5
   have hk5:B4 H' p k:=B4.same (fun b xs z=>s25 _ _ z) hk2
   refine ⟨_,rfl,_,rfl,_,rfl,_,rfl,a,p,g,h,k,c / h.c,o8 h es,rfl,j5.seqT s25 hH,ok,hk5,hkI,SqL.of (s5 _ _ eg),fun H6 s6=>?_⟩
   refine ⟨_,rfl,?_⟩
   have hr6:=x5.same s6 hr5
   have eF6:=s6 _ _ eF5
   refine A7 (fun cc=>?_) (fun cc=>?_)
   ·obtain ⟨ce,e1,e2⟩:=B4.same (fun b xs z=>s6 _ _ z) hk5
    obtain ⟨n,hnk⟩:∃ n:Nat,k.k = (n:Int):=⟨k.k.toNat,by lia⟩
    have hn1:n < h.m.toNat:=by lia
    have lr:=Paired.length hr6
    rw [T0] at lr
    have ea:rs[n]? = some (rs[n]'(by lia)):=List.getElem?_eq_getElem _
    generalize rs[n]'(by lia) = ra at ea
    obtain ⟨row,w1,w2⟩:=m3 hr6 n ra ea
    have w1':row = F0 h (ks.take i) (c / h.c) (o8 h es) n:=by
     unfold J3 at w1
     rw [List.getElem?_map,List.getElem?_range hn1] at w1
     exact (Option.some.inj w1).symm
    have hat:atI (rs.map V.ref) k.k = some (.ref ra):=by rw [hnk]; exact z8 (by rw [List.getElem?_map,ea]; rfl)
    have rlen:row.length ≤ 63:=by
     rw [w1']
     have h1:=aa3 h (ks.take i) (c / h.c) (o8 h es) n
     have h2:(ks.take i).length ≤ ks.length:=by rw [List.length_take]; lia
     lia
    refine ⟨_,rfl,_,rfl,p,_,_,_,rfl,rfl,SqT.of e2,rfl,F,_,_,_,rfl,rfl,SqL.of eF6,hat,.inl ⟨rfl,_,SqL.of w2⟩,_,rfl,p,_,_,_,rfl,rfl,SqT.of e2,rfl,ra,row.map V.int,_,rfl,rfl,w2,n5 (by rw [List.length_map]; lia),?_⟩
    have hra:=List.mem_of_getElem? ea
    have hFra:F ≠ ra:=fun z=>hFn (by rw [z]; exact hra)
    refine ⟨j5.put (s5.trans s6) (hn ra hra),by rw [j4 hFra]; exact eF6,?_,_,rfl⟩
    have em:(J3 h (ks.take i) (c / h.c) (o8 h es)).set n (row ++ [k.c]) = J3 h (ks.take (i + 1)) (c / h.c) (o8 h es):=by
     unfold J3
     rw [aC8]
     refine List.map_congr_left fun r hr=>?_
     rw [tk,V8]
     by_cases z:r = n
     ·subst z
      rw [if_pos rfl,if_pos (by rw [decide_eq_true hnk,cc]; rfl),w1']
     ·rw [if_neg z,if_neg (by rw [decide_eq_false (fun y=>z (by lia))]; exact Bool.false_ne_true),List.append_nil]
    rw [← em,show row.map V.int ++ [V.int k.c] = (row ++ [k.c]).map V.int by rw [List.map_append]; rfl]
    exact x5.set hr6 nd ea
   ·refine ⟨s5.trans s6,eF6,?_,_,rfl⟩
    have em:J3 h (ks.take (i + 1)) (c / h.c) (o8 h es) = J3 h (ks.take i) (c / h.c) (o8 h es):=by
     unfold J3
     refine List.map_congr_left fun r hr=>?_
     rw [tk,V8,if_neg (fun z=>cc (Bool.and_eq_true_iff.mp z).2),List.append_nil]
    rw [em]
    exact hr6
  ·rintro σ H' ⟨s5,eF5,hr5,v7,rfl⟩
   rw [List.length_map,la,List.take_length] at hr5
   exact ⟨_,rfl,q F rs H' (s12.trans s5) (s12.free hF2) (fun r hr=>s12.free (hn r hr)) nd hFn eF5 hr5⟩
end
def E8 (sh:Int) (k:Nat):Bool:=decide (Builtin.bitAnd (sh / 2 ^ k) 1 = 0)
def z7 (h:Hall) (sh:Int):List Nat:=(List.range h.m.toNat).filter (E8 sh)
def C2 (ks:List Nat):List V:=ks.map fun (k:Nat)=>V.int k
theorem aB4 (ks:List Nat):C2 ks = (ks.map fun (k:Nat)=>(k:Int)).map V.int:=by
 unfold C2
 rw [List.map_map]
 rfl
theorem ag2 (h:Hall) (sh:Int):(z7 h sh).length ≤ h.m.toNat:=by
 have:=List.length_filter_le (E8 sh) (List.range h.m.toNat)
 rw [List.length_range] at this
 exact this
theorem Y7 {h:Hall} {sh:Int} {k:Nat} (hk:k ∈ z7 h sh):k < h.m.toNat:=List.mem_range.mp (List.mem_filter.mp hk).1
def aG0 (K:PySem.W.Frag):Sp:=fun vs H Q _=>∃ (a:Addr) (h:Hall) (sh:Int),vs = [.ref a,.int sh] ∧ SqT K H a (h.row.map V.int) ∧ h.Ok ∧ ∀ l,H l = none → Q (.ref l) (upd H l (.lst (C2 (z7 h sh))))
section
variable {P:Program} {w:World} {K:PySem.W.Frag} {mg:Str → Option Value} {base:Heap}
theorem au6:FnScope ["hall","shut"] ["hall","shut"] (i7 (top 18)):=⟨rfl,rfl,rfl,by decide +kernel,rfl,by decide +kernel,by decide +kernel⟩
theorem aY8 (T:Txt K mg) (D:Def K mg "left_open" (top 18) ["hall","shut"]):Callee P w K mg base 1 "left_open" ["hall","shut"] (aG0 K):=by
 refine D.ok au6 (fun vs H Q E h=>?_) (fun f cdv A outer s H vs Q E hr h=>?_)
 ·obtain ⟨a,h,sh,rfl,_⟩:=h
  rfl
 obtain ⟨a,h,sh,rfl,hH,ok,q⟩:=h
 have b3:=ok.m
 refine ⟨_,(i5 (i9 (F6 (own:=["k"]) (fr:=[(1,"shut")]) rfl (show CompScope ["hall","shut"] (i7 (top 18)) _ _ _ from ⟨rfl,by decide +kernel,by decide +kernel,by decide +kernel,by decide +kernel⟩) (z9 rfl T.m_range (b8 (j3 (j0 K) (pv 0) i0 (fun _ _=>rfl)) d9 x6)) (fun cl C s H ex=>⟨(o5 (i:=0) (show (["k","shut"]:List Str).Nodup from by decide +kernel) rfl (Or.inl rfl) (Or.inr rfl)),(aa6 (j8 C4 (j2 aC7 (j2 aC2 (pv 1) (pv 0)) i0) i0 (m7 _))),(pv 0)⟩)))),?_⟩
 refine ⟨_,rfl,a,_,_,_,rfl,rfl,hH,rfl,_,rfl,by show -(2 ^ 62) ≤ h.m; lia,by show h.m < 2 ^ 62; lia,?_⟩
 refine af8 (fun i acc σ H'=>H' = H ∧ acc = C2 ((List.range i).filter (E8 sh)) ∧ ∃ v,σ = [v,some (.int sh)])
  ⟨rfl,rfl,none,rfl⟩ (by show h.m.toNat ≤ 16777216; lia) (fun i acc σ H' g=>?_) ?_ ?_
 ·obtain ⟨_,rfl,_⟩:=g
  unfold C2
  rw [List.length_map]
  have:=List.length_filter_le (E8 sh) (List.range i)
  rw [List.length_range] at this
  exact this
 ·rintro i acc σ H' hi ⟨rfl,rfl,v,rfl⟩
  rw [Int.zero_add]
  have step:C2 ((List.range (i + 1)).filter (E8 sh)) = C2 ((List.range i).filter (E8 sh)) ++ (if E8 sh i = true then [V.int (i:Int)] else []):=by
   unfold C2
   rw [List.range_succ,List.filter_append,List.map_append]
   by_cases c:E8 sh i = true
   ·rw [if_pos c]
    simp [c]
   ·rw [if_neg c]
    simp [c]
  refine ⟨_,rfl,_,rfl,_,_,rfl,rfl,by lia,_,_,rfl,rfl,rfl,_,rfl,?_⟩
  refine A7 (fun c=>?_) (fun c=>?_)
  ·have c':E8 sh i = true:=by
    unfold E8
    simpa using c
   refine ⟨_,rfl,rfl,?_,_,rfl⟩
   rw [step,if_pos c']
  ·have c':¬ E8 sh i = true:=by
    unfold E8
    simpa using c
   refine ⟨rfl,?_,_,rfl⟩
   rw [step,if_neg c',List.append_nil]
 ·rintro acc σ H' ⟨rfl,rfl,v,rfl⟩ l hl
  exact q l hl
end
structure Asked (K:PySem.W.Frag) (H:Hp) (a l e:Addr) (h:Hall) (as:List Addr) (ks:List Call) (es:List Int):Prop where
 a:SqT K H a (h.row.map V.int)
 ok:h.Ok
 l:SqL K H l (as.map V.ref)
 c:m4 H as ks
 hin:∀ k ∈ ks,k.In h
 few:ks.length ≤ 63
 e:SqT K H e (es.map V.int) ∨ SqL K H e (es.map V.int)
 len:es.length < 64
theorem Asked.same {K:PySem.W.Frag} {H H':Hp} {a l e:Addr} {h:Hall} {as:List Addr} {ks:List Call} {es:List Int} (s:j5 H H') (k:Asked K H a l e h as ks es):Asked K H' a l e h as ks es :=
 ⟨j5.seqT s k.a,k.ok,s.seq k.l,m4.same (fun b xs z=>s _ _ z) k.c,k.hin,k.few,k.e.imp (fun z=>j5.seqT s z) (fun z=>s.seq z),k.len⟩
def M9 (h:Hall) (ks:List Call) (c:Int) (es:List Int) (k:Nat):Bool:=decide (F0 h ks (c / h.c) (o8 h es) k = [])
def E6 (h:Hall) (ks:List Call) (c:Int) (es:List Int) (sh:Int):List Nat:=(z7 h sh).filter (M9 h ks c es)
theorem aU9 (h:Hall) (ks:List Call) (c:Int) (es:List Int) (sh:Int):(E6 h ks c es sh).length ≤ h.m.toNat:=Nat.le_trans (List.length_filter_le _ _) (ag2 h sh)
def aU8 (K:PySem.W.Frag):Sp:=fun vs H Q _=>∃ (a l e:Addr) (h:Hall) (as:List Addr) (ks:List Call) (c:Int) (es:List Int) (sh:Int),vs = [.ref a,.ref l,.int c,.ref e,.int sh] ∧ Asked K H a l e h as ks es ∧
 ∀ (f:Addr) (H':Hp),j5 H H' → H f = none → H' f = some (.lst (C2 (E6 h ks c es sh))) → Q (.ref f) H'
section
variable {P:Program} {w:World} {K:PySem.W.Frag} {mg:Str → Option Value} {base:Heap}
theorem aK6:FnScope ["hall","calls","caller","ends","shut","held"] ["hall","calls","caller","ends","shut"] (i7 (top 28)):=⟨rfl,rfl,rfl,by decide +kernel,rfl,by decide +kernel,by decide +kernel⟩
theorem a51 (T:Txt K mg) (C_holders:Callee P w K mg base 4 "holders" ["hall","calls","caller","ends"] (V3 K)) (C_left_open:Callee P w K mg base 1 "left_open" ["hall","shut"] (aG0 K)) (D:DefD K mg "ways" (top 28) ["hall","calls","caller","ends","shut"] [.int 0]):CalleeD P w K mg base 5 "ways" ["hall","calls","caller","ends","shut"] [.int 0] (aU8 K):=by
 refine D.ok aK6 (fun vs H Q E h=>?_) (fun f cdv A outer s H vs Q E hr h=>?_)
 ·obtain ⟨a,l,e,h,as,ks,c,es,sh,rfl,_⟩:=h
  rfl
 obtain ⟨a,l,e,h,as,ks,c,es,sh,rfl,ask,q⟩:=h
 have b3:=ask.ok.m
 refine ⟨_,(i4 (j7 (i:=5) aK6.nd rfl (Or.inr rfl) (r6 C_holders hr rfl (b8 (pv 0) (b8 (pv 1) (b8 (pv 2) (b8 (pv 3) d9 b9) b9) b9) b9)))
  (i5 (i9 (F6 (own:=["k"]) (fr:=[(5,"held")]) rfl (show CompScope ["hall","calls","caller","ends","shut","held"] (i7 (top 28)) _ _ _ from ⟨rfl,by decide +kernel,by decide +kernel,by decide +kernel,by decide +kernel⟩) (y9 K (r6 C_left_open hr rfl (b8 (pv 0) (b8 (pv 4) d9 b9) b9))) (fun cl C s H ex=>⟨(o5 (i:=0) (show (["k","held"]:List Str).Nodup from by decide +kernel) rfl (Or.inl rfl) (Or.inr rfl)),(aa6 (j8 (a44 K (Room.units0 hr)) (j3 (n9 K) (pv 1) (pv 0) (fun _ _=>rfl)) (q9 d9) (m7 _))),(pv 0)⟩))))),?_⟩
 refine ⟨_,rfl,_,rfl,_,rfl,_,rfl,a,l,e,h,as,ks,c,es,rfl,ask.a,ask.ok,ask.l,ask.c,ask.hin,ask.few,ask.e,ask.len,fun F rs H1 s1 hF hrs nd hFn eF hrows=>?_⟩
 refine ⟨_,rfl,_,rfl,a,h,sh,rfl,j5.seqT s1 ask.a,ask.ok,fun lo hlo=>?_⟩
 have elo:=i3 (H:=H1) (a:=lo) (o:=.lst (C2 (z7 h sh)))
 have s2:=i6 hlo (.lst (C2 (z7 h sh)))
 generalize upd H1 lo (.lst (C2 (z7 h sh))) = H2 at elo s2 ⊢
 have ol:=ag2 h sh
 refine ⟨lo,rfl,⟨_,SqL.of elo⟩,?_⟩
 refine C9 (xs:=C2 (z7 h sh)) (fun i acc σ H'=>j5 H2 H' ∧ acc = C2 (((z7 h sh).take i).filter (M9 h ks c es)) ∧ ∃ v,σ = [v,some (.ref F)])
  ⟨j5.refl _,rfl,none,rfl⟩ (Nat.le_of_lt (n5 (by unfold C2; rw [List.length_map]; lia))) (fun i acc σ H' g=>?_) (fun i acc σ H' _ g=>SqL.of (g.1 _ _ elo)) ?_ ?_
 ·obtain ⟨_,rfl,_⟩:=g
  unfold C2
  rw [List.length_map]
  exact Nat.le_trans (List.length_filter_le _ _) (by rw [List.length_take]; lia)
 ·rintro i y acc σ H' hy ⟨s3,rfl,v,rfl⟩
  unfold C2 at hy
  rw [List.getElem?_map] at hy
  obtain ⟨k,hk,rfl⟩:=Option.map_eq_some_iff.mp hy
  have hkm:=Y7 (List.mem_of_getElem? hk)
  have step:C2 (((z7 h sh).take (i + 1)).filter (M9 h ks c es)) = C2 (((z7 h sh).take i).filter (M9 h ks c es)) ++ (if M9 h ks c es k = true then [V.int (k:Int)] else []):=by
   unfold C2
   rw [List.take_succ,hk,List.filter_append,List.map_append]
   by_cases cc:M9 h ks c es k = true
   ·rw [if_pos cc]
    simp [cc]
   ·rw [if_neg cc]
    simp [cc]
  have s13:=s2.trans s3
  have hr3:=x5.same s13 hrows
  have lr:=Paired.length hr3
  unfold C8 at lr
  rw [T0] at lr
  have ea:rs[k]? = some (rs[k]'(by lia)):=List.getElem?_eq_getElem _
  generalize rs[k]'(by lia) = ra at ea
  obtain ⟨row,w1,w2⟩:=m3 hr3 k ra ea
  have w1':row = F0 h ks (c / h.c) (o8 h es) k:=by
   unfold C8 J3 at w1
   rw [List.getElem?_map,List.getElem?_range hkm] at w1
   exact (Option.some.inj w1).symm
  have hat:atI (rs.map V.ref) (k:Int) = some (.ref ra):=z8 (by rw [List.getElem?_map,ea]; rfl)
  refine ⟨_,rfl,_,rfl,F,_,_,_,rfl,rfl,SqL.of (s13 _ _ eF),hat,(by show 0 ≤ sizeLine; decide),fun o ho=>?_⟩
  have s4:=i6 ho (.lst [])
  refine ⟨ra,o,row,[],rfl,rfl,SqL.of (s4 _ _ w2),SqL.of i3,_,rfl,?_⟩
  refine A7 (fun cc=>?_) (fun cc=>?_)
  ·refine ⟨_,rfl,s3.trans s4,?_,_,rfl⟩
   have c':M9 h ks c es k = true:=by
    unfold M9
    rw [← w1']
    exact cc
   rw [step,if_pos c']
  ·refine ⟨s3.trans s4,?_,_,rfl⟩
   have c':¬ M9 h ks c es k = true:=by
    unfold M9
    rw [← w1']
    exact cc
   rw [step,if_neg c',List.append_nil]
 ·rintro acc σ H' ⟨s3,rfl,v,rfl⟩ l2 hl2
  have ln:(C2 (z7 h sh)).length = (z7 h sh).length:=by unfold C2; rw [List.length_map]
  rw [ln,List.take_length]
  have s13:=s1.trans (s2.trans s3)
  exact q l2 _ (s13.trans (i6 hl2 _)) (s13.free hl2) i3
end
theorem ay4 {h:Hall} {k:Call} {c:Int} {es:List Int}:(A5 h k.c k.es k.k).filter (fun d=>inD (A5 h c es k.k) d) ≠ [] ↔ P4 h (c / h.c) (o8 h es) k = true:=by
 unfold P4
 rw [Bool.or_eq_true,decide_eq_true_iff,List.any_eq_true]
 constructor
 ·intro z
  obtain ⟨d,hd⟩:=List.exists_mem_of_ne_nil _ z
  obtain ⟨h1,h2⟩:=List.mem_filter.mp hd
  rw [af2] at h2
  rcases I9.mp h1 with rfl | ⟨e,he,rfl⟩
  ·rcases I9.mp h2 with q | ⟨e',he',q⟩
   ·left
    unfold nIn at q
    simp only [List.cons.injEq,Sum.inl.injEq] at q
    exact q.2.1
   ·unfold nIn R0 at q
    simp at q
    exact absurd q.1 (by decide)
  ·rcases I9.mp h2 with q | ⟨e',he',q⟩
   ·unfold nIn R0 at q
    simp at q
    exact absurd q.1 (by decide)
   ·right
    unfold R0 at q
    simp only [List.cons.injEq,Sum.inl.injEq] at q
    exact ⟨e / h.e,R8.mpr ⟨e,he,rfl⟩,decide_eq_true (R8.mpr ⟨e',he',q.2.1.symm⟩)⟩
 ·intro z
  have:∃ d,d ∈ A5 h k.c k.es k.k ∧ d ∈ A5 h c es k.k:=by
   rcases z with z | ⟨r,h1,h2⟩
   ·exact ⟨nIn (k.c / h.c) k.k,I9.mpr (.inl rfl),I9.mpr (.inl (by rw [z]))⟩
   ·obtain ⟨e,he,q1⟩:=R8.mp h1
    obtain ⟨e',he',q2⟩:=R8.mp (of_decide_eq_true h2)
    exact ⟨R0 r k.k,I9.mpr (.inr ⟨e,he,by rw [q1]⟩),I9.mpr (.inr ⟨e',he',by rw [q2]⟩)⟩
  obtain ⟨d,h1,h2⟩:=this
  exact List.ne_nil_of_mem (List.mem_filter.mpr ⟨h1,af2.mpr h2⟩)
theorem al0 {H:Hp} {F:Addr} {rs:List Addr} {rows:List (List Int)} (h:x5 H rs rows) (e:H F = some (.lst (rs.map V.ref))) (hm:F ∈ rs):False:=by
 obtain ⟨m,hm'⟩:=List.mem_iff_getElem?.mp hm
 obtain ⟨row,_,e2⟩:=m3 h m F hm'
 have e2:H F = some (.lst (row.map V.int)):=e2
 rw [e] at e2
 have e3:rs.map V.ref = row.map V.int:=by
  have:=Option.some.inj e2
  exact HO.lst.inj this
 match rs,row,e3,hm with
 | x :: _,[],e3,_=>simp at e3
 | x :: _,y :: _,e3,_=>simp at e3
def ay7 (K:PySem.W.Frag):Sp:=fun vs H Q _=>∃ (a l e:Addr) (h:Hall) (as:List Addr) (ks:List Call) (c:Int) (es:List Int),vs = [.ref a,.ref l,.int c,.ref e] ∧ SqT K H a (h.row.map V.int) ∧ h.Ok ∧ SqL K H l (as.map V.ref) ∧ m4 H as ks ∧ (∀ k ∈ ks,k.In h) ∧ ks.length ≤ 63 ∧ (SqT K H e (es.map V.int) ∨ SqL K H e (es.map V.int)) ∧ es.length ≤ 13 ∧
 ∀ (f:Addr) (rs:List Addr) (H':Hp),j5 H H' → H' f = some (.lst (rs.map V.ref)) → x5 H' rs (C8 h ks c es) → Q (.ref f) H'
section
variable {P:Program} {w:World} {K:PySem.W.Frag} {mg:Str → Option Value} {base:Heap}
theorem B9:FnScope ["_law_hall_here","_law_calls_here","_law_caller_here","_law_ends_here","_law_due_here","_law_k","_law_need","_law_held","_law_call","_law_lines_here"] ["_law_hall_here","_law_calls_here","_law_caller_here","_law_ends_here"] (i7 (top 48)):=⟨rfl,rfl,rfl,by decide +kernel,rfl,by decide +kernel,by decide +kernel⟩
theorem aM4 (T:Txt K mg) (C__law_lines:Callee P w K mg base 1 "_law_lines" ["_law_hall_here","_law_caller_here","_law_ends_here","_law_k"] (ar7 K)) (D:Def K mg "_law_holds" (top 48) ["_law_hall_here","_law_calls_here","_law_caller_here","_law_ends_here"]):Callee P w K mg base 2 "_law_holds" ["_law_hall_here","_law_calls_here","_law_caller_here","_law_ends_here"] (ay7 K):=by
 refine D.ok B9 (fun vs H Q E h=>?_) (fun f cdv A outer s H vs Q E hr h=>?_)
 ·obtain ⟨a,l,e,h,as,ks,c,es,rfl,_⟩:=h
  rfl
 obtain ⟨a,l,e,h,as,ks,c,es,rfl,hH,ok,hL,hC,hin,h63,hE,few,q⟩:=h
 have b3:=ok.m
 have la:=Paired.length hC
 refine ⟨_,(i4 (j7 (i:=4) B9.nd rfl (Or.inl rfl) (q9 d9))
  (i4 (A3 PassesOwn.never rfl (z9 rfl T.m_range (b8 (j3 (j0 K) (pv 0) i0 (fun _ _=>rfl)) d9 x6)) (o5 (i:=5) B9.nd rfl (Or.inl rfl))
  (i4 (j7 (i:=6) B9.nd rfl (Or.inr rfl) (r6 C__law_lines hr rfl (b8 (pv 0) (b8 (pv 2) (b8 (pv 3) (b8 (pv 5) d9 b9) b9) b9) b9)))
  (i4 (j7 (i:=7) B9.nd rfl (Or.inl rfl) (q9 d9))
  (i4 (A3 PassesOwn.never rfl (y9 K (pv 1)) (o5 (i:=8) B9.nd rfl (Or.inl rfl))
  (i4 (j7 (i:=9) B9.nd rfl (Or.inl rfl) (r6 C__law_lines hr rfl (b8 (pv 0) (b8 (j3 (j0 K) (pv 8) i0 (fun _ _=>rfl)) (b8 (j3 (j0 K) (pv 8) i0 (fun _ _=>rfl)) (b8 (j3 (j0 K) (pv 8) i0 (fun _ _=>rfl)) d9 x6) x6) x6) b9)))
  (i5 (m8 (PW.pt (as9 (j8 C4 (j3 (j0 K) (pv 8) i0 (fun _ _=>rfl)) (pv 5) (m7 _)) (af0 (j8 (a09 K (aE7 aC3) (Room.units2 hr)) (F6 (own:=["_law_line"]) (fr:=[(6,"_law_need")]) rfl (show CompScope ["_law_hall_here","_law_calls_here","_law_caller_here","_law_ends_here","_law_due_here","_law_k","_law_need","_law_held","_law_call","_law_lines_here"] (i7 (top 48)) _ _ _ from ⟨rfl,by decide +kernel,by decide +kernel,by decide +kernel,by decide +kernel⟩) (y9 K (pv 9)) (fun cl C s H ex=>⟨(o5 (i:=0) (show (["_law_line","_law_need"]:List Str).Nodup from by decide +kernel) rfl (Or.inl rfl) (Or.inr rfl)),(aa6 (j8 (a43 K (Room.unitsT hr)) (pv 0) (pv 1) (by with_unfolding_all rfl))),(pv 0)⟩)) (q9 d9) (m7 _))))) (i5 (D2 (K8 K PySem.F.plainAttrs_list PySem.F.slot_list_append PySem.F.type_list_append B2 (pv 7) (b8 (j3 (j0 K) (pv 8) i0 (fun _ _=>rfl)) d9 x6)))) j1))))
  (i5 (D2 (K8 K PySem.F.plainAttrs_list PySem.F.slot_list_append PySem.F.type_list_append B2 (pv 4) (b8 (pv 7) d9 b9))))))))
  (i5 (i9 (pv 4))))),?_⟩
 refine ⟨(by show 0 ≤ sizeLine; decide),fun F hF=>?_⟩
 have eF:=i3 (H:=H) (a:=F) (o:=.lst [])
 have s1:=i6 hF (.lst [])
 generalize upd H F (.lst []) = H1 at eF s1 ⊢
 refine ⟨_,rfl,a,_,_,_,rfl,rfl,j5.seqT s1 hH,rfl,_,rfl,by show -(2 ^ 62) ≤ h.m; lia,by show h.m < 2 ^ 62; lia,?_⟩
 refine A4 (fun i σ H'=>j5 H H' ∧ (∃ rs:List Addr,H' F = some (.lst (rs.map V.ref)) ∧ x5 H' rs ((List.range i).map (F0 h ks (c / h.c) (o8 h es)))) ∧ ∃ v5 v6 v7 v8 v9,σ = [some (.ref a),some (.ref l),some (.int c),some (.ref e),some (.ref F),v5,v6,v7,v8,v9])
  ⟨s1,⟨[],eF,.nil⟩,none,none,none,none,none,rfl⟩ ?_ ?_
 ·rintro i σ H' hi ⟨s2,⟨rs,eF2,hr2⟩,v5,v6,v7,v8,v9,rfl⟩
  rw [Int.zero_add]
  refine ⟨_,rfl,_,rfl,_,rfl,_,rfl,a,e,h,c,(i:Int),es,rfl,j5.seqT s2 hH,ok,(hE.imp (fun z=>j5.seqT s2 z) fun z=>s2.seq z),few,fun nl nas H3 s3 hnl enl tnl=>?_⟩
  refine ⟨(by show 0 ≤ sizeLine; decide),fun hd hhd=>?_⟩
  have ehd:=i3 (H:=H3) (a:=hd) (o:=.lst [])
  have s4:=i6 hhd (.lst [])
  generalize upd H3 hd (.lst []) = H4 at ehd s4 ⊢
  have s24:=(s2.trans s3).trans s4
  have lr:=Paired.length hr2
  rw [List.length_map,List.length_range] at lr
  refine ⟨_,rfl,l,rfl,⟨_,s24.seq hL⟩,?_⟩
  refine D8 (xs:=as.map V.ref) (fun j σ H'=>j5 H3 H' ∧ H' hd = some (.lst ((F0 h (ks.take j) (c / h.c) (o8 h es) i).map V.int)) ∧ ∃ v8 v9,σ = [some (.ref a),some (.ref l),some (.int c),some (.ref e),some (.ref F),some (.int i),some (.ref nl),some (.ref hd),v8,v9])
   ⟨s4,ehd,_,_,rfl⟩ (fun j σ H' _ gg=>((s2.trans s3).trans gg.1).seq hL) ?_ ?_
  ·rintro j x σ H' hx ⟨s5,ehd5,v8,v9,rfl⟩
   rw [List.getElem?_map] at hx
   obtain ⟨p,hp,rfl⟩:=Option.map_eq_some_iff.mp hx
   obtain ⟨k,hk1,hk2⟩:=m3 hC j p hp
   have hkI:=hin k (List.mem_of_getElem? hk1)
   have tk:ks.take (j + 1) = ks.take j ++ [k]:=by rw [List.take_succ,hk1]; rfl
   have s25:=(s2.trans s3).trans s5
   obtain ⟨ce,e1,e2⟩:=B4.same (fun b xs z=>s25 _ _ z) hk2
   have kf:=hkI.few
   refine ⟨_,rfl,_,rfl,p,_,_,_,rfl,rfl,SqT.of e2,rfl,_,rfl,p,_,_,_,rfl,rfl,SqT.of e2,rfl,_,rfl,p,_,_,_,rfl,rfl,SqT.of e2,rfl,a,ce,h,k.c,k.k,k.es,rfl,j5.seqT s25 hH,ok,.inl (SqT.of e1),Nat.le_succ_of_le kf,fun ll las H6 s6 hll ell tll=>?_⟩
   have e26:=s6 _ _ e2
   refine ⟨_,rfl,p,_,_,_,rfl,rfl,SqT.of e26,rfl,_,rfl,rfl,_,rfl,?_⟩
   have ehd6:=s6 _ _ ehd5
   have s36:=s5.trans s6
   have lnl:=Paired.length tll
   have ll2:=aa9 h k.c k.es k.k
   have tn6:=D1.same (fun b xs z=>s36 _ _ z) tnl
   have skip:(decide (k.k = (i:Int)) && P4 h (c / h.c) (o8 h es) k) = false → F0 h (ks.take (j + 1)) (c / h.c) (o8 h es) i = F0 h (ks.take j) (c / h.c) (o8 h es) i:=fun z=>by
    rw [tk,V8,if_neg (by rw [z]; exact Bool.false_ne_true),List.append_nil]
   refine A7 (fun cc=>?_) (fun cc=>?_)
   ·have cc':k.k = (i:Int):=by simpa using cc
    rw [← cc'] at tn6
    refine ⟨_,rfl,ll,rfl,⟨_,SqL.of ell⟩,?_⟩
    refine C9 (xs:=las.map V.ref) (fun m acc σ H''=>H'' = H6 ∧ (∃ bs,acc = bs.map V.ref ∧ D1 H6 bs (((A5 h k.c k.es k.k).take m).filter fun d=>inD (A5 h c es k.k) d)) ∧ ∃ v,σ = [v,some (.ref nl)])
     ⟨rfl,⟨[],rfl,.nil⟩,none,rfl⟩ (Nat.le_of_lt (n5 (by rw [List.length_map]; lia))) (fun m acc σ H'' g=>?_) (fun m acc σ H'' _ g=>by rw [g.1]; exact SqL.of ell) ?_ ?_
    ·obtain ⟨_,⟨bs,rfl,hb⟩,_⟩:=g
     have:=Paired.length hb
     rw [List.length_map,this]
     exact Nat.le_trans (List.length_filter_le _ _) (by rw [List.length_take]; lia)
    ·rintro m y acc σ H'' hy ⟨rfl,⟨bs,rfl,hb⟩,v,rfl⟩
     rw [List.getElem?_map] at hy
     obtain ⟨x,hx,rfl⟩:=Option.map_eq_some_iff.mp hy
     obtain ⟨d,hd1,hd2⟩:=m3 tll m x hx
     have step:((A5 h k.c k.es k.k).take (m + 1)).filter (fun d=>inD (A5 h c es k.k) d) = ((A5 h k.c k.es k.k).take m).filter (fun d=>inD (A5 h c es k.k) d) ++ (if inD (A5 h c es k.k) d = true then [d] else []):=by
      rw [List.take_succ,hd1,List.filter_append]
      by_cases c:inD (A5 h c es k.k) d = true
      ·rw [if_pos c]
       simp [c]
      ·rw [if_neg c]
       simp [c]
     refine ⟨_,rfl,_,rfl,nl,x,nas,d,A5 h c es k.k,rfl,rfl,SqL.of (s36 _ _ enl),SqT.of hd2,F9 tn6 (fun _ _ _ z=>SqT.of z),_,rfl,?_⟩
     refine A7 (fun cd=>?_) (fun cd=>?_)
     ·refine ⟨_,rfl,rfl,⟨bs ++ [_],by rw [List.map_append]; rfl,?_⟩,_,rfl⟩
      rw [step,if_pos (show inD (A5 h c es k.k) d = true from cd)]
      exact Paired.snoc hb hd2
     ·refine ⟨rfl,⟨bs,rfl,?_⟩,_,rfl⟩
      rw [step,if_neg (show ¬ inD (A5 h c es k.k) d = true from cd),List.append_nil]
      exact hb
    rintro acc σ H'' ⟨rfl,⟨bs,rfl,hb⟩,v,rfl⟩ l5 hl5
    rw [List.length_map,lnl,List.take_length] at hb
    have el5:=i3 (H:=H'') (a:=l5) (o:=.lst (bs.map V.ref))
    have s10:=i6 hl5 (.lst (bs.map V.ref))
    generalize upd H'' l5 (.lst (bs.map V.ref)) = H10 at el5 s10 ⊢
    refine ⟨(by show 0 ≤ sizeLine; decide),fun o ho=>?_⟩
    have eo:=i3 (H:=H10) (a:=o) (o:=.lst [])
    have s11:=i6 ho (.lst [])
    generalize upd H10 o (.lst []) = H11 at eo s11 ⊢
    have sA:=s10.trans s11
    have ehdA:=sA _ _ ehd6
    have e2A:=sA _ _ e26
    refine ⟨_,[],⟨l5,_,rfl,SqL.of (s11 _ _ el5),R9 (D1.same (fun b xs q=>sA _ _ q) hb)⟩,⟨o,[],rfl,SqL.of eo,.nil⟩,_,rfl,?_⟩
    refine A7 (fun c2=>?_) (fun c2=>?_)
    ·have c3:(A5 h k.c k.es k.k).filter (fun d=>inD (A5 h c es k.k) d) ≠ []:=by simpa using c2
     have c4:=ay4.mp c3
     have hlen:=aa3 h (ks.take j) (c / h.c) (o8 h es) i
     have hl2:(ks.take j).length ≤ ks.length:=by rw [List.length_take]; lia
     refine ⟨_,rfl,.inl ⟨rfl,_,SqL.of ehdA⟩,_,rfl,p,_,_,_,rfl,rfl,SqT.of e2A,rfl,hd,_,_,rfl,rfl,ehdA,n5 (by rw [List.length_map]; lia),?_⟩
     refine ⟨j5.put (s36.trans sA) hhd,?_,_,_,rfl⟩
     rw [i3,tk,V8,if_pos (by rw [decide_eq_true cc',c4]; rfl),List.map_append]
     rfl
    ·have c3:(A5 h k.c k.es k.k).filter (fun d=>inD (A5 h c es k.k) d) = []:=by simpa using c2
     have c4:P4 h (c / h.c) (o8 h es) k = false:=Bool.eq_false_iff.mpr fun z=>ay4.mpr z c3
     refine ⟨s36.trans sA,?_,_,_,rfl⟩
     rw [skip (by rw [c4,Bool.and_false])]
     exact ehdA
   ·have cc':¬ k.k = (i:Int):=by simpa using cc
    refine ⟨s36,?_,_,_,rfl⟩
    rw [skip (by rw [decide_eq_false cc']; rfl)]
    exact ehd6
  ·rintro σ H' ⟨s5,ehd5,v8,v9,rfl⟩
   rw [List.length_map,la,List.take_length] at ehd5
   have s25:=(s2.trans s3).trans s5
   have eF5:=s5 _ _ (s3 _ _ eF2)
   refine ⟨_,rfl,.inl ⟨rfl,_,SqL.of eF5⟩,_,rfl,F,_,_,rfl,rfl,eF5,n5 (by rw [List.length_map,lr]; lia),?_⟩
   have hFd:hd ≠ F:=fun z=>by rw [z] at hhd; rw [s3 _ _ eF2] at hhd; cases hhd
   refine ⟨j5.put s25 hF,⟨rs ++ [hd],by rw [i3,List.map_append]; rfl,?_⟩,_,_,_,_,_,rfl⟩
   rw [List.range_succ,List.map_append]
   refine Paired.snoc (x5.other (x5.same (s3.trans s5) hr2) fun z=>?_) ?_
   ·exact al0 (x5.same (s3.trans s5) hr2) eF5 z
   ·show upd H' F _ hd = _
    rw [j4 hFd]
    exact ehd5
 ·rintro σ H' ⟨s2,⟨rs,eF2,hr2⟩,v5,v6,v7,v8,v9,rfl⟩
  exact ⟨_,rfl,q F rs H' s2 eF2 hr2⟩
end
def W0 (h:Hall) (ks:List Call) (c:Int) (es:List Int) (k:Nat):Nat:=(F0 h ks (c / h.c) (o8 h es) k).length
def ab4 (h:Hall) (ks:List Call) (c:Int) (es:List Int) (sh:Int) (k:Nat):Prop:=k ∈ z7 h sh ∧ ∀ k' ∈ z7 h sh,W0 h ks c es k ≤ W0 h ks c es k' ∧ (k' < k → W0 h ks c es k < W0 h ks c es k')
theorem ab4.uniq {h:Hall} {ks:List Call} {c:Int} {es:List Int} {sh:Int} {k k':Nat} (a:ab4 h ks c es sh k) (b:ab4 h ks c es sh k'):k = k':=by
 rcases Nat.lt_trichotomy k k' with z | z | z
 ·have h1:=(b.2 k a.1).2 z
  have h2:=(a.2 k' b.1).1
  lia
 ·exact z
 ·have h1:=(a.2 k' b.1).2 z
  have h2:=(b.2 k a.1).1
  lia
theorem aM9 (h:Hall) (sh:Int):(z7 h sh).Pairwise (· < ·):=List.Pairwise.filter _ List.pairwise_lt_range
def aJ4 (K:PySem.W.Frag):Sp:=fun vs H Q _=>∃ (a l e:Addr) (h:Hall) (as:List Addr) (ks:List Call) (c:Int) (es:List Int) (sh:Int),vs = [.ref a,.ref l,.int c,.ref e,.int sh] ∧ Asked K H a l e h as ks es ∧
 (∀ H',j5 H H' → z7 h sh = [] → Q .non H') ∧ ∀ (r:Addr) (k:Nat) (H':Hp),j5 H H' → ab4 h ks c es sh k → H' r = some (.lst ((F0 h ks (c / h.c) (o8 h es) k).map V.int)) → Q (.ref r) H'
section
variable {P:Program} {w:World} {K:PySem.W.Frag} {mg:Str → Option Value} {base:Heap}
theorem T9:FnScope ["hall","calls","caller","ends","shut","held"] ["hall","calls","caller","ends","shut"] (i7 (top 29)):=⟨rfl,rfl,rfl,by decide +kernel,rfl,by decide +kernel,by decide +kernel⟩
theorem aQ0 (T:Txt K mg) (C_holders:Callee P w K mg base 4 "holders" ["hall","calls","caller","ends"] (V3 K)) (C_left_open:Callee P w K mg base 1 "left_open" ["hall","shut"] (aG0 K)) (D:DefD K mg "least_ended" (top 29) ["hall","calls","caller","ends","shut"] [.int 0]):CalleeD P w K mg base 5 "least_ended" ["hall","calls","caller","ends","shut"] [.int 0] (aJ4 K):=by
 refine D.ok T9 (fun vs H Q E h=>?_) (fun f cdv A outer s H vs Q E hr h=>?_)
 ·obtain ⟨a,l,e,h,as,ks,c,es,sh,rfl,_⟩:=h
  rfl
 obtain ⟨a,l,e,h,as,ks,c,es,sh,rfl,ask,qN,q⟩:=h
 have b3:=ask.ok.m
 refine ⟨_,(i4 (j7 (i:=5) T9.nd rfl (Or.inr rfl) (r6 C_holders hr rfl (b8 (pv 0) (b8 (pv 1) (b8 (pv 2) (b8 (pv 3) d9 b9) b9) b9) b9)))
  (i5 (i9 (aL9 K rfl rfl T.m_min rfl T.m_len (b8 (F6 (own:=["k"]) (fr:=[(5,"held")]) rfl (show CompScope ["hall","calls","caller","ends","shut","held"] (i7 (top 29)) _ _ _ from ⟨rfl,by decide +kernel,by decide +kernel,by decide +kernel,by decide +kernel⟩) (y9 K (r6 C_left_open hr rfl (b8 (pv 0) (b8 (pv 4) d9 b9) b9))) (fun cl C s H ex=>⟨(o5 (i:=0) (show (["k","held"]:List Str).Nodup from by decide +kernel) rfl (Or.inl rfl) (Or.inr rfl)),N0,(j3 (n9 K) (pv 1) (pv 0) (fun _ _=>rfl))⟩)) d9 V5))))),?_⟩
 refine ⟨_,rfl,_,rfl,_,rfl,_,rfl,a,l,e,h,as,ks,c,es,rfl,ask.a,ask.ok,ask.l,ask.c,ask.hin,ask.few,ask.e,ask.len,fun F rs H1 s1 hF hrs nd hFn eF hrows=>?_⟩
 refine ⟨_,rfl,_,rfl,a,h,sh,rfl,j5.seqT s1 ask.a,ask.ok,fun lo hlo=>?_⟩
 have elo:=i3 (H:=H1) (a:=lo) (o:=.lst (C2 (z7 h sh)))
 have s2:=i6 hlo (.lst (C2 (z7 h sh)))
 generalize upd H1 lo (.lst (C2 (z7 h sh))) = H2 at elo s2 ⊢
 have ol:=ag2 h sh
 have lno:(C2 (z7 h sh)).length = (z7 h sh).length:=by unfold C2; rw [List.length_map]
 have rowAt:∀ k,k ∈ z7 h sh → ∃ ra,rs[k]? = some ra ∧ H2 ra = some (.lst ((F0 h ks (c / h.c) (o8 h es) k).map V.int)):=fun k hk=>by
  have hkm:=Y7 hk
  have hr3:=x5.same s2 hrows
  have lr:=Paired.length hr3
  unfold C8 at lr
  rw [T0] at lr
  have ea:rs[k]? = some (rs[k]'(by lia)):=List.getElem?_eq_getElem _
  obtain ⟨row,w1,w2⟩:=m3 hr3 k _ ea
  have w1':row = F0 h ks (c / h.c) (o8 h es) k:=by
   unfold C8 J3 at w1
   rw [List.getElem?_map,List.getElem?_range hkm] at w1
   exact (Option.some.inj w1).symm
  rw [w1'] at w2
  exact ⟨_,ea,w2⟩
 refine ⟨lo,rfl,⟨_,SqL.of elo⟩,?_⟩
 refine C9 (xs:=C2 (z7 h sh)) (fun i acc σ H'=>H' = H2 ∧ (∃ bs:List Addr,acc = bs.map V.ref ∧ Paired (fun b k=>H2 b = some (.lst ((F0 h ks (c / h.c) (o8 h es) k).map V.int))) bs ((z7 h sh).take i)) ∧ ∃ v,σ = [v,some (.ref F)])
  ⟨rfl,⟨[],rfl,.nil⟩,none,rfl⟩ (Nat.le_of_lt (n5 (by lia))) (fun i acc σ H' g=>?_) (fun i acc σ H' _ g=>by rw [g.1]; exact SqL.of elo) ?_ ?_
 ·obtain ⟨_,⟨bs,rfl,hb⟩,_⟩:=g
  have:=Paired.length hb
  rw [List.length_map,this,List.length_take]
  lia
 ·rintro i y acc σ H' hy ⟨rfl,⟨bs,rfl,hb⟩,v,rfl⟩
  unfold C2 at hy
  rw [List.getElem?_map] at hy
  obtain ⟨k,hk,rfl⟩:=Option.map_eq_some_iff.mp hy
  obtain ⟨ra,e1,e2⟩:=rowAt k (List.mem_of_getElem? hk)
  have hat:atI (rs.map V.ref) (k:Int) = some (.ref ra):=z8 (by rw [List.getElem?_map,e1]; rfl)
  refine ⟨_,rfl,_,rfl,F,_,_,_,rfl,rfl,SqL.of (s2 _ _ eF),hat,rfl,⟨bs ++ [ra],by rw [List.map_append]; rfl,?_⟩,_,rfl⟩
  rw [List.take_succ,hk]
  exact Paired.snoc hb e2
 ·rintro acc σ H' ⟨rfl,⟨bs,rfl,hb⟩,v,rfl⟩ lm hlm
  rw [lno,List.take_length] at hb
  have elm:=i3 (H:=H') (a:=lm) (o:=.lst (bs.map V.ref))
  have s3:=i6 hlm (.lst (bs.map V.ref))
  generalize upd H' lm (.lst (bs.map V.ref)) = H3 at elm s3 ⊢
  have s13:=s1.trans (s2.trans s3)
  have lb:=Paired.length hb
  have rowsL:∀ {bs:List Addr} {os:List Nat},Paired (fun b k=>H' b = some (.lst ((F0 h ks (c / h.c) (o8 h es) k).map V.int))) bs os → a59 K H3 bs (os.map fun k=>(F0 h ks (c / h.c) (o8 h es) k).map V.int):=by
   intro bs os hp
   induction hp with
   | nil=>exact .nil
   | cons h1 _ ih=>exact .cons (SqL.of (s3 _ _ h1)) ih
  have lenAt:∀ j k,(z7 h sh)[j]? = some k → S7 ((z7 h sh).map fun k=>(F0 h ks (c / h.c) (o8 h es) k).map V.int) j = ((W0 h ks c es k:Nat):Int):=fun j k hj=>by
   unfold S7 W0
   rw [List.getD,List.getElem?_map,hj]
   simp
  refine ⟨lm,bs,_,rfl,SqL.of elm,rowsL hb,fun z=>qN H3 s13 ?_,fun i r hi hbest=>?_⟩
  ·rw [z] at lb
   exact List.length_eq_zero_iff.mp lb.symm
  ·obtain ⟨k,k1,k2⟩:=m3 hb i r hi
   refine q r k H3 s13 ⟨List.mem_of_getElem? k1,fun k' hk'=>?_⟩ (s3 _ _ k2)
   obtain ⟨j,hj⟩:=List.mem_iff_getElem?.mp hk'
   have hjl:=(List.getElem?_eq_some_iff.mp hj).1
   have:=hbest j (by lia)
   rw [lenAt i k k1,lenAt j k' hj] at this
   refine ⟨by lia,fun z=>?_⟩
   have hji:j < i:=by
    rcases Nat.lt_trichotomy j i with y | y | y
    ·exact y
    ·subst y
     rw [k1] at hj
     cases hj
     lia
    ·obtain ⟨q1,z1⟩:=List.getElem?_eq_some_iff.mp k1
     obtain ⟨q2,z2⟩:=List.getElem?_eq_some_iff.mp hj
     have:=(List.pairwise_iff_getElem.mp (aM9 h sh)) i j q1 q2 y
     lia
   have:=this.2 hji
   lia
end
def aj9 (n:Int) (xs:List Int):List Int:=xs.filter fun k=>decide (n ≤ k)
def L7 (n:Int) (xs:List Int):Int:=(aj9 n xs ++ xs).headD 0
def C0 (n:Int):List (Str × V):=[("start",.int n)]
theorem ac3 (n:Int):(C0 n).lookup ("start":Str) = some (.int n):=rfl
theorem ag4 (n m:Int):S5 "start" (.int m) (C0 n) = C0 m:=by
 unfold C0 S5
 rw [if_pos rfl]
def aX0 (C:Addr):Sp:=fun vs H Q _=>∃ (p dx:Addr) (n:Int),vs = [.ref p,.int n] ∧ H p = some (.ins C dx []) ∧ Q .non (upd H p (.ins C dx (C0 n)))
def az3 (K:PySem.W.Frag) (C:Addr):Sp:=fun vs H Q _=>∃ (p dx fl:Addr) (v1 v2:V) (n:Int) (xs:List Int),vs = [.ref p,v1,v2,.ref fl] ∧ H p = some (.ins C dx (C0 n)) ∧ H fl = some (.lst (xs.map V.int)) ∧ xs ≠ [] ∧ xs.length ≤ 24 ∧
 ∀ H',W3 p H H' → H' p = some (.ins C dx (C0 (L7 n xs + 1))) → Q (.int (L7 n xs)) H'
theorem am5 {n:Int} {xs:List Int} {i:Nat} {x:Int} (h:xs[i]? = some x):(xs.take (i + 1)).filter (fun k=>decide (n ≤ k)) = (xs.take i).filter (fun k=>decide (n ≤ k)) ++ (if n ≤ x then [x] else []):=by
 rw [List.take_succ,h,List.filter_append]
 congr 1
 show List.filter _ [x] = _
 rw [List.filter_cons]
 by_cases c:n ≤ x
 ·rw [if_pos (decide_eq_true c),if_pos c]
  rfl
 ·rw [if_neg (fun z=>c (of_decide_eq_true z)),if_neg c]
  rfl
section
variable {P:Program} {w:World} {K:PySem.W.Frag} {mg:Str → Option Value} {base:Heap} {C_Rule C_Round C_HallError C_NoHall C_NoCalls C_NoLine C_NoRule C_Idle C_Busy C_Engaged C_NoMove:Addr}
theorem Y5:FnScope ["self","start"] ["self","start"] (i7 (u7 (top 22) 0)):=⟨rfl,rfl,rfl,by decide +kernel,rfl,by decide +kernel,by decide +kernel⟩
theorem a42 (T:Txt K mg) (Z:TxtC K mg C_Rule C_Round C_HallError C_NoHall C_NoCalls C_NoLine C_NoRule C_Idle C_Busy C_Engaged C_NoMove) (D:DefM K C_Round "__init__" "Round.__init__" (u7 (top 22) 0) ["self","start"] [.int 0] (aI8 K "start")):CalleeM P w K mg base 1 C_Round "__init__" ["self","start"] [.int 0] (aI8 K "start") (aX0 C_Round):=by
 refine D.ok Y5 (fun vs H Q E h=>?_) (fun f cdv A outer s H vs Q E hr h=>?_)
 ·obtain ⟨p,dx,n,rfl,_⟩:=h
  rfl
 obtain ⟨p,dx,n,rfl,hp,q⟩:=h
 refine ⟨_,(i5 (aV7 (pv 0) (pv 1) rfl)),?_⟩
 exact ⟨_,rfl,_,rfl,p,C_Round,dx,_,rfl,hp,Z.cl_Round,Z.n_Round_start,(by show 0 < 1000; decide),q⟩
theorem M7:FnScope ["self","hall","calls","free","further","chosen"] ["self","hall","calls","free"] (i7 (u7 (top 22) 1)):=⟨rfl,rfl,rfl,by decide +kernel,rfl,by decide +kernel,by decide +kernel⟩
theorem aN4 (T:Txt K mg) (Z:TxtC K mg C_Rule C_Round C_HallError C_NoHall C_NoCalls C_NoLine C_NoRule C_Idle C_Busy C_Engaged C_NoMove) (D:DefM K C_Round "choose" "Round.choose" (u7 (top 22) 1) ["self","hall","calls","free"] [] noKw):CalleeM P w K mg base 1 C_Round "choose" ["self","hall","calls","free"] [] noKw (az3 K C_Round):=by
 refine D.ok M7 (fun vs H Q E h=>?_) (fun f cdv A outer s H vs Q E hr h=>?_)
 ·obtain ⟨p,dx,fl,v1,v2,n,xs,rfl,_⟩:=h
  rfl
 obtain ⟨p,dx,fl,v1,v2,n,xs,rfl,hp,hl,hne,h24,q⟩:=h
 refine ⟨_,(i4 (aH7 (i:=4) (own:=["k"]) (fr:=[(0,"self")]) rfl M7.nd rfl rfl (show CompScope ["self","hall","calls","free","further","chosen"] (i7 (u7 (top 22) 1)) _ _ _ from ⟨rfl,by decide +kernel,by decide +kernel,by decide +kernel,by decide +kernel⟩) (y9 K (pv 3)) (fun cl C s H ex=>⟨(o5 (i:=0) (show (["k","self"]:List Str).Nodup from by decide +kernel) rfl (Or.inl rfl) (Or.inr rfl)),(aa6 (j8 a62 (pv 0) (ap8 K (pv 1)) (m7 _))),(pv 0)⟩) rfl)
  (i4 (j7 (i:=5) M7.nd rfl (Or.inl rfl) (ah7 (j8 (a00 K (Room.units0 hr)) (pv 4) (q9 d9) (m7 _)) (j3 (n9 K) (pv 4) i0 (fun _ _=>rfl)) (j3 (n9 K) (pv 3) i0 (fun _ _=>rfl))))
  (i4 (aV7 (pv 0) (j2 K2 (pv 5) i0) rfl)
  (i5 (i9 (pv 5)))))),?_⟩
 have ln:(xs.map V.int).length = xs.length:=List.length_map _
 refine ⟨_,rfl,fl,rfl,⟨_,SqL.of hl⟩,?_⟩
 refine C9 (xs:=xs.map V.int) (fun i acc σ H'=>H' = H ∧ acc = ((xs.take i).filter fun k=>decide (n ≤ k)).map V.int ∧ ∃ v,σ = [v,some (.ref p)])
  ⟨rfl,rfl,none,rfl⟩ (Nat.le_of_lt (n5 (by lia))) (fun i acc σ H' g=>?_) (fun i acc σ H' _ g=>by rw [g.1]; exact SqL.of hl) ?_ ?_
 ·obtain ⟨_,rfl,_⟩:=g
  rw [List.length_map]
  exact Nat.le_trans (List.length_filter_le _ _) (by rw [List.length_take]; lia)
 ·rintro i y acc σ H' hy ⟨rfl,rfl,v,rfl⟩
  rw [List.getElem?_map] at hy
  obtain ⟨x,hx,rfl⟩:=Option.map_eq_some_iff.mp hy
  refine ⟨_,rfl,_,rfl,p,C_Round,dx,_,_,rfl,hp,Z.cl_Round,Z.n_Round_start,ac3 n,_,_,rfl,rfl,_,rfl,?_⟩
  refine A7 (fun c=>?_) (fun c=>?_)
  ·have c':n ≤ x:=of_decide_eq_true c
   refine ⟨_,rfl,rfl,?_,_,rfl⟩
   rw [am5 hx,if_pos c',List.map_append]
   rfl
  ·have c':¬ n ≤ x:=fun z=>c (decide_eq_true z)
   refine ⟨rfl,?_,_,rfl⟩
   rw [am5 hx,if_neg c',List.append_nil]
 rintro acc σ H' ⟨rfl,rfl,v,rfl⟩ l2 hl2
 rw [ln,List.take_length]
 have el2:=i3 (H:=H') (a:=l2) (o:=.lst ((aj9 n xs).map V.int))
 have s1:=i6 hl2 (.lst ((aj9 n xs).map V.int))
 unfold aj9 at el2 s1
 generalize upd H' l2 _ = H1 at el2 s1 ⊢
 change H1 l2 = some (.lst ((aj9 n xs).map V.int)) at el2
 refine ⟨_,rfl,(by show 0 ≤ sizeLine; decide),fun o ho=>?_⟩
 have eo:=i3 (H:=H1) (a:=o) (o:=.lst [])
 have s2:=i6 ho (.lst [])
 generalize upd H1 o (.lst []) = H2 at eo s2 ⊢
 have s12:=s1.trans s2
 have hp2:=s12 _ _ hp
 refine ⟨l2,o,aj9 n xs,[],rfl,rfl,SqL.of (s2 _ _ el2),SqL.of eo,_,rfl,?_⟩
 have fin:∀ c:Int,c = L7 n xs → W3 p H' (upd H2 p (.ins C_Round dx (C0 (c + 1)))) ∧ upd H2 p (.ins C_Round dx (C0 (c + 1))) p = some (.ins C_Round dx (C0 (L7 n xs + 1))):=fun c e=>by
  subst e
  exact ⟨fun b u hb z=>by rw [j4 hb]; exact s12 _ _ z,i3⟩
 have lf:(C0 n).length < 1000:=by show 1 < 1000; decide
 refine A7 (fun c=>?_) (fun c=>?_)
 ·have c':aj9 n xs ≠ []:=by simpa using c
  obtain ⟨y,t,hy⟩:=List.exists_cons_of_ne_nil c'
  have ch:y = L7 n xs:=by unfold L7; rw [hy]; rfl
  rw [hy] at el2
  refine ⟨_,rfl,l2,_,_,_,rfl,rfl,SqL.of (s2 _ _ el2),(show atI ((y :: t).map V.int) 0 = some (.int y) from z8 (j:=0) rfl),?_⟩
  refine ⟨_,rfl,_,_,rfl,rfl,_,rfl,p,C_Round,dx,_,rfl,hp2,Z.cl_Round,Z.n_Round_start,lf,?_⟩
  rw [ag4]
  refine ⟨_,rfl,?_⟩
  obtain ⟨f1,f2⟩:=fin y ch
  have:=q _ f1 f2
  rw [← ch] at this
  exact this
 ·have c':aj9 n xs = []:=by simpa using c
  obtain ⟨y,t,hy⟩:=List.exists_cons_of_ne_nil hne
  have ch:y = L7 n xs:=by unfold L7; rw [c',hy]; rfl
  have hl2':=s12 _ _ hl
  rw [hy] at hl2'
  refine ⟨_,rfl,fl,_,_,_,rfl,rfl,SqL.of hl2',(show atI ((y :: t).map V.int) 0 = some (.int y) from z8 (j:=0) rfl),?_⟩
  refine ⟨_,rfl,_,_,rfl,rfl,_,rfl,p,C_Round,dx,_,rfl,hp2,Z.cl_Round,Z.n_Round_start,lf,?_⟩
  rw [ag4]
  refine ⟨_,rfl,?_⟩
  obtain ⟨f1,f2⟩:=fin y ch
  have:=q _ f1 f2
  rw [← ch] at this
  exact this
end
theorem B7 {α β:Type} {R R':α → β → Prop}:∀ {as:List α} {bs:List β},Paired R as bs → (∀ a b,a ∈ as → R a b → R' a b) → Paired R' as bs
 | _,_,.nil,_=>.nil
 | _,_,.cons h t,k=>.cons (k _ _ (List.mem_cons_self ..) h) (B7 t fun a b ha=>k a b (List.mem_cons_of_mem _ ha))
def ap9 (C:Addr):Sp:=fun vs H Q _=>∃ (e:Addr) (v:V),vs = [.ref e,v] ∧ H e = some (J7 e C none) ∧ ∀ (dx:Addr) (H':Hp),H dx = none → dx ≠ e → (∀ b,b ≠ e → b ≠ dx → H' b = H b) → H' e = some (J7 e C (some dx)) → H' dx = some (XdO dx [("who",v)]) → Q .non H'
structure EngAt (H:Hp) (dx:Addr) (rows:List (List Int)) (lst:Option (List Int)) (nh:Addr) (nas:List Addr) (lv:V):Prop where
 d:H dx = some (XdO dx [("least",lv),("holds",.ref nh)])
 h:H nh = some (.lst (nas.map V.ref))
 rows:x5 H nas rows
 nd:nas.Nodup
 l:match lst with
  | none=>lv = .non
  | some ms=>∃ m,lv = .ref m ∧ ¬ m ∈ nas ∧ m ≠ nh ∧ H m = some (.lst (ms.map V.int))
def Y0 (H:Hp) (nas:List Addr) (nlv:V):Prop:=(∀ a ∈ nas,H a = none) ∧ ∀ m,nlv = .ref m → H m = none
theorem Y0.back {H H':Hp} {nas:List Addr} {nlv:V} (s:j5 H H') (f:Y0 H' nas nlv):Y0 H nas nlv:=⟨fun a ha=>s.free (f.1 a ha),fun m e=>s.free (f.2 m e)⟩
def aH0 (K:PySem.W.Frag) (C:Addr):Sp:=fun vs H Q _=>∃ (e f:Addr) (rs:List Addr) (rows:List (List Int)) (lv:V) (lst:Option (List Int)),vs = [.ref e,.ref f,lv] ∧ H e = some (J7 e C none) ∧ SqL K H f (rs.map V.ref) ∧ x5 H rs rows ∧ rows.length ≤ 64 ∧ (match lst with | none=>lv = .non | some ms=>∃ m,lv = .ref m ∧ H m = some (.lst (ms.map V.int))) ∧
 ∀ (dx nh:Addr) (nas:List Addr) (nlv:V) (H':Hp),(∀ b u,b ≠ e → H b = some u → H' b = some u) → H' e = some (J7 e C (some dx)) → H dx = none → dx ≠ e → EngAt H' dx rows lst nh nas nlv → Y0 H nas nlv → nh ≠ e → (∀ a ∈ nas,a ≠ e) → (∀ m,nlv = .ref m → m ≠ e) → Q .non H'
section
variable {P:Program} {w:World} {K:PySem.W.Frag} {mg:Str → Option Value} {base:Heap} {C_Rule C_Round C_HallError C_NoHall C_NoCalls C_NoLine C_NoRule C_Idle C_Busy C_Engaged C_NoMove:Addr}
theorem ac1:FnScope ["self","who"] ["self","who"] (i7 (u7 (top 7) 0)):=⟨rfl,rfl,rfl,by decide +kernel,rfl,by decide +kernel,by decide +kernel⟩
theorem aW8 (T:Txt K mg) (Z:TxtC K mg C_Rule C_Round C_HallError C_NoHall C_NoCalls C_NoLine C_NoRule C_Idle C_Busy C_Engaged C_NoMove) (D:DefM K C_Busy "__init__" "Busy.__init__" (u7 (top 7) 0) ["self","who"] [] noKw):CalleeM P w K mg base 1 C_Busy "__init__" ["self","who"] [] noKw (ap9 C_Busy):=by
 refine D.ok ac1 (fun vs H Q E h=>?_) (fun f cdv A outer s H vs Q E hr h=>?_)
 ·obtain ⟨e,v,rfl,_⟩:=h
  rfl
 obtain ⟨e,v,rfl,he,q⟩:=h
 refine ⟨_,(i5 (a68 K (pv 0) (pv 1) rfl)),?_⟩
 refine ⟨_,rfl,_,rfl,e,C_Busy,rfl,he,Z.n_Busy,Z.x_Busy.mo,Z.f_Busy_who,fun dx hdx=>?_⟩
 have ne:dx ≠ e:=fun z=>by rw [z,he] at hdx; cases hdx
 exact q dx _ hdx ne (fun b n1 n2=>by rw [j4 n2,j4 n1]) (by rw [j4 (Ne.symm ne),i3]) i3
theorem V9:FnScope ["self","holds","least"] ["self","holds","least"] (i7 (u7 (top 8) 0)):=⟨rfl,rfl,rfl,by decide +kernel,rfl,by decide +kernel,by decide +kernel⟩
theorem aZ4 (T:Txt K mg) (Z:TxtC K mg C_Rule C_Round C_HallError C_NoHall C_NoCalls C_NoLine C_NoRule C_Idle C_Busy C_Engaged C_NoMove) (D:DefM K C_Engaged "__init__" "Engaged.__init__" (u7 (top 8) 0) ["self","holds","least"] [] noKw):CalleeM P w K mg base 1 C_Engaged "__init__" ["self","holds","least"] [] noKw (aH0 K C_Engaged):=by
 refine D.ok V9 (fun vs H Q E h=>?_) (fun f cdv A outer s H vs Q E hr h=>?_)
 ·obtain ⟨e,f,rs,rows,lv,lst,rfl,_⟩:=h
  rfl
 obtain ⟨e,f,rs,rows,lv,lst,rfl,he,hf,hR,few,hlv,q⟩:=h
 have ln:rs.length = rows.length:=Paired.length hR
 refine ⟨_,(i4 (a68 K (pv 0) (F6 (own:=["callers"]) (fr:=[]) rfl (show CompScope ["self","holds","least"] (i7 (u7 (top 8) 0)) _ _ _ from ⟨rfl,by decide +kernel,by decide +kernel,by decide +kernel,by decide +kernel⟩) (y9 K (pv 1)) (fun cl C s H ex=>⟨(o5 (i:=0) (show (["callers"]:List Str).Nodup from by decide +kernel) rfl (Or.inl rfl) (Or.inr rfl)),N0,(B1 (R3 K) rfl T.m_list boot_list (b8 (pv 0) d9 b9))⟩)) rfl)
  (i5 (bc7 K (pv 0) (ah7 (j8 Q7 (pv 2) y6 (m7 _)) y6 (B1 (R3 K) rfl T.m_list boot_list (b8 (pv 2) d9 b9))) rfl))),?_⟩
 refine ⟨_,rfl,f,rfl,⟨_,hf⟩,?_⟩
 refine C9 (xs:=rs.map V.ref) (fun i acc σ H'=>j5 H H' ∧ (∃ nas:List Addr,acc = nas.map V.ref ∧ nas.length = i ∧ x5 H' nas (rows.take i) ∧ nas.Nodup ∧ ∀ a ∈ nas,H a = none) ∧ ∃ v0,σ = [v0])
  ⟨fun b u z=>z,⟨[],rfl,rfl,.nil,List.nodup_nil,fun a ha=>nomatch ha⟩,none,rfl⟩ (Nat.le_of_lt (n5 (by rw [List.length_map]; lia))) (fun i acc σ H' g=>by
   obtain ⟨_,⟨nas,rfl,hl,_⟩,_⟩:=g
   rw [List.length_map]
   lia) (fun i acc σ H' _ g=>g.1.seq hf) ?_ ?_
 ·rintro i x acc σ H' hx ⟨s1,⟨nas,rfl,hl,hN,nd,fr⟩,v0,rfl⟩
  rw [List.getElem?_map] at hx
  obtain ⟨a,ha,rfl⟩:=Option.map_eq_some_iff.mp hx
  obtain ⟨row,F0,ea⟩:=m3 hR i a ha
  refine ⟨_,rfl,a,_,rfl,.inl (SqL.of (s1 _ _ ea)),fun p hp=>?_⟩
  have s2:=i6 hp (.lst (row.map V.int))
  have pn:¬ p ∈ nas:=fun z=>by
   obtain ⟨j,hj⟩:=List.mem_iff_getElem?.mp z
   obtain ⟨r,_,e⟩:=m3 hN j p hj
   rw [hp] at e
   cases e
  refine ⟨s1.trans s2,⟨nas ++ [p],by rw [List.map_append]; rfl,by rw [List.length_append,hl]; rfl,?_,ap6 nd pn,fun b hb=>?_⟩,_,rfl⟩
  ·rw [List.take_add_one,F0]
   exact Paired.snoc (Paired.mapP hN fun a r z=>s2 _ _ z) i3
  ·rcases List.mem_append.mp hb with z | z
   ·exact fr b z
   ·rw [List.mem_singleton.mp z]
    exact s1.free hp
 ·rintro acc σ H' ⟨s1,⟨nas,rfl,hl,hN,nd,fr⟩,v0,rfl⟩ nh hnh
  rw [List.length_map] at hl hN
  rw [ln,List.take_length] at hN
  have s2:=i6 hnh (.lst (nas.map V.ref))
  have enh:=i3 (H:=H') (a:=nh) (o:=.lst (nas.map V.ref))
  have hN2:x5 (upd H' nh (.lst (nas.map V.ref))) nas rows:=Paired.mapP hN fun a r z=>s2 _ _ z
  have fnh:=s1.free hnh
  have s3:=s1.trans s2
  generalize upd H' nh (.lst (nas.map V.ref)) = H2 at s2 enh hN2 s3 ⊢
  refine ⟨_,rfl,e,C_Engaged,rfl,s3 _ _ he,Z.n_Engaged,Z.x_Engaged.mo,Z.f_Engaged_holds,fun dx hdx=>?_⟩
  have fdx:=s3.free hdx
  have ne:dx ≠ e:=fun z=>by rw [z,he] at fdx; cases fdx
  have old:∀ b u,b ≠ e → H2 b = some u → upd (upd H2 e (J7 e C_Engaged (some dx))) dx (XdO dx [("holds",.ref nh)]) b = some u:=fun b u n1 z=>by rw [j4 (o4 z hdx),j4 n1]; exact z
  have e1:upd (upd H2 e (J7 e C_Engaged (some dx))) dx (XdO dx [("holds",.ref nh)]) e = some (J7 e C_Engaged (some dx)):=by rw [j4 (Ne.symm ne),i3]
  have e2:=i3 (H:=upd H2 e (J7 e C_Engaged (some dx))) (a:=dx) (o:=XdO dx [("holds",.ref nh)])
  generalize upd (upd H2 e (J7 e C_Engaged (some dx))) dx (XdO dx [("holds",.ref nh)]) = H3 at old e1 e2 ⊢
  have nhe:nh ≠ e:=fun z=>by rw [z,he] at fnh; cases fnh
  have nae:∀ a ∈ nas,a ≠ e:=fun a ha z=>by have:=fr a ha; rw [z,he] at this; cases this
  have old0:∀ b u,b ≠ e → H b = some u → H3 b = some u:=fun b u n1 z=>old b u n1 (s3 _ _ z)
  have ndx:nh ≠ dx:=fun z=>by rw [z] at enh; rw [enh] at hdx; cases hdx
  have adx:∀ a ∈ nas,a ≠ dx:=fun a ha z=>by
   obtain ⟨j,hj⟩:=List.mem_iff_getElem?.mp ha
   obtain ⟨r,_,y⟩:=m3 hN2 j a hj
   rw [z,hdx] at y
   cases y
  have rows3:x5 H3 nas rows:=by
   refine B7 hN2 fun a r ha z=>old a _ (nae a ha) z
  refine ⟨_,rfl,rfl,_,rfl,?_⟩
  cases lst with
  | none =>
   subst hlv
   refine C3 ⟨_,rfl,e,C_Engaged,dx,_,rfl,e1,e2,Z.n_Engaged,Z.x_Engaged.mo,Z.f_Engaged_least,(by show 1 < 1000; decide),?_⟩
   refine q dx nh nas .non _ (fun b u n1 z=>by rw [j4 (o4 z fdx)]; exact old0 b u n1 z) (by rw [j4 (Ne.symm ne)]; exact e1) fdx ne ⟨i3,by rw [j4 ndx]; exact old nh _ nhe enh,B7 rows3 fun a r ha z=>by rw [j4 (adx a ha)]; exact z,nd,rfl⟩ ⟨fr,fun m z=>nomatch z⟩ nhe nae (fun m z=>nomatch z)
  | some ms =>
   obtain ⟨m,rfl,em⟩:=hlv
   have mne:m ≠ e:=fun z=>by rw [z,he] at em; cases em
   refine z6 ⟨_,rfl,m,_,rfl,.inl (SqL.of (old0 m _ mne em)),fun q2 hq2=>?_⟩
   have s4:=i6 hq2 (.lst (ms.map V.int))
   have eq2:=i3 (H:=H3) (a:=q2) (o:=.lst (ms.map V.int))
   have e1':=s4 _ _ e1
   have e2':=s4 _ _ e2
   have hq2e:q2 ≠ e:=fun z=>by rw [z,e1] at hq2; cases hq2
   have hq2d:q2 ≠ dx:=fun z=>by rw [z,e2] at hq2; cases hq2
   have hq2n:q2 ≠ nh:=fun z=>by rw [z,old nh _ nhe enh] at hq2; cases hq2
   have hq2a:¬ q2 ∈ nas:=fun ha=>by
    obtain ⟨j,hj⟩:=List.mem_iff_getElem?.mp ha
    obtain ⟨r,_,y⟩:=m3 rows3 j q2 hj
    rw [hq2] at y
    cases y
   generalize upd H3 q2 (.lst (ms.map V.int)) = H4 at s4 eq2 e1' e2' ⊢
   refine ⟨_,rfl,e,C_Engaged,dx,_,rfl,e1',e2',Z.n_Engaged,Z.x_Engaged.mo,Z.f_Engaged_least,(by show 1 < 1000; decide),?_⟩
   refine q dx nh nas (.ref q2) _ (fun b u n1 z=>by rw [j4 (o4 z fdx)]; exact s4 _ _ (old0 b u n1 z)) (by rw [j4 (Ne.symm ne)]; exact e1') fdx ne ⟨i3,by rw [j4 ndx]; exact s4 _ _ (old nh _ nhe enh),B7 rows3 fun a r ha z=>by rw [j4 (adx a ha)]; exact s4 _ _ z,nd,q2,rfl,hq2a,hq2n,by rw [j4 hq2d]; exact eq2⟩ ⟨fr,fun m z=>by
    cases z
    cases y:H q2 with
    | none=>rfl
    | some u=>rw [old0 q2 u hq2e y] at hq2; cases hq2⟩ nhe nae (fun m z=>by cases z; exact hq2e)
end
theorem Y9 {K:PySem.W.Frag} {H:Hp} {l:Addr} {as:List Addr} {ks:List Call} {Q:VK} (el:H l = some (.lst (as.map V.ref))) (hC:m4 H as ks) (h64:ks.length < 64) (ne:ks.Pairwise fun k k'=>k.c ≠ k'.c)
  (q:∀ l2 as' ks',H l2 = none → m4 H as' ks' → ks'.Perm ks → ks'.Pairwise (fun k k'=>k.c < k'.c) → Q (.ref l2) (upd H l2 (.lst (as'.map V.ref)))):ax6 K [.ref l] H Q:=by
 obtain ⟨its,t1,t2⟩:=T6 (K:=K) hC
 have la:=Paired.length hC
 have lk:=Paired.length t2
 have gd:∀ (i:Nat) k,ks[i]? = some k → ks.getD i ⟨0,[],0⟩ = k:=fun i k e=>by rw [List.getD,e]; rfl
 have uniq:∀ (i j:Nat) k k',ks[i]? = some k → ks[j]? = some k' → k.c = k'.c → i = j:=fun i j k k' e1 e2 hc=>by
  obtain ⟨q1,z1⟩:=List.getElem?_eq_some_iff.mp e1
  obtain ⟨q2,z2⟩:=List.getElem?_eq_some_iff.mp e2
  rcases Nat.lt_trichotomy i j with hij | hij | hij
  ·have:=(List.pairwise_iff_getElem.mp ne) i j q1 q2 hij
   rw [z1,z2] at this
   exact absurd hc this
  ·exact hij
  ·have:=(List.pairwise_iff_getElem.mp ne) j i q2 q1 hij
   rw [z1,z2] at this
   exact absurd hc.symm this
 have back:∀ (i:Nat) x,its[i]? = some x → ∃ k e,ks[i]? = some k ∧ x = [V.int k.c,V.ref e,V.int k.k]:=fun i x hx=>by
  have hi:=(List.getElem?_eq_some_iff.mp hx).1
  have ek:ks[i]? = some (ks[i]'(by lia)):=List.getElem?_eq_getElem (by lia)
  obtain ⟨x',e1,e,e2⟩:=m3 t2 i _ ek
  rw [hx] at e1
  cases e1
  exact ⟨_,e,ek,e2⟩
 refine ⟨l,as,its,fun i=>(ks.getD i ⟨0,[],0⟩).c,rfl,SqL.of el,t1,by lia,fun i j x y hx hy=>?_,fun pq pm up l2 hl2=>?_⟩
 ·obtain ⟨k,e,e1,rfl⟩:=back i x hx
  obtain ⟨k',e',e2,rfl⟩:=back j y hy
  show (if k.c = k'.c then Q0 [V.ref e,V.int k.k] [V.ref e',V.int k'.k] else some (decide (k.c < k'.c))) = some (decide ((ks.getD i ⟨0,[],0⟩).c < (ks.getD j ⟨0,[],0⟩).c))
  rw [gd i k e1,gd j k' e2]
  by_cases c:k.c = k'.c
  ·obtain rfl:=uniq i j k k' e1 e2 c
   rw [hx] at hy
   rw [e1] at e2
   cases e2
   cases hy
   rw [if_pos rfl]
   show (if e = e then (if k.k = k.k then Q0 [] [] else some (decide (k.k < k.k))) else none) = _
   rw [if_pos rfl,if_pos rfl,decide_eq_false (Int.lt_irrefl _)]
   rfl
  ·rw [if_neg c]
 ·rw [la] at pm up
  obtain ⟨g1,g2⟩:=az4 (xs:=ks) pm up ⟨0,[],0⟩ Call.c fun i _=>rfl
  have hin:∀ i ∈ pq.toList,i < ks.length:=fun i hi=>by
   have:=(Array.Perm.mem_iff pm (a:=i)).mp (by simpa using hi)
   simpa using this
  have cs:=T8 0 ⟨0,[],0⟩ hC pq.toList hin
  generalize (pq.toList.map fun i=>ks.getD i ⟨0,[],0⟩) = ks' at g1 g2 cs
  have ne':ks'.Pairwise fun k k'=>k.c ≠ k'.c:=(List.Perm.pairwise_iff (fun q=>Ne.symm q) g1).mpr ne
  exact q l2 _ ks' hl2 cs g1 ((g2.and ne').imp fun {k k'} ⟨q1,q2⟩=>by lia)
def aJ6 (K:PySem.W.Frag) (C:Addr):Sp:=fun vs H Q E=>∃ (a:Addr) (h:Hall) (x y:V) (o:Option (List V)),vs = [.ref a,x,y] ∧ SqT K H a (h.row.map V.int) ∧ h.Ok ∧ PartIs K H x ∧ EndTh K H y o ∧
 (∀ H',j5 H H' → n4 x 0 (h.i * h.c - 1) = true → B3 h o = true → Q .non H') ∧ ∀ H',j5 H H' → (n4 x 0 (h.i * h.c - 1) && B3 h o) = false → E (.ref C) none H'
def O2 (ks:List Call) (c:Int) (es:List Int) (w:Int):Prop:=((∃ k ∈ ks,k.c = c) ∧ w = c) ∨ ((∀ k ∈ ks,k.c ≠ c) ∧ ∃ e ∈ es,(∃ k ∈ ks,e ∈ k.es ∧ w = k.c) ∧ ∀ e' ∈ es,e' < e → ∀ k ∈ ks,¬ e' ∈ k.es)
def Y8 (ks:List Call) (c:Int) (es:List Int):Prop:=(∀ k ∈ ks,k.c ≠ c) ∧ ∀ e ∈ es,∀ k ∈ ks,¬ e ∈ k.es
def ao6 (K:PySem.W.Frag) (C:Addr):Sp:=fun vs H Q E=>∃ (l e:Addr) (as:List Addr) (ks:List Call) (c:Int) (es:List Int),vs = [.ref l,.int c,.ref e] ∧ SqL K H l (as.map V.ref) ∧ m4 H as ks ∧ (SqT K H e (es.map V.int) ∨ SqL K H e (es.map V.int)) ∧ es.length < 64 ∧
 (∀ H',j5 H H' → Y8 ks c es → Q .non H') ∧ ∀ (w:Int) (dx:Addr) (H':Hp),j5 H H' → O2 ks c es w → H' dx = some (XdO dx [("who",.int w)]) → E (.ref C) (some dx) H'
def U0 (h:Hall) (ks:List Call) (c:Int) (es:List Int) (sh:Int):Option (List Int) → Prop
 | none=>z7 h sh = []
 | some ms=>∃ k,ab4 h ks c es sh k ∧ ms = F0 h ks (c / h.c) (o8 h es) k
def aw2 (K:PySem.W.Frag) (C:Addr):Sp:=fun vs H Q E=>∃ (a l e:Addr) (h:Hall) (as:List Addr) (ks:List Call) (c:Int) (es:List Int) (sh:Int),vs = [.ref a,.ref l,.int c,.ref e,.int sh] ∧ Asked K H a l e h as ks es ∧
 ∀ (dx nh:Addr) (nas:List Addr) (nlv:V) (o:Option (List Int)) (H':Hp),j5 H H' → U0 h ks c es sh o → EngAt H' dx (C8 h ks c es) o nh nas nlv → Y0 H nas nlv → E (.ref C) (some dx) H'
def aF8 (K:PySem.W.Frag):Sp:=fun vs H Q _=>∃ (l e:Addr) (as:List Addr) (ks:List Call) (c k:Int) (es:List Int),vs = [.ref l,.int c,.ref e,.int k] ∧ H l = some (.lst (as.map V.ref)) ∧ m4 H as ks ∧ ks.length < 63 ∧ (ks.Pairwise fun k k'=>k.c ≠ k'.c) ∧ (∀ k ∈ ks,k.c ≠ c) ∧ (SqT K H e (es.map V.int) ∨ SqL K H e (es.map V.int)) ∧ es.length < 64 ∧
 ∀ (r:Addr) (bs:List Addr) (ks':List Call) (es':List Int) (H':Hp),j5 H H' → H' r = some (.lst (bs.map V.ref)) → m4 H' bs ks' → es'.Perm es → es'.Pairwise (· ≤ ·) → ks'.Perm (ks ++ [⟨c,es',k⟩]) → ks'.Pairwise (fun k k'=>k.c < k'.c) → Q (.ref r) H'
theorem aE8.yes {as:List Addr} {ks:List Call} {c:Int} {v:V} (h:aE8 as ks c v) (n:v ≠ .non):∃ k ∈ ks,k.c = c:=by
 rcases h with ⟨rfl,_⟩ | ⟨j,a,k,_,h2,h3,_⟩
 ·exact absurd rfl n
 ·exact ⟨k,List.mem_of_getElem? h2,h3⟩
section
variable {P:Program} {w:World} {K:PySem.W.Frag} {mg:Str → Option Value} {base:Heap} {C_Rule C_Round C_HallError C_NoHall C_NoCalls C_NoLine C_NoRule C_Idle C_Busy C_Engaged C_NoMove:Addr}
theorem ae1:FnScope ["hall","caller","ends"] ["hall","caller","ends"] (i7 (top 33)):=⟨rfl,rfl,rfl,by decide +kernel,rfl,by decide +kernel,by decide +kernel⟩
theorem aU6 (T:Txt K mg) (Z:TxtC K mg C_Rule C_Round C_HallError C_NoHall C_NoCalls C_NoLine C_NoRule C_Idle C_Busy C_Engaged C_NoMove) (C_is_caller:Callee P w K mg base 3 "is_caller" ["hall","thing"] (ah4 K)) (C_is_ends:Callee P w K mg base 4 "is_ends" ["hall","thing"] (az9 K)) (D:Def K mg "refuse_wrong" (top 33) ["hall","caller","ends"]):CalleeF P w K mg base 5 "refuse_wrong" ["hall","caller","ends"] [] (aJ6 K C_NoLine):=by
 refine D.okF ae1 (fun vs H Q E h=>?_) (fun f cdv A outer s H vs Q E hr h=>?_)
 ·obtain ⟨a,h,x,y,o,rfl,_⟩:=h
  rfl
 obtain ⟨a,h,x,y,o,rfl,hH,ok,px,ey,q,qE⟩:=h
 refine ⟨_,(i4 (m8 (y0 (m9 K (r6 C_is_caller hr rfl (b8 (pv 0) (b8 (pv 1) d9 b9) b9)) (fun _=>rfl))) (i5 (aA8 (aI9 U8) Z.e_NoLine hr.hd rfl O6)) j1)
  (i5 (m8 (y0 (m9 K (r6 C_is_ends hr rfl (b8 (pv 0) (b8 (pv 2) d9 b9) b9)) (fun _=>rfl))) (i5 (aA8 (aI9 U8) Z.e_NoLine hr.hd rfl O6)) j1))),?_⟩
 refine ⟨_,rfl,_,rfl,a,h,x,rfl,hH,ok,px,_,rfl,?_⟩
 cases c1:n4 x 0 (h.i * h.c - 1) with
 | false=>exact C3 (qE H (fun b u z=>z) (by rw [c1]; rfl))
 | true =>
  refine z6 ⟨_,rfl,_,rfl,a,h,y,o,rfl,hH,ok,ey,fun H1 s1=>⟨_,rfl,?_⟩⟩
  cases c2:B3 h o with
  | false=>exact C3 (qE H1 s1 (by rw [c2,Bool.and_false]))
  | true=>exact z6 (q H1 s1 c1 c2)
theorem P1:FnScope ["calls","caller","ends","end","who"] ["calls","caller","ends"] (i7 (top 34)):=⟨rfl,rfl,rfl,by decide +kernel,rfl,by decide +kernel,by decide +kernel⟩
theorem aH4 (T:Txt K mg) (Z:TxtC K mg C_Rule C_Round C_HallError C_NoHall C_NoCalls C_NoLine C_NoRule C_Idle C_Busy C_Engaged C_NoMove) (C_call_of:Callee P w K mg base 2 "call_of" ["calls","caller"] (aw8 K)) (C_holder_of:Callee P w K mg base 2 "holder_of" ["calls","end"] (aj1 K)) (C_Busy___init__:CalleeM P w K mg base 1 C_Busy "__init__" ["self","who"] [] noKw (ap9 C_Busy)) (D:Def K mg "refuse_busy" (top 34) ["calls","caller","ends"]):CalleeF P w K mg base 4 "refuse_busy" ["calls","caller","ends"] [] (ao6 K C_Busy):=by
 refine D.okF P1 (fun vs H Q E h=>?_) (fun f cdv A outer s H vs Q E hr h=>?_)
 ·obtain ⟨l,e,as,ks,c,es,rfl,_⟩:=h
  rfl
 obtain ⟨l,e,as,ks,c,es,rfl,hl,hC,he,h64,q,qE⟩:=h
 refine ⟨_,(i4 (m8 (j8 V4 (r6 C_call_of hr rfl (b8 (pv 0) (b8 (pv 1) d9 b9) b9)) y6 (m7 _)) (i5 (ab6 U8 Z.i_Busy C_Busy___init__ hr hr.hd rfl (b8 (pv 1) d9 b9))) j1)
  (i5 (A3 PassesOwn.leaving rfl (y9 K (i8 (N2 K) rfl T.m_sorted boot_sorted (b8 (pv 2) d9 b9))) (o5 (i:=3) P1.nd rfl (Or.inl rfl))
  (i4 (j7 (i:=4) P1.nd rfl (Or.inl rfl) (r6 C_holder_of hr rfl (b8 (pv 0) (b8 (pv 3) d9 b9) b9)))
  (i5 (m8 (j8 V4 (pv 4) y6 (m7 _)) (i5 (ab6 U8 Z.i_Busy C_Busy___init__ hr hr.hd rfl (b8 (pv 4) d9 b9))) j1)))))),?_⟩
 have fly:∀ {G:Hp} {ea:Addr} {w:Int} (s:j5 H G) (b:O2 ks c es w) (hea:G ea = none),ap9 C_Busy [.ref ea,.int w] (upd G ea (J7 ea C_Busy none)) (fun r H2=>r = .non ∧ ∃ od,H2 ea = some (J7 ea C_Busy od) ∧ E (.ref C_Busy) od (ar6 H2 ea)) E0:=by
  intro G ea w s b hea
  refine ⟨ea,.int w,rfl,i3,fun dx H4 hdx ne oth e1 e2=>⟨rfl,some dx,e1,?_⟩⟩
  rw [j4 ne] at hdx
  refine qE w dx _ (s.trans fun b u z=>?_) b (by rw [C6 ne]; exact e2)
  have nb:b ≠ ea:=fun y=>by rw [y,hea] at z; cases z
  have nd':b ≠ dx:=fun y=>by rw [y,hdx] at z; cases z
  rw [C6 nb,oth b nb nd',j4 nb]
  exact z
 refine ⟨_,rfl,_,rfl,l,.int c,as,ks,rfl,hl,hC,.int c,.inr ⟨c,rfl,fun v mine=>⟨rfl,_,rfl,?_⟩⟩⟩
 by_cases hv:v = .non
 ·rw [hv]
  refine z6 ?_
  have no:∀ k ∈ ks,k.c ≠ c:=by
   rcases mine with ⟨_,z⟩ | ⟨j,a,k,_,_,_,z⟩
   ·exact z
   ·rw [hv] at z; cases z
  refine ⟨_,rfl,e,es,rfl,he,h64,fun ns' pm srt sl hsl=>?_⟩
  have s1:=i6 hsl (.lst (ns'.map V.int))
  have esl:=i3 (H:=H) (a:=sl) (o:=.lst (ns'.map V.int))
  generalize upd H sl (.lst (ns'.map V.int)) = H1 at s1 esl ⊢
  refine ⟨sl,rfl,⟨_,SqL.of esl⟩,?_⟩
  refine D8 (xs:=ns'.map V.int) (fun i σ H'=>H' = H1 ∧ (∀ e ∈ ns'.take i,∀ k ∈ ks,¬ e ∈ k.es) ∧ ∃ v3 v4,σ = [some (.ref l),some (.int c),some (.ref e),v3,v4])
   ⟨rfl,(fun e z=>nomatch z),none,none,rfl⟩ (fun i σ H' _ g=>by rw [g.1]; exact SqL.of esl) ?_ ?_
  ·rintro i x σ G hx ⟨rfl,low,v3,v4,rfl⟩
   rw [List.getElem?_map] at hx
   obtain ⟨en,hen,rfl⟩:=Option.map_eq_some_iff.mp hx
   refine ⟨_,rfl,_,rfl,l,en,as,ks,rfl,s1.seq hl,m4.same (fun b xs z=>s1 _ _ z) hC,fun v who=>?_⟩
   refine ⟨_,rfl,rfl,_,rfl,?_⟩
   rcases who with ⟨rfl,none⟩ | ⟨k,hk,ek,rfl⟩
   ·refine z6 ⟨rfl,fun e' he'=>?_,_,_,rfl⟩
    rw [List.take_add_one,hen] at he'
    rcases List.mem_append.mp he' with z | z
    ·exact low e' z
    ·rw [List.mem_singleton.mp z]
     exact none
   ·refine C3 ⟨_,rfl,(by show 1 ≤ 1000; decide),fun ea hea=>fly s1 (.inr ⟨no,en,pm.mem_iff.mp (List.mem_of_getElem? hen),⟨k,hk,ek,rfl⟩,fun e' he' lt=>?_⟩) hea⟩
    refine low e' ?_
    obtain ⟨j,hj,ej⟩:=List.getElem_of_mem (pm.mem_iff.mpr he')
    have hi:=List.getElem?_eq_some_iff.mp hen
    by_cases z:j < i
    ·rw [List.mem_take_iff_getElem]
     exact ⟨j,by lia,ej⟩
    ·by_cases y:j = i
     ·subst y
      rw [hi.2] at ej
      lia
     ·have:=(List.pairwise_iff_getElem.mp srt) i j hi.1 hj (by lia)
      rw [hi.2,ej] at this
      lia
  ·rintro σ G ⟨rfl,low,v3,v4,rfl⟩
   rw [List.length_map,List.take_length] at low
   exact q _ s1 ⟨no,fun e he=>low e (pm.mem_iff.mpr he)⟩
 ·have dv:decide (v = V.non) = false:=decide_eq_false hv
  rw [dv]
  exact C3 ⟨_,rfl,(by show 1 ≤ 1000; decide),fun ea hea=>fly (fun b u z=>z) (.inl ⟨mine.yes hv,rfl⟩) hea⟩
theorem Z6:FnScope ["hall","calls","caller","ends","shut"] ["hall","calls","caller","ends","shut"] (i7 (top 35)):=⟨rfl,rfl,rfl,by decide +kernel,rfl,by decide +kernel,by decide +kernel⟩
theorem aM8 (T:Txt K mg) (Z:TxtC K mg C_Rule C_Round C_HallError C_NoHall C_NoCalls C_NoLine C_NoRule C_Idle C_Busy C_Engaged C_NoMove) (C_holders:Callee P w K mg base 4 "holders" ["hall","calls","caller","ends"] (V3 K)) (C_least_ended:CalleeD P w K mg base 5 "least_ended" ["hall","calls","caller","ends","shut"] [.int 0] (aJ4 K)) (C_Engaged___init__:CalleeM P w K mg base 1 C_Engaged "__init__" ["self","holds","least"] [] noKw (aH0 K C_Engaged)) (D:Def K mg "refuse_engaged" (top 35) ["hall","calls","caller","ends","shut"]):CalleeF P w K mg base 6 "refuse_engaged" ["hall","calls","caller","ends","shut"] [] (aw2 K C_Engaged):=by
 refine D.okF Z6 (fun vs H Q E h=>?_) (fun f cdv A outer s H vs Q E hr h=>?_)
 ·obtain ⟨a,l,e,h,as,ks,c,es,sh,rfl,_⟩:=h
  rfl
 obtain ⟨a,l,e,h,as,ks,c,es,sh,rfl,ask,qE⟩:=h
 refine ⟨_,(i5 (ab6 U8 Z.i_Engaged C_Engaged___init__ hr hr.hd rfl (b8 (r6 C_holders hr rfl (b8 (pv 0) (b8 (pv 1) (b8 (pv 2) (b8 (pv 3) d9 b9) b9) b9) b9)) (b8 (r6 C_least_ended.all hr rfl (b8 (pv 0) (b8 (pv 1) (b8 (pv 2) (b8 (pv 3) (b8 (pv 4) d9 b9) b9) b9) b9) b9)) d9 r9) r9))),?_⟩
 refine ⟨_,rfl,_,rfl,_,rfl,_,rfl,a,l,e,h,as,ks,c,es,rfl,ask.a,ask.ok,ask.l,ask.c,ask.hin,ask.few,ask.e,ask.len,fun f rs H1 s1 hf0 hrs nd nf ef hR=>?_⟩
 have rl:(C8 h ks c es).length ≤ 64:=by
  have:=ask.ok.m
  unfold C8 J3
  rw [List.length_map,List.length_range]
  lia
 have go:∀ (lv:V) (o:Option (List Int)) (H2:Hp),j5 H1 H2 → U0 h ks c es sh o → (match o with | none=>lv = .non | some ms=>∃ m,lv = .ref m ∧ H2 m = some (.lst (ms.map V.int))) → ∀ ea,H2 ea = none → aH0 K C_Engaged [.ref ea,.ref f,lv] (upd H2 ea (J7 ea C_Engaged none)) (fun r H3=>r = .non ∧ ∃ od,H3 ea = some (J7 ea C_Engaged od) ∧ E (.ref C_Engaged) od (ar6 H3 ea)) E0:=by
  intro lv o H2 s2 ho hlv ea hea
  have s3:=i6 hea (J7 ea C_Engaged none)
  refine ⟨ea,f,rs,C8 h ks c es,lv,o,rfl,i3,SqL.of (s3 _ _ (s2 _ _ ef)),Paired.mapP hR fun a r z=>s3 _ _ (s2 _ _ z),rl,?_,fun dx nh nas nlv H4 old e1 hdx ne eng frs nhe nae nme=>⟨rfl,some dx,e1,?_⟩⟩
  ·cases o with
   | none=>exact hlv
   | some ms =>
    obtain ⟨m,e1,e2⟩:=hlv
    exact ⟨m,e1,s3 _ _ e2⟩
  ·refine qE dx nh nas nlv o _ (s1.trans (s2.trans fun b u z=>?_)) ho ⟨by rw [C6 ne]; exact eng.d,by rw [C6 nhe]; exact eng.h,B7 eng.rows fun a r ha z=>by rw [C6 (nae a ha)]; exact z,eng.nd,?_⟩ (frs.back ((s1.trans s2).trans s3))
   ·have nb:b ≠ ea:=fun y=>by rw [y,hea] at z; cases z
    rw [C6 nb]
    exact old b u nb (s3 _ _ z)
   ·have:=eng.l
    cases o with
    | none=>exact this
    | some ms =>
     obtain ⟨m,y1,y2,y3,y4⟩:=this
     exact ⟨m,y1,y2,y3,by rw [C6 (nme m y1)]; exact y4⟩
 refine ⟨_,rfl,_,rfl,_,rfl,_,rfl,_,rfl,a,l,e,h,as,ks,c,es,sh,rfl,ask.same s1,fun H2 s2 hno=>⟨(by show 2 ≤ 1000; decide),go _ none H2 s2 hno rfl⟩,fun r k H2 s2 lk er=>⟨(by show 2 ≤ 1000; decide),go _ (some _) H2 s2 ⟨k,lk,rfl⟩ ⟨r,rfl,er⟩⟩⟩
end
def av5:Sp:=fun vs H Q _=>∃ (v0 v1 v2:V) (fl:Addr) (x:Int) (xs:List Int),vs = [v0,v1,v2,.ref fl] ∧ H fl = some (.lst ((x :: xs).map V.int)) ∧ Q (.int x) H
theorem ar4 {K:PySem.W.Frag} {H:Hp} {y:V} {o:Option (List V)} {h:Hall} (ey:EndTh K H y o) (w:B3 h o = true):∃ (e:Addr) (es:List Int),y = .ref e ∧ o = some (es.map V.int) ∧ (SqT K H e (es.map V.int) ∨ SqL K H e (es.map V.int)):=by
 cases ey with
 | lst e hp hn =>
  rename_i a xs
  have w':(!xs.isEmpty && (xs.all (fun x=>n4 x 0 (h.o * h.e - 1)) && C5 xs)) = true:=w
  rw [Bool.and_eq_true,Bool.and_eq_true] at w'
  obtain ⟨ns,rfl⟩:=ac0 w'.2.1
  exact ⟨a,ns,rfl,rfl,.inr (SqL.of e)⟩
 | tup e hp hn =>
  rename_i a xs
  have w':(!xs.isEmpty && (xs.all (fun x=>n4 x 0 (h.o * h.e - 1)) && C5 xs)) = true:=w
  rw [Bool.and_eq_true,Bool.and_eq_true] at w'
  obtain ⟨ns,rfl⟩:=ac0 w'.2.1
  exact ⟨a,ns,rfl,rfl,.inl (SqT.of e)⟩
 | no=>cases w
def a81 (C:Addr) (H:Hp) (rv:V):Prop:=rv = .non ∨ ∃ r dx n,rv = .ref r ∧ H r = some (.ins C dx (C0 n))
def a74 (C:Addr) (rv:V) (H H':Hp):Prop:=(∀ b u,rv ≠ .ref b → H b = some u → H' b = some u) ∧ ∀ r dx n,rv = .ref r → H r = some (.ins C dx (C0 n)) → ∃ n',H' r = some (.ins C dx (C0 n'))
def aA3 (K:PySem.W.Frag) (CR CN CB CE:Addr):Sp:=fun vs H Q E=>∃ (a l:Addr) (h:Hall) (as:List Addr) (ks:List Call) (x y rv:V) (o:Option (List V)) (sh:Int),vs = [.ref a,.ref l,x,y,rv,.int sh] ∧ SqT K H a (h.row.map V.int) ∧ h.Ok ∧ H l = some (.lst (as.map V.ref)) ∧ m4 H as ks ∧ (∀ k ∈ ks,k.In h) ∧ (ks.Pairwise fun k k'=>k.c ≠ k'.c) ∧ ks.length < 63 ∧ PartIs K H x ∧ EndTh K H y o ∧ (∀ xs,o = some xs → xs.length < 64) ∧ a81 CR H rv ∧ rv ≠ .ref l ∧
 (∀ H',j5 H H' → (n4 x 0 (h.i * h.c - 1) && B3 h o) = false → E (.ref CN) none H') ∧
 (∀ (c:Int) (es:List Int),x = .int c → o = some (es.map V.int) → n4 x 0 (h.i * h.c - 1) = true → B3 h o = true →
  (∀ (w:Int) (dx:Addr) (H':Hp),j5 H H' → O2 ks c es w → H' dx = some (XdO dx [("who",.int w)]) → E (.ref CB) (some dx) H') ∧
  (Y8 ks c es → E6 h ks c es sh = [] → ∀ (dx nh:Addr) (nas:List Addr) (nlv:V) (o:Option (List Int)) (H':Hp),j5 H H' → U0 h ks c es sh o → EngAt H' dx (C8 h ks c es) o nh nas nlv → Y0 H nas nlv → E (.ref CE) (some dx) H') ∧
  (Y8 ks c es → ∀ (k:Nat),k ∈ E6 h ks c es sh → ∀ (r:Addr) (bs:List Addr) (ks':List Call) (es':List Int) (H':Hp),a74 CR rv H H' → H' r = some (.lst (bs.map V.ref)) → m4 H' bs ks' → es'.Perm es → es'.Pairwise (· ≤ ·) → ks'.Perm (ks ++ [⟨c,es',k⟩]) → ks'.Pairwise (fun k k'=>k.c < k'.c) → Q (.ref r) H'))
theorem aD1 {n:Int} {xs:List Int} (h:xs ≠ []):L7 n xs ∈ xs:=by
 unfold L7
 cases e:aj9 n xs with
 | nil =>
  cases xs with
  | nil=>exact absurd rfl h
  | cons x t=>exact List.mem_cons_self ..
 | cons y t =>
  have:y ∈ aj9 n xs:=by rw [e]; exact List.mem_cons_self ..
  exact (List.mem_filter.mp this).1
section
variable {P:Program} {w:World} {K:PySem.W.Frag} {mg:Str → Option Value} {base:Heap} {C_Rule C_Round C_HallError C_NoHall C_NoCalls C_NoLine C_NoRule C_Idle C_Busy C_Engaged C_NoMove:Addr}
theorem aj4:FnScope ["self","hall","calls","free"] ["self","hall","calls","free"] (i7 (u7 (top 21) 0)):=⟨rfl,rfl,rfl,by decide +kernel,rfl,by decide +kernel,by decide +kernel⟩
theorem aN2 (T:Txt K mg) (Z:TxtC K mg C_Rule C_Round C_HallError C_NoHall C_NoCalls C_NoLine C_NoRule C_Idle C_Busy C_Engaged C_NoMove) (D:DefM K C_Rule "choose" "Rule.choose" (u7 (top 21) 0) ["self","hall","calls","free"] [] noKw):CalleeM P w K mg base 1 C_Rule "choose" ["self","hall","calls","free"] [] noKw av5:=by
 refine D.ok aj4 (fun vs H Q E h=>?_) (fun f cdv A outer s H vs Q E hr h=>?_)
 ·obtain ⟨v0,v1,v2,fl,x,xs,rfl,_⟩:=h
  rfl
 obtain ⟨v0,v1,v2,fl,x,xs,rfl,hl,q⟩:=h
 refine ⟨_,(i5 (i9 (j3 (n9 K) (pv 3) i0 (fun _ _=>rfl)))),?_⟩
 exact ⟨_,rfl,fl,_,_,_,rfl,rfl,SqL.of hl,(show atI _ ((0:Nat):Int) = _ from z8 rfl),q⟩
theorem ar0:FnScope ["calls","caller","ends","k"] ["calls","caller","ends","k"] (i7 (top 36)):=⟨rfl,rfl,rfl,by decide +kernel,rfl,by decide +kernel,by decide +kernel⟩
theorem aZ2 (T:Txt K mg) (D:Def K mg "with_call" (top 36) ["calls","caller","ends","k"]):Callee P w K mg base 1 "with_call" ["calls","caller","ends","k"] (aF8 K):=by
 refine D.ok ar0 (fun vs H Q E h=>?_) (fun f cdv A outer s H vs Q E hr h=>?_)
 ·obtain ⟨l,e,as,ks,c,k,es,rfl,_⟩:=h
  rfl
 obtain ⟨l,e,as,ks,c,k,es,rfl,el,hC,h63,nc,no,he,h64,q⟩:=h
 have ln:as.length = ks.length:=Paired.length hC
 refine ⟨_,(i5 (i9 (i8 (Q1 K) rfl T.m_sorted boot_sorted (b8 (j2 O8 (pv 0) (q9 (b8 (C7 (b8 (pv 1) (b8 (B1 (M1 K) rfl T.m_tuple boot_tuple (b8 (i8 (N2 K) rfl T.m_sorted boot_sorted (b8 (pv 2) d9 b9)) d9 r9)) (b8 (pv 3) d9 b9) r9) b9)) d9 O4))) d9 O9)))),?_⟩
 refine ⟨_,rfl,_,rfl,_,rfl,e,es,rfl,he,h64,fun es' pm srt sl hsl=>?_⟩
 have s1:=i6 hsl (.lst (es'.map V.int))
 have e1:=i3 (H:=H) (a:=sl) (o:=.lst (es'.map V.int))
 generalize upd H sl (.lst (es'.map V.int)) = H1 at s1 e1 ⊢
 refine ⟨sl,_,rfl,.inl ⟨SqL.of e1,fun t ht=>?_⟩⟩
 have s2:=s1.trans (i6 ht (.tup (es'.map V.int)))
 have e2:=i3 (H:=H1) (a:=t) (o:=.tup (es'.map V.int))
 generalize upd H1 t (.tup (es'.map V.int)) = H2 at s2 e2 ⊢
 refine ⟨_,rfl,(by show 3 ≤ sizeLine; decide),fun p hp=>?_⟩
 have s3':=i6 hp (.tup [.int c,.ref t,.int k])
 have s3:=s2.trans s3'
 have e3:B4 (upd H2 p (.tup [.int c,.ref t,.int k])) p ⟨c,es',k⟩:=⟨t,s3' _ _ e2,i3⟩
 generalize upd H2 p (.tup [.int c,.ref t,.int k]) = H3 at s3 e3 ⊢
 refine ⟨(by show 1 ≤ sizeLine; decide),fun nl hnl=>?_⟩
 have s4':=i6 hnl (.lst [.ref p])
 have s4:=s3.trans s4'
 have e4:=i3 (H:=H3) (a:=nl) (o:=.lst [.ref p])
 have c4:=B4.same (fun b xs z=>s4' _ _ z) e3
 generalize upd H3 nl (.lst [.ref p]) = H4 at s4 e4 c4 ⊢
 refine ⟨l,nl,_,_,rfl,rfl,s4 _ _ el,e4,Nat.le_of_lt (n5 (by rw [List.length_map]; show as.length + 1 ≤ 1000; lia)),fun cl hcl=>?_⟩
 have s5':=i6 hcl (.lst (as.map V.ref ++ [.ref p]))
 have s5:=s4.trans s5'
 have e5:upd H4 cl (.lst (as.map V.ref ++ [.ref p])) cl = some (.lst ((as ++ [p]).map V.ref)):=by rw [i3,List.map_append]; rfl
 have c5:=B4.same (fun b xs z=>s5' _ _ z) c4
 generalize upd H4 cl (.lst (as.map V.ref ++ [.ref p])) = H5 at s5 e5 c5 ⊢
 have hC5:m4 H5 (as ++ [p]) (ks ++ [⟨c,es',k⟩]):=Paired.snoc (m4.same (fun b xs z=>s5 _ _ z) hC) c5
 refine Y9 e5 hC5 (by rw [List.length_append,List.length_singleton]; lia) (List.pairwise_append.mpr ⟨nc,List.pairwise_singleton ..,fun k1 h1 k2 h2=>?_⟩) fun l2 as' ks' h1 h2 h3 h4=>?_
 ·rw [List.mem_singleton.mp h2]
  exact no k1 h1
 ·exact q l2 as' ks' es' _ (s5.trans (i6 h1 _)) i3 (m4.same (fun b xs z=>i6 h1 _ _ _ z) h2) pm srt h3 h4
theorem U9:FnScope ["hall","calls","caller","ends","rule","shut","free","hunter","k"] ["hall","calls","caller","ends","rule","shut"] (i7 (top 37)):=⟨rfl,rfl,rfl,by decide +kernel,rfl,by decide +kernel,by decide +kernel⟩
set_option maxHeartbeats 4000000 in
theorem aL5 (T:Txt K mg) (Z:TxtC K mg C_Rule C_Round C_HallError C_NoHall C_NoCalls C_NoLine C_NoRule C_Idle C_Busy C_Engaged C_NoMove) (C_refuse_wrong:CalleeF P w K mg base 5 "refuse_wrong" ["hall","caller","ends"] [] (aJ6 K C_NoLine)) (C_refuse_busy:CalleeF P w K mg base 4 "refuse_busy" ["calls","caller","ends"] [] (ao6 K C_Busy)) (C_ways:CalleeD P w K mg base 5 "ways" ["hall","calls","caller","ends","shut"] [.int 0] (aU8 K)) (C_refuse_engaged:CalleeF P w K mg base 6 "refuse_engaged" ["hall","calls","caller","ends","shut"] [] (aw2 K C_Engaged)) (C_Rule_choose:CalleeM P w K mg base 1 C_Rule "choose" ["self","hall","calls","free"] [] noKw av5) (C_Round_choose:CalleeM P w K mg base 1 C_Round "choose" ["self","hall","calls","free"] [] noKw (az3 K C_Round)) (C_with_call:Callee P w K mg base 1 "with_call" ["calls","caller","ends","k"] (aF8 K)) (D:DefD K mg "joined" (top 37) ["hall","calls","caller","ends","rule","shut"] [.non,.int 0]):CalleeF P w K mg base 7 "joined" ["hall","calls","caller","ends","rule","shut"] [.non,.int 0] (aA3 K C_Round C_NoLine C_Busy C_Engaged):=by
 refine D.okF U9 (fun vs H Q E h=>?_) (fun f cdv A outer s H vs Q E hr h=>?_)
 ·obtain ⟨a,l,h,as,ks,x,y,rv,o,sh,rfl,_⟩:=h
  rfl
 obtain ⟨a,l,h,as,ks,x,y,rv,o,sh,rfl,hH,ok,el,hC,hin,nc,h63,px,ey,h64,hrv,rl,qW,q⟩:=h
 refine ⟨_,(i4 (D2 (ah8 0 C_refuse_wrong (ag3 fun _ _ _ z=>z) hr rfl (b8 (pv 0) (b8 (pv 2) (b8 (pv 3) d9 b9) b9) b9)))
  (i4 (D2 (ah8 0 C_refuse_busy (ag3 fun _ _ _ z=>z) hr rfl (b8 (pv 1) (b8 (pv 2) (b8 (pv 3) d9 b9) b9) b9)))
  (i4 (j7 (i:=6) U9.nd rfl (Or.inl rfl) (r6 C_ways.all hr rfl (b8 (pv 0) (b8 (pv 1) (b8 (pv 2) (b8 (pv 3) (b8 (pv 5) d9 b9) b9) b9) b9) b9)))
  (i4 (m8 (j8 (ab3 K (Room.units0 hr)) (pv 6) (q9 d9) (m7 _)) (i5 (D2 (ah8 0 C_refuse_engaged (ag3 fun _ _ _ z=>z) hr rfl (b8 (pv 0) (b8 (pv 1) (b8 (pv 2) (b8 (pv 3) (b8 (pv 5) d9 b9) b9) b9) b9) b9)))) j1)
  (i4 (j7 (i:=7) U9.nd rfl (Or.inl rfl) (ah7 (j8 Q7 (pv 4) y6 (m7 _)) (aS4 Z.M_Rule Z.p_Rule rfl) (pv 4)))
  (i4 (j7 (i:=8) U9.nd rfl (Or.inl rfl) (aL4 (bc0 Z.cl_Rule C_Rule_choose hr (pv 7) (b8 (pv 0) (b8 (pv 1) (b8 (pv 6) d9 b9) b9) b9)) (bc0 Z.cl_Round C_Round_choose hr (pv 7) (b8 (pv 0) (b8 (pv 1) (b8 (pv 6) d9 b9) b9) b9))))
  (i5 (i9 (r6 C_with_call hr rfl (b8 (pv 1) (b8 (pv 2) (b8 (pv 3) (b8 (pv 8) d9 b9) b9) b9) b9)))))))))),?_⟩
 refine ⟨_,rfl,_,rfl,_,rfl,a,h,x,y,o,rfl,hH,ok,px,ey,fun H1 s1 w1 w2=>?_,qW⟩
 obtain ⟨c,rfl,c0,c1⟩:=U3 w1
 obtain ⟨e,es,rfl,rfl,he⟩:=ar4 ey w2
 have l64:es.length < 64:=by have:=h64 _ rfl; rwa [List.length_map] at this
 obtain ⟨qB,qG,qR⟩:=q c es rfl rfl w1 w2
 have ask:∀ {G:Hp},j5 H G → Asked K G a l e h as ks es:=fun s=>Asked.same s ⟨hH,ok,SqL.of el,hC,hin,by lia,he,l64⟩
 have k1:=ask s1
 refine ⟨_,rfl,_,rfl,_,rfl,l,e,as,ks,c,es,rfl,k1.l,k1.c,k1.e,l64,fun H2 s2 idle=>?_,fun w dx H2 s2 b ed=>qB w dx H2 (s1.trans s2) b ed⟩
 have s12:=s1.trans s2
 refine ⟨_,rfl,_,rfl,_,rfl,_,rfl,_,rfl,a,l,e,h,as,ks,c,es,sh,rfl,ask s12,fun fl H3 s3 hf0 ef=>?_⟩
 have s13:=s12.trans s3
 refine ⟨_,rfl,(by show 0 ≤ sizeLine; decide),fun nl hnl=>?_⟩
 have s4':=i6 hnl (.lst [])
 have s14:=s13.trans s4'
 have e4:=i3 (H:=H3) (a:=nl) (o:=.lst [])
 have ef4:=s4' _ _ ef
 generalize upd H3 nl (.lst []) = H4 at s14 e4 ef4 ⊢
 refine ⟨fl,nl,_,rfl,rfl,SqL.of ef4,SqL.of e4,_,rfl,?_⟩
 refine A7 (fun z=>?_) (fun z=>?_)
 ·have z':E6 h ks c es sh = []:=by
   have:=of_decide_eq_true z
   unfold C2 at this
   exact List.map_eq_nil_iff.mp this
  exact ⟨_,rfl,_,rfl,_,rfl,_,rfl,_,rfl,a,l,e,h,as,ks,c,es,sh,rfl,ask s14,fun dx nh nas nlv o H5 s5 lo eng fr=>qG idle z' dx nh nas nlv o H5 (s14.trans s5) lo eng (fr.back s14)⟩
 ·have z':E6 h ks c es sh ≠ []:=fun y=>z (decide_eq_true (by rw [y]; rfl))
  have few:=aU9 h ks c es sh
  have m24:=ok.m
  have last:∀ {G:Hp} (k:Nat),k ∈ E6 h ks c es sh → a74 C_Round rv H G → aF8 K [.ref l,.int c,.ref e,.int (k:Nat)] G Q E0:=by
   intro G k hk sr
   have nt:∀ b xs,H b = some (.tup xs) → G b = some (.tup xs):=fun b xs zb=>by
    refine sr.1 b _ (fun y=>?_) zb
    rcases hrv with rfl | ⟨r,dx,n,rfl,er⟩
    ·cases y
    ·cases y
     rw [er] at zb
     cases zb
   have nl':∀ b xs,H b = some (.lst xs) → G b = some (.lst xs):=fun b xs zb=>by
    refine sr.1 b _ (fun y=>?_) zb
    rcases hrv with rfl | ⟨r,dx,n,rfl,er⟩
    ·cases y
    ·cases y
     rw [er] at zb
     cases zb
   refine ⟨l,e,as,ks,c,(k:Nat),es,rfl,nl' _ _ el,m4.same nt hC,h63,nc,idle.1,?_,l64,fun r bs ks' es' H' s' er cs pm srt pk up=>qR idle k hk r bs ks' es' H' ⟨fun b u nb zb=>s' _ _ (sr.1 b u nb zb),fun r dx n y zr=>?_⟩ er cs pm srt pk up⟩
   ·cases ey with
    | lst e1 _ _=>exact .inr (SqL.of (nl' _ _ e1))
    | tup e1 _ _=>exact .inl (SqT.of (nt _ _ e1))
   ·obtain ⟨n',z1⟩:=sr.2 r dx n y zr
    exact ⟨n',s' _ _ z1⟩
  refine ⟨_,rfl,rfl,_,rfl,?_⟩
  rcases hrv with rfl | ⟨r,rdx,n,rfl,er⟩
  ·refine C3 (fun ro dro hro hdro ne=>?_)
   have s5:j5 H4 (upd (upd H4 dro (.own ro)) ro (.ins C_Rule dro [])):=fun b u zb=>by rw [j4 (o4 zb hro),j4 (o4 zb hdro)]; exact zb
   have e5:=i3 (H:=upd H4 dro (.own ro)) (a:=ro) (o:=.ins C_Rule dro [])
   generalize upd (upd H4 dro (.own ro)) ro (.ins C_Rule dro []) = H5 at s5 e5 ⊢
   have s15:=s14.trans s5
   obtain ⟨k,t,wk⟩:∃ k t,E6 h ks c es sh = k :: t:=by
    cases y:E6 h ks c es sh with
    | nil=>exact absurd y z'
    | cons k t=>exact ⟨k,t,rfl⟩
   refine .inl ⟨_,rfl,ro,dro,[],rfl,e5,rfl,_,rfl,_,rfl,_,rfl,.ref ro,.ref a,.ref l,fl,(k:Nat),t.map fun (k:Nat)=>(k:Int),rfl,by rw [s5 _ _ ef4,wk,aB4]; rfl,?_⟩
   exact ⟨_,rfl,_,rfl,_,rfl,_,rfl,last k (by rw [wk]; exact List.mem_cons_self ..) ⟨fun b u _ zb=>s15 b u zb,fun r dx n y=>nomatch y⟩⟩
  ·refine z6 ⟨_,rfl,?_⟩
   have er4:=s14 _ _ er
   refine .inr ⟨_,rfl,r,rdx,_,rfl,er4,rfl,_,rfl,_,rfl,_,rfl,r,rdx,fl,.ref a,.ref l,n,(E6 h ks c es sh).map fun (k:Nat)=>(k:Int),rfl,er4,by rw [ef4,aB4],fun y=>z' (List.map_eq_nil_iff.mp y),by rw [List.length_map]; lia,fun H5 s5 er5=>?_⟩
   obtain ⟨k,hk,ek⟩:=List.mem_map.mp (aD1 (n:=n) (xs:=(E6 h ks c es sh).map fun (k:Nat)=>(k:Int)) (fun y=>z' (List.map_eq_nil_iff.mp y)))
   rw [← ek] at er5 ⊢
   refine ⟨_,rfl,_,rfl,_,rfl,_,rfl,last k hk ⟨fun b u nb zb=>s5 b u (fun y=>nb (by rw [y])) (s14 _ _ zb),fun r' dx' n' y zr=>?_⟩⟩
   cases y
   rw [er] at zr
   cases zr
   exact ⟨_,er5⟩
end
structure KindOk (K:PySem.W.Frag) (C CH:Addr) (cs:List Addr) (bs:List Bool) (j:Nat):Prop where
 x:ExcX K C
 hall:PySem.W.kitOne K (.ref C) (.ref CH) = some true
 val:PySem.W.kitOne K (.ref C) (.type "ValueError") = some true
 each:Paired (fun D b=>PySem.W.kitOne K (.ref C) (.ref D) = some b) cs bs
 one:bs.count true = 1
 at_:bs[j]? = some true
 no:∀ m < j,bs[m]? = some (!true)
 few:j ≤ 1000
def aV1 (K:PySem.W.Frag) (CH:Addr) (cs:List Addr):Sp:=fun vs H Q _=>∃ (ea C:Addr) (od:Option Addr) (bs:List Bool) (j:Nat),vs = [.ref ea] ∧ H ea = some (Q9 ea C od) ∧ KindOk K C CH cs bs j ∧ ∀ H',j5 H H' → Q (.int (j:Nat)) H'
section
variable {P:Program} {w:World} {K:PySem.W.Frag} {mg:Str → Option Value} {base:Heap} {C_Rule C_Round C_HallError C_NoHall C_NoCalls C_NoLine C_NoRule C_Idle C_Busy C_Engaged C_NoMove:Addr}
theorem N8:FnScope ["_law_e","_law_some"] ["_law_e"] (i7 (top 47)):=⟨rfl,rfl,rfl,by decide +kernel,rfl,by decide +kernel,by decide +kernel⟩
theorem aX6 (T:Txt K mg) (Z:TxtC K mg C_Rule C_Round C_HallError C_NoHall C_NoCalls C_NoLine C_NoRule C_Idle C_Busy C_Engaged C_NoMove) (D:Def K mg "_law_kind" (top 47) ["_law_e"]):Callee P w K mg base 1 "_law_kind" ["_law_e"] (aV1 K C_HallError [C_NoLine,C_Busy,C_Engaged,C_Idle,C_NoRule,C_NoMove,C_NoHall,C_NoCalls]):=by
 refine D.ok N8 (fun vs H Q E h=>?_) (fun f cdv A outer s H vs Q E hr h=>?_)
 ·obtain ⟨ea,C,od,bs,j,rfl,_⟩:=h
  rfl
 obtain ⟨ea,C,od,bs,j,rfl,he,ko,q⟩:=h
 obtain ⟨b0,b1,b2,b3,b4,b5,b6,b7,rfl,k0,k1,k2,k3,k4,k5,k6,k7⟩:∃ b0 b1 b2 b3 b4 b5 b6 b7,bs = [b0,b1,b2,b3,b4,b5,b6,b7] ∧ PySem.W.kitOne K (.ref C) (.ref C_NoLine) = some b0 ∧ PySem.W.kitOne K (.ref C) (.ref C_Busy) = some b1 ∧ PySem.W.kitOne K (.ref C) (.ref C_Engaged) = some b2 ∧ PySem.W.kitOne K (.ref C) (.ref C_Idle) = some b3 ∧
   PySem.W.kitOne K (.ref C) (.ref C_NoRule) = some b4 ∧ PySem.W.kitOne K (.ref C) (.ref C_NoMove) = some b5 ∧ PySem.W.kitOne K (.ref C) (.ref C_NoHall) = some b6 ∧ PySem.W.kitOne K (.ref C) (.ref C_NoCalls) = some b7:=by
  have:=ko.each
  match bs,this with
  | _,.cons a0 (.cons a1 (.cons a2 (.cons a3 (.cons a4 (.cons a5 (.cons a6 (.cons a7 .nil)))))))=>exact ⟨_,_,_,_,_,_,_,_,rfl,a0,a1,a2,a3,a4,a5,a6,a7⟩
 have rr:∀ {D:Addr} (u:Value),x8 (.ref D) u → u = .ref D:=fun {D} u h=>h
 refine ⟨_,(i4 (j7 (i:=1) N8.nd rfl (Or.inl rfl) (q9 (b8 (i8 (A2 K) rfl T.m_isinstance boot_isinstance (b8 (pv 0) (b8 (N5 (v:=.ref C_NoLine) rfl Z.mg_NoLine rfl) d9 b9) b9)) (b8 (i8 (A2 K) rfl T.m_isinstance boot_isinstance (b8 (pv 0) (b8 (N5 (v:=.ref C_Busy) rfl Z.mg_Busy rfl) d9 b9) b9)) (b8 (i8 (A2 K) rfl T.m_isinstance boot_isinstance (b8 (pv 0) (b8 (N5 (v:=.ref C_Engaged) rfl Z.mg_Engaged rfl) d9 b9) b9)) d9 r9) r9) r9)))
  (i4 (j7 (i:=1) N8.nd rfl (Or.inl rfl) (j2 O8 (pv 1) (q9 (b8 (i8 (A2 K) rfl T.m_isinstance boot_isinstance (b8 (pv 0) (b8 (N5 (v:=.ref C_Idle) rfl Z.mg_Idle rfl) d9 b9) b9)) (b8 (i8 (A2 K) rfl T.m_isinstance boot_isinstance (b8 (pv 0) (b8 (N5 (v:=.ref C_NoRule) rfl Z.mg_NoRule rfl) d9 b9) b9)) (b8 (i8 (A2 K) rfl T.m_isinstance boot_isinstance (b8 (pv 0) (b8 (N5 (v:=.ref C_NoMove) rfl Z.mg_NoMove rfl) d9 b9) b9)) d9 r9) r9) r9))))
  (i4 (j7 (i:=1) N8.nd rfl (Or.inl rfl) (j2 O8 (pv 1) (q9 (b8 (i8 (A2 K) rfl T.m_isinstance boot_isinstance (b8 (pv 0) (b8 (N5 (v:=.ref C_NoHall) rfl Z.mg_NoHall rfl) d9 b9) b9)) (b8 (i8 (A2 K) rfl T.m_isinstance boot_isinstance (b8 (pv 0) (b8 (N5 (v:=.ref C_NoCalls) rfl Z.mg_NoCalls rfl) d9 b9) b9)) d9 r9) r9))))
  (i4 (m8 (PW.pt (E7 (y0 (m9 K (i8 (A2 K) rfl T.m_isinstance boot_isinstance (b8 (pv 0) (b8 (N5 (v:=.ref C_HallError) rfl Z.mg_HallError rfl) d9 b9) b9)) (fun _=>rfl))) (E7 (y0 (m9 K (i8 (A2 K) rfl T.m_isinstance boot_isinstance (b8 (pv 0) (b8 (n6 (v:=.ty "ValueError") rfl T.m_ValueError ae3 rfl) d9 b9) b9)) (fun _=>rfl))) (D6 (j8 al9 (K8 K PySem.F.plainAttrs_list PySem.F.slot_list_count PySem.F.type_list_count aN6 (pv 1) (b8 z5 d9 m6)) i0 (m7 _)))))) (i5 (i9 (ao7 ab1 i0))) j1)
  (i5 (i9 (K8 K PySem.F.plainAttrs_list PySem.F.slot_list_index PySem.F.type_list_index aM7 (pv 1) (b8 z5 d9 m6)))))))),?_⟩
 refine ⟨_,rfl,ea,C,od,_,_,b0,rfl,rr,he,ko.x,k0,?_⟩
 refine ⟨_,rfl,ea,C,od,_,_,b1,rfl,rr,he,ko.x,k1,?_⟩
 refine ⟨_,rfl,ea,C,od,_,_,b2,rfl,rr,he,ko.x,k2,?_⟩
 refine ⟨(by show 3 ≤ sizeLine; decide),fun p1 hp1=>?_⟩
 have s1:=i6 hp1 (.lst [.bl b0,.bl b1,.bl b2])
 have e1:=i3 (H:=H) (a:=p1) (o:=.lst [.bl b0,.bl b1,.bl b2])
 generalize upd H p1 (.lst [.bl b0,.bl b1,.bl b2]) = H1 at s1 e1 ⊢
 have he1:=s1 _ _ he
 refine ⟨_,rfl,?_⟩
 refine ⟨_,rfl,ea,C,od,_,_,b3,rfl,rr,he1,ko.x,k3,?_⟩
 refine ⟨_,rfl,ea,C,od,_,_,b4,rfl,rr,he1,ko.x,k4,?_⟩
 refine ⟨_,rfl,ea,C,od,_,_,b5,rfl,rr,he1,ko.x,k5,?_⟩
 refine ⟨(by show 3 ≤ sizeLine; decide),fun p2 hp2=>?_⟩
 have s2:=i6 hp2 (.lst [.bl b3,.bl b4,.bl b5])
 have e2:=i3 (H:=H1) (a:=p2) (o:=.lst [.bl b3,.bl b4,.bl b5])
 generalize upd H1 p2 (.lst [.bl b3,.bl b4,.bl b5]) = H2 at s2 e2 ⊢
 refine ⟨p1,p2,_,_,rfl,rfl,s2 _ _ e1,e2,(by show 6 ≤ sizeLine; decide),fun p3 hp3=>?_⟩
 have s3:=i6 hp3 (.lst ([.bl b0,.bl b1,.bl b2] ++ [.bl b3,.bl b4,.bl b5]))
 have e3:=i3 (H:=H2) (a:=p3) (o:=.lst ([.bl b0,.bl b1,.bl b2] ++ [.bl b3,.bl b4,.bl b5]))
 generalize upd H2 p3 (.lst ([.bl b0,.bl b1,.bl b2] ++ [.bl b3,.bl b4,.bl b5])) = H3 at s3 e3 ⊢
 have he3:=s3 _ _ (s2 _ _ he1)
 refine ⟨_,rfl,?_⟩
 refine ⟨_,rfl,ea,C,od,_,_,b6,rfl,rr,he3,ko.x,k6,?_⟩
 refine ⟨_,rfl,ea,C,od,_,_,b7,rfl,rr,he3,ko.x,k7,?_⟩
 refine ⟨(by show 2 ≤ sizeLine; decide),fun p4 hp4=>?_⟩
 have s4:=i6 hp4 (.lst [.bl b6,.bl b7])
 have e4:=i3 (H:=H3) (a:=p4) (o:=.lst [.bl b6,.bl b7])
 generalize upd H3 p4 (.lst [.bl b6,.bl b7]) = H4 at s4 e4 ⊢
 refine ⟨p3,p4,_,_,rfl,rfl,s4 _ _ e3,e4,(by show 8 ≤ sizeLine; decide),fun p5 hp5=>?_⟩
 have s5:=i6 hp5 (.lst (([.bl b0,.bl b1,.bl b2] ++ [.bl b3,.bl b4,.bl b5]) ++ [.bl b6,.bl b7]))
 have e5:=i3 (H:=H4) (a:=p5) (o:=.lst (([.bl b0,.bl b1,.bl b2] ++ [.bl b3,.bl b4,.bl b5]) ++ [.bl b6,.bl b7]))
 generalize upd H4 p5 (.lst (([.bl b0,.bl b1,.bl b2] ++ [.bl b3,.bl b4,.bl b5]) ++ [.bl b6,.bl b7])) = H5 at s5 e5 ⊢
 have he5:=s5 _ _ (s4 _ _ he3)
 have s15:=s1.trans (s2.trans (s3.trans (s4.trans s5)))
 have e5':H5 p5 = some (.lst ([b0,b1,b2,b3,b4,b5,b6,b7].map V.bl)):=e5
 refine ⟨_,rfl,ea,C,od,_,_,true,rfl,rr,he5,ko.x,ko.hall,_,rfl,z6 ?_⟩
 refine ⟨_,rfl,ea,C,od,_,_,true,rfl,(fun u h=>h),he5,ko.x,ko.val,_,rfl,z6 ?_⟩
 refine ⟨_,rfl,.inl ⟨rfl,_,SqL.of e5'⟩,p5,true,_,rfl,rfl,e5',rfl,_,rfl,ax3 (by rw [ko.one]; decide) ?_⟩
 exact ⟨_,rfl,.inl ⟨rfl,_,SqL.of e5'⟩,p5,true,_,j,rfl,rfl,e5',ko.at_,ko.no,ko.few,q _ s15⟩
end
def aI4 (h:Hall) (ks:List Call) (c:Int) (es:List Int) (sh:Int) (i:Nat) (v:V):Prop :=
 (v = .non ∧ ∀ k ∈ z7 h sh,¬ k < i) ∨ ∃ k:Nat,v = .int (k:Int) ∧ k < i ∧ k ∈ z7 h sh ∧ ∀ k' ∈ z7 h sh,k' < i → W0 h ks c es k ≤ W0 h ks c es k' ∧ (k' < k → W0 h ks c es k < W0 h ks c es k')
def aR1 (K:PySem.W.Frag):Sp:=fun vs H Q _=>∃ (a L:Addr) (rs:List Addr) (h:Hall) (ks:List Call) (c:Int) (es:List Int) (sh:Int),vs = [.ref a,.ref L,.int sh] ∧ SqT K H a (h.row.map V.int) ∧ h.Ok ∧ H L = some (.lst (rs.map V.ref)) ∧ x5 H rs (C8 h ks c es) ∧
 (z7 h sh = [] → Q .non H) ∧ ∀ k ra,ab4 h ks c es sh k → H ra = some (.lst ((F0 h ks (c / h.c) (o8 h es) k).map V.int)) → Q (.ref ra) H
def aK0 (K:PySem.W.Frag):Sp:=fun vs H Q _=>∃ (l e:Addr) (as:List Addr) (ks:List Call) (c:Int) (es:List Int),vs = [.ref l,.int c,.ref e] ∧ SqL K H l (as.map V.ref) ∧ m4 H as ks ∧ (SqT K H e (es.map V.int) ∨ SqL K H e (es.map V.int)) ∧ es.length < 64 ∧
 (∀ H',j5 H H' → Y8 ks c es → Q .non H') ∧ ∀ (w:Int) (H':Hp),j5 H H' → O2 ks c es w → Q (.int w) H'
section
variable {P:Program} {w:World} {K:PySem.W.Frag} {mg:Str → Option Value} {base:Heap} {C_Rule C_Round C_HallError C_NoHall C_NoCalls C_NoLine C_NoRule C_Idle C_Busy C_Engaged C_NoMove:Addr}
theorem N3:FnScope ["_law_hall_here","_law_kept","_law_shut","_law_best_here","_law_k"] ["_law_hall_here","_law_kept","_law_shut"] (i7 (top 49)):=⟨rfl,rfl,rfl,by decide +kernel,rfl,by decide +kernel,by decide +kernel⟩
theorem aZ6 (T:Txt K mg) (D:Def K mg "_law_best" (top 49) ["_law_hall_here","_law_kept","_law_shut"]):Callee P w K mg base 1 "_law_best" ["_law_hall_here","_law_kept","_law_shut"] (aR1 K):=by
 refine D.ok N3 (fun vs H Q E h=>?_) (fun f cdv A outer s H vs Q E hr h=>?_)
 ·obtain ⟨a,L,rs,h,ks,c,es,sh,rfl,_⟩:=h
  rfl
 obtain ⟨a,L,rs,h,ks,c,es,sh,rfl,hH,ok,hL,hrows,qN,q⟩:=h
 have b3:=ok.m
 refine ⟨_,(i4 (j7 (i:=3) N3.nd rfl (Or.inl rfl) y6)
  (i4 (A3 PassesOwn.never rfl (z9 rfl T.m_range (b8 (j3 (j0 K) (pv 0) i0 (fun _ _=>rfl)) d9 x6)) (o5 (i:=4) N3.nd rfl (Or.inl rfl))
  (i5 (m8 (j8 C4 (j2 aC7 (j2 aC2 (pv 2) (pv 4)) i0) i0 (m7 _)) (i5 (m8 (PW.pt (E7 (j8 Q7 (pv 3) y6 (m7 _)) (D6 (j8 S2 (i8 (o7 K) rfl T.m_len boot_len (b8 (j3 (n9 K) (pv 1) (pv 4) (fun _ _=>rfl)) d9 x6)) (i8 (o7 K) rfl T.m_len boot_len (b8 (j3 (n9 K) (pv 1) (pv 3) (fun _ _=>rfl)) d9 x6)) (m7 _))))) (i5 (j7 (i:=3) N3.nd rfl (Or.inl rfl) (pv 4))) j1)) j1)))
  (i4 (m8 (j8 Q7 (pv 3) y6 (m7 _)) (i5 (i9 y6)) j1)
  (i5 (i9 (j3 (n9 K) (pv 1) (pv 3) (fun _ _=>rfl))))))),?_⟩
 have lr:=Paired.length hrows
 unfold C8 at lr
 rw [T0] at lr
 have rowAt:∀ k:Nat,k < h.m.toNat → ∃ ra,atI (rs.map V.ref) (k:Int) = some (.ref ra) ∧ H ra = some (.lst ((F0 h ks (c / h.c) (o8 h es) k).map V.int)):=fun k hk=>by
  have ea:rs[k]? = some (rs[k]'(by lia)):=List.getElem?_eq_getElem _
  obtain ⟨row,w1,w2⟩:=m3 hrows k _ ea
  have w1':row = F0 h ks (c / h.c) (o8 h es) k:=by
   unfold C8 J3 at w1
   rw [List.getElem?_map,List.getElem?_range hk] at w1
   exact (Option.some.inj w1).symm
  rw [w1'] at w2
  exact ⟨_,z8 (by rw [List.getElem?_map,ea]; rfl),w2⟩
 have lenE:∀ k:Nat,((((F0 h ks (c / h.c) (o8 h es) k).map V.int).length:Nat):Int) = ((W0 h ks c es k:Nat):Int):=fun k=>by
  unfold W0
  rw [List.length_map]
 have memO:∀ i:Nat,i < h.m.toNat → (i ∈ z7 h sh ↔ E8 sh i = true):=fun i hi=>by
  unfold z7
  rw [List.mem_filter,List.mem_range]
  exact ⟨fun z=>z.2,fun z=>⟨hi,z⟩⟩
 refine ⟨_,rfl,a,_,_,_,rfl,rfl,hH,rfl,_,rfl,by show -(2 ^ 62) ≤ h.m; lia,by show h.m < 2 ^ 62; lia,?_⟩
 refine A4 (fun i σ H'=>H' = H ∧ ∃ v3 v4,aI4 h ks c es sh i v3 ∧ σ = [some (.ref a),some (.ref L),some (.int sh),some v3,v4])
  ⟨rfl,.non,none,.inl ⟨rfl,fun k _ z=>absurd z (Nat.not_lt_zero _)⟩,rfl⟩ ?_ ?_
 ·rintro i σ H' hi ⟨rfl,v3,v4,ht,rfl⟩
  rw [Int.zero_add]
  refine ⟨_,rfl,_,rfl,_,_,rfl,rfl,by lia,_,_,rfl,rfl,rfl,_,rfl,?_⟩
  have stay:¬ i ∈ z7 h sh → aI4 h ks c es sh (i + 1) v3:=fun hn=>by
   rcases ht with ⟨rfl,z⟩ | ⟨k,rfl,k1,k2,k3⟩
   ·refine .inl ⟨rfl,fun k hk y=>?_⟩
    by_cases e:k = i
    ·exact hn (e ▸ hk)
    ·exact z k hk (by lia)
   ·refine .inr ⟨k,rfl,by lia,k2,fun k' hk' y=>?_⟩
    by_cases e:k' = i
    ·exact absurd (e ▸ hk') hn
    ·exact k3 k' hk' (by lia)
  refine A7 (fun c1=>?_) (fun c1=>?_)
  ·have c1':i ∈ z7 h sh:=(memO i hi).mpr (by unfold E8; simpa using c1)
   rcases ht with ⟨rfl,z⟩ | ⟨k,rfl,k1,k2,k3⟩
   ·refine ⟨_,rfl,rfl,_,rfl,C3 ?_⟩
    refine ⟨_,rfl,rfl,_,_,.inr ⟨i,rfl,by lia,c1',fun k' hk' y=>?_⟩,rfl⟩
    have e:k' = i:=by
     have:=z k' hk'
     lia
    subst e
    exact ⟨Nat.le_refl _,fun z=>absurd z (Nat.lt_irrefl _)⟩
   ·refine ⟨_,rfl,rfl,_,rfl,z6 ?_⟩
    obtain ⟨ra,a1,a2⟩:=rowAt i hi
    obtain ⟨rb,b1,b2⟩:=rowAt k (by lia)
    refine ⟨_,rfl,_,rfl,L,_,_,_,rfl,rfl,SqL.of hL,a1,ra,_,rfl,.inl (SqL.of a2),_,rfl,_,rfl,L,_,_,_,rfl,rfl,SqL.of hL,b1,rb,_,rfl,.inl (SqL.of b2),_,_,rfl,rfl,_,rfl,?_⟩
    rw [lenE,lenE]
    refine A7 (fun c2=>?_) (fun c2=>?_)
    ·have c2':((W0 h ks c es i:Nat):Int) < ((W0 h ks c es k:Nat):Int):=of_decide_eq_true c2
     refine ⟨_,rfl,rfl,_,_,.inr ⟨i,rfl,by lia,c1',fun k' hk' y=>?_⟩,rfl⟩
     by_cases e:k' = i
     ·subst e
      exact ⟨Nat.le_refl _,fun z=>absurd z (Nat.lt_irrefl _)⟩
     ·have:=(k3 k' hk' (by lia)).1
      exact ⟨by lia,fun _=>by lia⟩
    ·have c2':¬ ((W0 h ks c es i:Nat):Int) < ((W0 h ks c es k:Nat):Int):=fun z=>c2 (decide_eq_true z)
     refine ⟨rfl,_,_,.inr ⟨k,rfl,by lia,k2,fun k' hk' y=>?_⟩,rfl⟩
     by_cases e:k' = i
     ·subst e
      exact ⟨by lia,fun z=>by lia⟩
     ·exact k3 k' hk' (by lia)
  ·have c1':¬ i ∈ z7 h sh:=fun z=>c1 (by
    have:=(memO i hi).mp z
    unfold E8 at this
    simpa using this)
   exact ⟨rfl,_,_,stay c1',rfl⟩
 ·rintro σ H' ⟨rfl,v3,v4,ht,rfl⟩
  rcases ht with ⟨rfl,z⟩ | ⟨k,rfl,k1,k2,k3⟩
  ·refine ⟨_,rfl,rfl,_,rfl,C3 (qN ?_)⟩
   refine List.eq_nil_iff_forall_not_mem.mpr fun k hk=>z k hk (Y7 hk)
  ·obtain ⟨ra,a1,a2⟩:=rowAt k (Y7 k2)
   exact ⟨_,rfl,rfl,_,rfl,z6 ⟨_,rfl,_,rfl,L,_,_,_,rfl,rfl,SqL.of hL,a1,q k ra ⟨k2,fun k' hk'=>k3 k' hk' (Y7 hk')⟩ a2⟩⟩
theorem N7:FnScope ["_law_calls_here","_law_caller_here","_law_ends_here","_law_call","_law_end"] ["_law_calls_here","_law_caller_here","_law_ends_here"] (i7 (top 50)):=⟨rfl,rfl,rfl,by decide +kernel,rfl,by decide +kernel,by decide +kernel⟩
theorem aT9 (T:Txt K mg) (D:Def K mg "_law_busy" (top 50) ["_law_calls_here","_law_caller_here","_law_ends_here"]):Callee P w K mg base 1 "_law_busy" ["_law_calls_here","_law_caller_here","_law_ends_here"] (aK0 K):=by
 refine D.ok N7 (fun vs H Q E h=>?_) (fun f cdv A outer s H vs Q E hr h=>?_)
 ·obtain ⟨l,e,as,ks,c,es,rfl,_⟩:=h
  rfl
 obtain ⟨l,e,as,ks,c,es,rfl,hl,hC,he,h64,q,qB⟩:=h
 have la:=Paired.length hC
 refine ⟨_,(i4 (A3 PassesOwn.never rfl (y9 K (pv 0)) (o5 (i:=3) N7.nd rfl (Or.inl rfl))
  (i5 (m8 (j8 C4 (j3 (j0 K) (pv 3) i0 (fun _ _=>rfl)) (pv 1) (m7 _)) (i5 (i9 (pv 1))) j1)))
  (i4 (A3 PassesOwn.never rfl (y9 K (i8 (N2 K) rfl T.m_sorted boot_sorted (b8 (pv 2) d9 b9))) (o5 (i:=4) N7.nd rfl (Or.inl rfl))
  (i5 (A3 PassesOwn.never rfl (y9 K (pv 0)) (o5 (i:=3) N7.nd rfl (Or.inl rfl))
  (i5 (m8 (j8 (Y3 K) (pv 4) (j3 (j0 K) (pv 3) i0 (fun _ _=>rfl)) (by with_unfolding_all rfl)) (i5 (i9 (j3 (j0 K) (pv 3) i0 (fun _ _=>rfl)))) j1)))))
  (i5 (i9 y6)))),?_⟩
 refine ⟨_,rfl,l,rfl,⟨_,hl⟩,?_⟩
 refine D8 (xs:=as.map V.ref) (fun i σ H'=>H' = H ∧ (∀ k ∈ ks.take i,k.c ≠ c) ∧ ∃ v3,σ = [some (.ref l),some (.int c),some (.ref e),v3,none])
  ⟨rfl,(fun k z=>nomatch z),none,rfl⟩ (fun i σ H' _ g=>by rw [g.1]; exact hl) ?_ ?_
 ·rintro i x σ G hx ⟨rfl,no,v3,rfl⟩
  rw [List.getElem?_map] at hx
  obtain ⟨p,hp,rfl⟩:=Option.map_eq_some_iff.mp hx
  obtain ⟨k,hk,ce,e1,e2⟩:=m3 hC i p hp
  refine ⟨_,rfl,p,_,_,_,rfl,rfl,SqT.of e2,rfl,_,rfl,rfl,_,rfl,?_⟩
  refine A7 (fun z=>?_) (fun z=>?_)
  ·have z':k.c = c:=V.int.inj (of_decide_eq_true z)
   exact ⟨_,rfl,qB c _ (fun b u y=>y) (.inl ⟨⟨k,List.mem_of_getElem? hk,z'⟩,rfl⟩)⟩
  ·have z':¬ k.c = c:=fun y=>z (decide_eq_true (by rw [y]))
   refine ⟨rfl,fun k' hk'=>?_,_,rfl⟩
   rw [List.take_add_one,hk] at hk'
   rcases List.mem_append.mp hk' with y | y
   ·exact no k' y
   ·rw [List.mem_singleton.mp y]
    exact z'
 ·rintro σ G ⟨rfl,no,v3,rfl⟩
  rw [List.length_map,la,List.take_length] at no
  refine ⟨_,rfl,e,es,rfl,he,h64,fun ns' pm srt sl hsl=>?_⟩
  have s1:=i6 hsl (.lst (ns'.map V.int))
  have esl:=i3 (H:=G) (a:=sl) (o:=.lst (ns'.map V.int))
  generalize upd G sl (.lst (ns'.map V.int)) = H1 at s1 esl ⊢
  refine ⟨sl,rfl,⟨_,SqL.of esl⟩,?_⟩
  refine D8 (xs:=ns'.map V.int) (fun i σ H'=>H' = H1 ∧ (∀ e ∈ ns'.take i,∀ k ∈ ks,¬ e ∈ k.es) ∧ ∃ v3 v4,σ = [some (.ref l),some (.int c),some (.ref e),v3,v4])
   ⟨rfl,(fun e z=>nomatch z),_,_,rfl⟩ (fun i σ H' _ g=>by rw [g.1]; exact SqL.of esl) ?_ ?_
  ·rintro i x σ G2 hx ⟨rfl,low,v3,v4,rfl⟩
   rw [List.getElem?_map] at hx
   obtain ⟨en,hen,rfl⟩:=Option.map_eq_some_iff.mp hx
   refine ⟨_,rfl,l,rfl,⟨_,s1.seq hl⟩,?_⟩
   refine D8 (xs:=as.map V.ref) (fun j σ H'=>H' = G2 ∧ (∀ k ∈ ks.take j,¬ en ∈ k.es) ∧ ∃ v3,σ = [some (.ref l),some (.int c),some (.ref e),v3,some (.int en)])
    ⟨rfl,(fun k z=>nomatch z),_,rfl⟩ (fun j σ H' _ g=>by rw [g.1]; exact s1.seq hl) ?_ ?_
   ·rintro j x σ G3 hx ⟨rfl,lo2,v3,rfl⟩
    rw [List.getElem?_map] at hx
    obtain ⟨p,hp,rfl⟩:=Option.map_eq_some_iff.mp hx
    obtain ⟨k,hk,ce,e1,e2⟩:=m3 hC j p hp
    refine ⟨_,rfl,_,rfl,p,_,_,_,rfl,rfl,SqT.of (s1 _ _ e2),rfl,ce,_,rfl,.inr (SqT.of (s1 _ _ e1)),rfl,O1 k.es,_,rfl,?_⟩
    rw [Y2]
    refine A7 (fun z=>?_) (fun z=>?_)
    ·have z':en ∈ k.es:=by simpa using z
     refine ⟨_,rfl,p,_,_,_,rfl,rfl,SqT.of (s1 _ _ e2),rfl,qB k.c _ s1 (.inr ⟨no,en,pm.mem_iff.mp (List.mem_of_getElem? hen),⟨k,List.mem_of_getElem? hk,z',rfl⟩,fun e' he' lt=>?_⟩)⟩
     refine low e' ?_
     obtain ⟨j',hj,ej⟩:=List.getElem_of_mem (pm.mem_iff.mpr he')
     have hi:=List.getElem?_eq_some_iff.mp hen
     by_cases z:j' < i
     ·rw [List.mem_take_iff_getElem]
      exact ⟨j',by lia,ej⟩
     ·by_cases y:j' = i
      ·subst y
       rw [hi.2] at ej
       lia
      ·have:=(List.pairwise_iff_getElem.mp srt) i j' hi.1 hj (by lia)
       rw [hi.2,ej] at this
       lia
    ·have z':¬ en ∈ k.es:=by simpa using z
     refine ⟨rfl,fun k' hk'=>?_,_,rfl⟩
     rw [List.take_add_one,hk] at hk'
     rcases List.mem_append.mp hk' with y | y
     ·exact lo2 k' y
     ·rw [List.mem_singleton.mp y]
      exact z'
   ·rintro σ G3 ⟨rfl,lo2,v3,rfl⟩
    rw [List.length_map,la,List.take_length] at lo2
    refine ⟨rfl,fun e' he'=>?_,_,_,rfl⟩
    rw [List.take_add_one,hen] at he'
    rcases List.mem_append.mp he' with y | y
    ·exact low e' y
    ·rw [List.mem_singleton.mp y]
     exact lo2
  ·rintro σ G2 ⟨rfl,low,v3,v4,rfl⟩
   rw [List.length_map,List.take_length] at low
   exact q _ s1 ⟨no,fun e he=>low e (pm.mem_iff.mpr he)⟩
end
theorem af7 (ns:List Int):(A0 ns).length = ns.length ↔ ns.Nodup:=by
 have n2:=L6 (K9 ns)
 constructor
 ·intro h
  have:=J6 (A0 ns) ns n2 (fun x hx=>(J4 x ns).mp hx) (by lia)
  exact this.nodup_iff.mp n2
 ·intro h
  have:=J6 ns (A0 ns) h (fun x hx=>(J4 x ns).mpr hx) (ab5 ns)
  exact this.length_eq.symm
theorem ak0 {h:Hall} {xs ys:List V} {x:V} (hx:n4 x 0 (h.o * h.e - 1) = false):B3 h (some (xs ++ [x] ++ ys)) = false:=by
 show (!(xs ++ [x] ++ ys).isEmpty && ((xs ++ [x] ++ ys).all (fun x=>n4 x 0 (h.o * h.e - 1)) && C5 (xs ++ [x] ++ ys))) = false
 have:(xs ++ [x] ++ ys).all (fun x=>n4 x 0 (h.o * h.e - 1)) = false:=by
  rw [List.all_append,List.all_append,List.all_cons,hx,Bool.false_and,Bool.and_false,Bool.false_and]
 rw [this,Bool.false_and,Bool.and_false]
theorem aE0 (xs:List V) (a:Nat):S4 xs none (some (a:Int)) = xs.take a:=by
 unfold S4
 rw [HT.sIx_none,show HT.sIx xs.length xs.length (some (a:Int)) = min a xs.length from HT.sIx_nat _ _ a,List.drop_zero,Nat.sub_zero]
 exact List.take_eq_take_iff.mpr (by lia)
theorem aV6 (xs:List V) (a:Nat):S4 xs (some (a:Int)) none = xs.drop a:=by
 unfold S4
 rw [HT.sIx_none,show HT.sIx xs.length 0 (some (a:Int)) = min a xs.length from HT.sIx_nat _ _ a]
 rcases Nat.le_total a xs.length with h | h
 ·rw [Nat.min_eq_left h]
  exact List.take_of_length_le (by rw [List.length_drop]; lia)
 ·rw [Nat.min_eq_right h,List.drop_length,List.drop_eq_nil_of_le h,List.take_nil]
theorem aa2 {K:PySem.W.Frag}:PySem.W.kitOne K (.type "tuple") (.type "list") = some false:=A6 (by decide +kernel)
theorem aq9 {K:PySem.W.Frag}:PySem.W.kitOne K (.type "tuple") (.type "tuple") = some true:=A6 (by decide +kernel)
theorem aq7 {K:PySem.W.Frag}:PySem.W.kitOne K (.type "list") (.type "tuple") = some false:=A6 (by decide +kernel)
theorem Z3 {K:PySem.W.Frag}:PySem.W.kitOne K (.type "list") (.type "list") = some true:=A6 (by decide +kernel)
theorem K1 {K:PySem.W.Frag}:PySem.W.kitOne K (.type "int") (.type "int") = some true:=A6 (by decide +kernel)
theorem F4 {K:PySem.W.Frag}:PySem.W.kitOne K (.type "int") (.type "bool") = some false:=A6 (by decide +kernel)
theorem aC9 {x:V} {lo hi:Int} (ni:∀ i,x ≠ .int i):n4 x lo hi = false:=by
 cases x with
 | int i=>exact absurd rfl (ni i)
 | _=>rfl
theorem aj5 {b:Bool} {A B:Prop} (h1:b = true → B) (h2:¬ b = true → A):if (!b) = true then A else B:=by
 cases b
 ·exact h2 (by decide)
 ·exact h1 rfl
structure GoodTo (h:Hall) (xs:List V) (i:Nat) (ns:List Int):Prop where
 at_:xs.take i = ns.map V.int
 nd:ns.Nodup
 bd:∀ e ∈ ns,0 ≤ e ∧ e < h.o * h.e
theorem GoodTo.bad {h:Hall} {xs:List V} {i:Nat} {x:V} (hx:xs[i]? = some x) (b:n4 x 0 (h.o * h.e - 1) = false):B3 h (some xs) = false:=by
 have e:xs = xs.take i ++ [x] ++ xs.drop (i + 1):=by
  have:=List.take_append_drop (i + 1) xs
  rw [List.take_add_one,hx] at this
  exact this.symm
 rw [e]
 exact ak0 b
theorem GoodTo.twice {h:Hall} {xs:List V} {i:Nat} {e:Int} {ns:List Int} (g:GoodTo h xs i ns) (hx:xs[i]? = some (.int e)) (he:e ∈ ns):B3 h (some xs) = false:=by
 show (!xs.isEmpty && (xs.all (fun x=>n4 x 0 (h.o * h.e - 1)) && C5 xs)) = false
 cases a:xs.all (fun x=>n4 x 0 (h.o * h.e - 1)) with
 | false=>rw [Bool.false_and,Bool.and_false]
 | true =>
  obtain ⟨ms,rfl⟩:=ac0 a
  have:C5 (ms.map V.int) = false:=by
   unfold C5
   rw [N9,List.length_map]
   refine decide_eq_false fun z=>?_
   have nd:=(af7 _).mp z
   rw [List.getElem?_map] at hx
   obtain ⟨e',he',y⟩:=Option.map_eq_some_iff.mp hx
   cases y
   have at_:=g.at_
   rw [← List.map_take] at at_
   have at2:ms.take i = ns:=(List.map_inj_right (fun a b z=>V.int.inj z)).mp at_
   have m2:ms = ms.take i ++ [e] ++ ms.drop (i + 1):=by
    have:=List.take_append_drop (i + 1) ms
    rw [List.take_add_one,he'] at this
    exact this.symm
   rw [m2,at2] at nd
   have nd1:=(List.nodup_append.mp nd).1
   exact (List.nodup_append.mp nd1).2.2 e he e (List.mem_singleton.mpr rfl) rfl
  rw [this,Bool.and_false,Bool.and_false]
theorem GoodTo.snoc {h:Hall} {xs:List V} {i:Nat} {e:Int} {ns:List Int} (g:GoodTo h xs i ns) (hx:xs[i]? = some (.int e)) (no:¬ e ∈ ns) (b:0 ≤ e ∧ e < h.o * h.e):GoodTo h xs (i + 1) (ns ++ [e]):=by
 refine ⟨?_,ap6 g.nd no,fun e' he'=>?_⟩
 ·rw [List.take_add_one,hx,List.map_append,g.at_]
  rfl
 ·rcases List.mem_append.mp he' with z | z
  ·exact g.bd e' z
  ·rw [List.mem_singleton.mp z]
   exact b
theorem GoodTo.done {h:Hall} {xs:List V} {ns:List Int} (g:GoodTo h xs xs.length ns) (ne:xs ≠ []):B3 h (some xs) = true:=by
 have at_:=g.at_
 rw [List.take_length] at at_
 subst at_
 show (!(ns.map V.int).isEmpty && ((ns.map V.int).all (fun x=>n4 x 0 (h.o * h.e - 1)) && C5 (ns.map V.int))) = true
 have h1:(!(ns.map V.int).isEmpty) = true:=by
  cases ns with
  | nil=>exact absurd rfl ne
  | cons _ _=>rfl
 have h2:(ns.map V.int).all (fun x=>n4 x 0 (h.o * h.e - 1)) = true:=by
  rw [List.all_eq_true]
  intro x hx
  obtain ⟨e,he,rfl⟩:=List.mem_map.mp hx
  have:=g.bd e he
  show (decide (0 ≤ e) && decide (e ≤ h.o * h.e - 1)) = true
  rw [decide_eq_true this.1,decide_eq_true (by lia)]
  rfl
 rw [h1,h2]
 unfold C5
 rw [N9,List.length_map,decide_eq_true ((af7 ns).mpr g.nd)]
 rfl
def aW5 (K:PySem.W.Frag):Sp:=fun vs H Q _=>∃ (a:Addr) (h:Hall) (x y:V) (o:Option (List V)),vs = [.ref a,x,y] ∧ SqT K H a (h.row.map V.int) ∧ h.Ok ∧ PartIs K H x ∧ EndTh K H y o ∧ ∀ H',j5 H H' → Q (.bl (!(n4 x 0 (h.i * h.c - 1) && B3 h o))) H'
section
variable {P:Program} {w:World} {K:PySem.W.Frag} {mg:Str → Option Value} {base:Heap} {C_Rule C_Round C_HallError C_NoHall C_NoCalls C_NoLine C_NoRule C_Idle C_Busy C_Engaged C_NoMove:Addr}
theorem A8:FnScope ["_law_hall_here","_law_caller_here","_law_ends_here","_law_k","_law_end"] ["_law_hall_here","_law_caller_here","_law_ends_here"] (i7 (top 53)):=⟨rfl,rfl,rfl,by decide +kernel,rfl,by decide +kernel,by decide +kernel⟩
theorem aX5 (T:Txt K mg) (D:Def K mg "_law_none" (top 53) ["_law_hall_here","_law_caller_here","_law_ends_here"]):Callee P w K mg base 1 "_law_none" ["_law_hall_here","_law_caller_here","_law_ends_here"] (aW5 K):=by
 refine D.ok A8 (fun vs H Q E h=>?_) (fun f cdv A outer s H vs Q E hr h=>?_)
 ·obtain ⟨a,h,x,y,o,rfl,_⟩:=h
  rfl
 obtain ⟨a,h,x,y,o,rfl,hH,ok,px,ey,q⟩:=h
 cases px with
 | @odd _ t b1 b2 ni ty k1 k2 hb =>
  refine ⟨_,(i4 (m8 (PW.pt (E7 (m9 K (i8 (j6 K) rfl T.m_isinstance boot_isinstance (b8 (pv 1) (b8 (n6 (v:=.ty "bool") rfl T.m_bool boot_bool rfl) d9 b9) b9)) (fun _=>rfl)) (D6 (y0 (m9 K (i8 (j6 K) rfl T.m_isinstance boot_isinstance (b8 (pv 1) (b8 (n6 (v:=.ty "int") rfl T.m_int boot_int rfl) d9 b9) b9)) (fun _=>rfl)))))) (i5 (i9 z5)) j1)
  (i4 (m8 (PW.pt (E7 (y0 (m9 K (i8 (F1 K) rfl T.m_isinstance boot_isinstance (b8 (pv 2) (b8 (C7 (b8 (n6 (v:=.ty "list") rfl T.m_list boot_list rfl) (b8 (n6 (v:=.ty "tuple") rfl T.m_tuple boot_tuple rfl) d9 b9) b9)) d9 O4) b9)) (fun _=>rfl))) (D6 (j8 C4 (i8 (o7 K) rfl T.m_len boot_len (b8 (pv 2) d9 b9)) i0 (m7 _))))) (i5 (i9 z5)) j1)
  (i4 (A3 PassesOwn.never rfl (z9 rfl T.m_range (b8 (i8 (o7 K) rfl T.m_len boot_len (b8 (pv 2) d9 b9)) d9 r9)) (o5 (i:=3) A8.nd rfl (Or.inl rfl))
  (i4 (j7 (i:=4) A8.nd rfl (Or.inl rfl) (j3 (n9 K) (pv 2) (pv 3) (fun _ _=>rfl)))
  (i4 (m8 (PW.pt (E7 (m9 K (i8 (j6 K) rfl T.m_isinstance boot_isinstance (b8 (pv 4) (b8 (n6 (v:=.ty "bool") rfl T.m_bool boot_bool rfl) d9 b9) b9)) (fun _=>rfl)) (E7 (y0 (m9 K (i8 (j6 K) rfl T.m_isinstance boot_isinstance (b8 (pv 4) (b8 (n6 (v:=.ty "int") rfl T.m_int boot_int rfl) d9 b9) b9)) (fun _=>rfl))) (D6 (j8 (Y3 K) (pv 4) (M2 (O0 K) (pv 2) Q6 (N6 (pv 3))) (by with_unfolding_all rfl)))))) (i5 (i9 z5)) j1)
  (i5 (m8 (y0 (Z8 W4 S2 i0 (pv 4) (j2 o9 (j3 (j0 K) (pv 0) i0 (fun _ _=>rfl)) (j3 (j0 K) (pv 0) i0 (fun _ _=>rfl))))) (i5 (i9 z5)) j1)))))
  (i5 (i9 (Y4 (U1 W4 S2 i0 (pv 1) (j2 o9 (j3 (j0 K) (pv 0) i0 (fun _ _=>rfl)) (j3 (j0 K) (pv 0) i0 (fun _ _=>rfl)))))))))),?_⟩
  have q':=q H (fun b u z=>z)
  rw [aC9 ni] at q'
  refine ⟨_,rfl,_,_,_,b2,rfl,ty,k2,b2,rfl,?_⟩
  cases b2 with
  | true=>exact C3 q'
  | false =>
   have:b1 = false:=hb.elim id fun z=>nomatch z
   subst this
   exact z6 ⟨_,rfl,_,_,_,false,rfl,ty,k1,false,rfl,C3 q'⟩
 | int c =>
  have s2:∀ t,j5 H (upd H t (.tup [.ty "list",.ty "tuple"])) → True:=fun _ _=>True.intro
  cases ey with
  | @no _ t ty k1 k2 =>
   refine ⟨_,(i4 (m8 (PW.pt (E7 (m9 K (i8 (j6 K) rfl T.m_isinstance boot_isinstance (b8 (pv 1) (b8 (n6 (v:=.ty "bool") rfl T.m_bool boot_bool rfl) d9 b9) b9)) (fun _=>rfl)) (D6 (y0 (m9 K (i8 (j6 K) rfl T.m_isinstance boot_isinstance (b8 (pv 1) (b8 (n6 (v:=.ty "int") rfl T.m_int boot_int rfl) d9 b9) b9)) (fun _=>rfl)))))) (i5 (i9 z5)) j1)
  (i4 (m8 (PW.pt (E7 (y0 (m9 K (i8 (F1 K) rfl T.m_isinstance boot_isinstance (b8 (pv 2) (b8 (C7 (b8 (n6 (v:=.ty "list") rfl T.m_list boot_list rfl) (b8 (n6 (v:=.ty "tuple") rfl T.m_tuple boot_tuple rfl) d9 b9) b9)) d9 O4) b9)) (fun _=>rfl))) (D6 (j8 C4 (i8 (o7 K) rfl T.m_len boot_len (b8 (pv 2) d9 b9)) i0 (m7 _))))) (i5 (i9 z5)) j1)
  (i4 (A3 PassesOwn.never rfl (z9 rfl T.m_range (b8 (i8 (o7 K) rfl T.m_len boot_len (b8 (pv 2) d9 b9)) d9 r9)) (o5 (i:=3) A8.nd rfl (Or.inl rfl))
  (i4 (j7 (i:=4) A8.nd rfl (Or.inl rfl) (j3 (n9 K) (pv 2) (pv 3) (fun _ _=>rfl)))
  (i4 (m8 (PW.pt (E7 (m9 K (i8 (j6 K) rfl T.m_isinstance boot_isinstance (b8 (pv 4) (b8 (n6 (v:=.ty "bool") rfl T.m_bool boot_bool rfl) d9 b9) b9)) (fun _=>rfl)) (E7 (y0 (m9 K (i8 (j6 K) rfl T.m_isinstance boot_isinstance (b8 (pv 4) (b8 (n6 (v:=.ty "int") rfl T.m_int boot_int rfl) d9 b9) b9)) (fun _=>rfl))) (D6 (j8 (Y3 K) (pv 4) (M2 (O0 K) (pv 2) Q6 (N6 (pv 3))) (by with_unfolding_all rfl)))))) (i5 (i9 z5)) j1)
  (i5 (m8 (y0 (Z8 W4 S2 i0 (pv 4) (j2 o9 (j3 (j0 K) (pv 0) i0 (fun _ _=>rfl)) (j3 (j0 K) (pv 0) i0 (fun _ _=>rfl))))) (i5 (i9 z5)) j1)))))
  (i5 (i9 (Y4 (U1 W4 S2 i0 (pv 1) (j2 o9 (j3 (j0 K) (pv 0) i0 (fun _ _=>rfl)) (j3 (j0 K) (pv 0) i0 (fun _ _=>rfl)))))))))),?_⟩
   refine ⟨_,rfl,_,_,_,false,rfl,.int c,F4,false,rfl,z6 ?_⟩
   refine ⟨_,rfl,_,_,_,true,rfl,.int c,K1,true,rfl,z6 ?_⟩
   refine ⟨_,rfl,(by show 2 ≤ sizeLine; decide),fun tp htp=>?_⟩
   have s1:=i6 htp (.tup [.ty "list",.ty "tuple"])
   have q':=q _ s1
   rw [show B3 h none = false from rfl,Bool.and_false] at q'
   exact ⟨y,tp,t,_,_,false,false,rfl,i3,TyOf.same s1 ty,k1,k2,false,rfl,C3 q'⟩
  | @lst e xs eK hp hn =>
   refine ⟨_,(i4 (m8 (PW.pt (E7 (m9 K (i8 (j6 K) rfl T.m_isinstance boot_isinstance (b8 (pv 1) (b8 (n6 (v:=.ty "bool") rfl T.m_bool boot_bool rfl) d9 b9) b9)) (fun _=>rfl)) (D6 (y0 (m9 K (i8 (j6 K) rfl T.m_isinstance boot_isinstance (b8 (pv 1) (b8 (n6 (v:=.ty "int") rfl T.m_int boot_int rfl) d9 b9) b9)) (fun _=>rfl)))))) (i5 (i9 z5)) j1)
  (i4 (m8 (PW.pt (E7 (y0 (m9 K (i8 (F1 K) rfl T.m_isinstance boot_isinstance (b8 (pv 2) (b8 (C7 (b8 (n6 (v:=.ty "list") rfl T.m_list boot_list rfl) (b8 (n6 (v:=.ty "tuple") rfl T.m_tuple boot_tuple rfl) d9 b9) b9)) d9 O4) b9)) (fun _=>rfl))) (D6 (j8 C4 (i8 (o7 K) rfl T.m_len boot_len (b8 (pv 2) d9 b9)) i0 (m7 _))))) (i5 (i9 z5)) j1)
  (i4 (A3 PassesOwn.never rfl (z9 rfl T.m_range (b8 (i8 (o7 K) rfl T.m_len boot_len (b8 (pv 2) d9 b9)) d9 r9)) (o5 (i:=3) A8.nd rfl (Or.inl rfl))
  (i4 (j7 (i:=4) A8.nd rfl (Or.inl rfl) (j3 (n9 K) (pv 2) (pv 3) (fun _ _=>rfl)))
  (i4 (m8 (PW.pt (E7 (m9 K (i8 (j6 K) rfl T.m_isinstance boot_isinstance (b8 (pv 4) (b8 (n6 (v:=.ty "bool") rfl T.m_bool boot_bool rfl) d9 b9) b9)) (fun _=>rfl)) (E7 (y0 (m9 K (i8 (j6 K) rfl T.m_isinstance boot_isinstance (b8 (pv 4) (b8 (n6 (v:=.ty "int") rfl T.m_int boot_int rfl) d9 b9) b9)) (fun _=>rfl))) (D6 (j8 (Y3 K) (pv 4) (M2 (O0 K) (pv 2) Q6 (N6 (pv 3))) (by with_unfolding_all rfl)))))) (i5 (i9 z5)) j1)
  (i5 (m8 (y0 (Z8 W4 S2 i0 (pv 4) (j2 o9 (j3 (j0 K) (pv 0) i0 (fun _ _=>rfl)) (j3 (j0 K) (pv 0) i0 (fun _ _=>rfl))))) (i5 (i9 z5)) j1)))))
  (i5 (i9 (Y4 (U1 W4 S2 i0 (pv 1) (j2 o9 (j3 (j0 K) (pv 0) i0 (fun _ _=>rfl)) (j3 (j0 K) (pv 0) i0 (fun _ _=>rfl)))))))))),?_⟩
   refine ⟨_,rfl,_,_,_,false,rfl,.int c,F4,false,rfl,z6 ?_⟩
   refine ⟨_,rfl,_,_,_,true,rfl,.int c,K1,true,rfl,z6 ?_⟩
   refine ⟨_,rfl,(by show 2 ≤ sizeLine; decide),fun tp htp=>?_⟩
   have s1:=i6 htp (.tup [.ty "list",.ty "tuple"])
   have etp:=i3 (H:=H) (a:=tp) (o:=.tup [.ty "list",.ty "tuple"])
   generalize upd H tp (.tup [.ty "list",.ty "tuple"]) = H1 at s1 etp ⊢
   have eK1:=s1 _ _ eK
   refine ⟨.ref e,tp,_,_,_,true,false,rfl,etp,.lst eK1,Z3,aq7,true,rfl,z6 ?_⟩
   refine ⟨_,rfl,e,_,rfl,.inl (SqL.of eK1),rfl,_,rfl,?_⟩
   refine A7 (fun z=>?_) (fun z=>?_)
   ·have z':xs = []:=by
     have:=V.int.inj (of_decide_eq_true z)
     exact List.eq_nil_of_length_eq_zero (by lia)
    have q':=q _ s1
    rw [z',show B3 h (some []) = false from rfl,Bool.and_false] at q'
    exact q'
   have ne:xs ≠ []:=fun y=>z (decide_eq_true (by rw [y]; rfl))
   refine ⟨_,rfl,e,_,rfl,.inl (SqL.of eK1),_,rfl,by show -(2 ^ 62) ≤ ((xs.length:Nat):Int); lia,by show ((xs.length:Nat):Int) < 2 ^ 62; lia,?_⟩
   refine A4 (fun i σ H'=>j5 H H' ∧ (∃ ns,GoodTo h xs i ns) ∧ ∃ v3 v4,σ = [some (.ref a),some (.int c),some (.ref e),v3,v4])
    ⟨s1,⟨[],rfl,List.nodup_nil,fun e z=>nomatch z⟩,none,none,rfl⟩ ?_ ?_
   ·rintro i σ H' hi ⟨s2,⟨ns,g⟩,v3,v4,rfl⟩
    rw [Int.zero_add]
    have hi':i < xs.length:=by lia
    have ex:xs[i]? = some (xs[i]'hi'):=List.getElem?_eq_getElem hi'
    have pX:=hp _ (List.getElem_mem hi')
    generalize xs[i]'hi' = xv at ex pX
    have eK2:=s2 _ _ eK
    have q0:∀ H',j5 H H' → B3 h (some xs) = false → Q (.bl true) H':=fun H' s z=>by
     have q':=q H' s
     rw [z,Bool.and_false] at q'
     exact q'
    refine ⟨_,rfl,_,rfl,e,_,_,_,rfl,rfl,SqL.of eK2,z8 ex,?_⟩
    cases pX with
    | @odd _ t b1 b2 ni ty k1 k2 hb =>
     have ty2:=TyOf.same s2 ty
     have bad:=q0 H' s2 (GoodTo.bad ex (aC9 ni))
     refine ⟨_,rfl,_,_,_,b2,rfl,ty2,k2,b2,rfl,?_⟩
     cases b2 with
     | true=>exact C3 bad
     | false =>
      have:b1 = false:=hb.elim id fun z=>nomatch z
      subst this
      exact z6 ⟨_,rfl,_,_,_,false,rfl,ty2,k1,false,rfl,C3 bad⟩
    | int en =>
     refine ⟨_,rfl,_,_,_,false,rfl,.int en,F4,false,rfl,z6 ?_⟩
     refine ⟨_,rfl,_,_,_,true,rfl,.int en,K1,true,rfl,z6 ?_⟩
     have last:∀ (cp:Addr) (H3:Hp),j5 H' H3 → (SqL K H3 cp (ns.map V.int) ∨ SqT K H3 cp (ns.map V.int)) → True:=fun _ _ _ _=>True.intro
     refine ⟨_,rfl,_,rfl,_,rfl,_,rfl,e,_,rfl,SqL.of eK2,fun cp hcp=>?_⟩
     have s3:=i6 hcp (.lst (S4 xs none (some (i:Int))))
     have ecp:upd H' cp (.lst (S4 xs none (some (i:Int)))) cp = some (.lst (ns.map V.int)):=by rw [i3,aE0,g.at_]
     generalize upd H' cp (.lst (S4 xs none (some (i:Int)))) = H3 at s3 ecp ⊢
     refine ⟨cp,_,rfl,.inl (SqL.of ecp),rfl,O1 ns,_,rfl,?_⟩
     have s23:=s2.trans s3
     rw [Y2]
     refine A7 (fun z=>?_) (fun z=>?_)
     ·exact q0 _ s23 (g.twice ex (by simpa using z))
     ·have no:¬ en ∈ ns:=by simpa using z
      refine ⟨_,rfl,_,_,rfl,rfl,_,rfl,?_⟩
      have o1:=ok.o
      have hH2:=j5.seqT s23 hH
      refine A7 (fun c1=>?_) (fun c1=>?_)
      ·have c1':(0:Int) ≤ en:=of_decide_eq_true c1
       refine ⟨_,rfl,a,_,_,_,rfl,rfl,hH2,rfl,_,rfl,a,_,_,_,rfl,rfl,hH2,rfl,_,_,rfl,rfl,.inl ⟨by lia,by lia⟩,_,_,rfl,rfl,_,rfl,?_⟩
       refine aj5 (fun c2=>?_) (fun c2=>?_)
       ·exact ⟨s23,⟨_,g.snoc ex no ⟨c1',of_decide_eq_true c2⟩⟩,_,_,rfl⟩
       ·refine q0 _ s23 (GoodTo.bad ex ?_)
        show (decide (0 ≤ en) && decide (en ≤ h.o * h.e - 1)) = false
        have:¬ en < h.o * h.e:=fun y=>c2 (decide_eq_true y)
        rw [decide_eq_false (by lia:¬ en ≤ h.o * h.e - 1),Bool.and_false]
      ·have c1':¬ (0:Int) ≤ en:=fun y=>c1 (decide_eq_true y)
       refine ⟨_,rfl,C3 (q0 _ s23 (GoodTo.bad ex ?_))⟩
       show (decide (0 ≤ en) && decide (en ≤ h.o * h.e - 1)) = false
       rw [decide_eq_false c1',Bool.false_and]
   ·rintro σ H' ⟨s2,⟨ns,g⟩,v3,v4,rfl⟩
    have g':GoodTo h xs xs.length ns:=g
    have q':=q H' s2
    rw [g'.done ne,Bool.and_true] at q'
    have i1:=ok.i
    have hH2:=j5.seqT s2 hH
    refine ⟨_,rfl,_,_,rfl,rfl,_,rfl,?_⟩
    refine A7 (fun c1=>?_) (fun c1=>?_)
    ·have c1':(0:Int) ≤ c:=of_decide_eq_true c1
     refine ⟨_,rfl,a,_,_,_,rfl,rfl,hH2,rfl,_,rfl,a,_,_,_,rfl,rfl,hH2,rfl,_,_,rfl,rfl,.inl ⟨by lia,by lia⟩,_,_,rfl,rfl,_,rfl,?_⟩
     rw [show n4 (.int c) 0 (h.i * h.c - 1) = decide (c < h.i * h.c) by
      show (decide (0 ≤ c) && decide (c ≤ h.i * h.c - 1)) = decide (c < h.i * h.c)
      rw [decide_eq_true c1',Bool.true_and]
      exact decide_eq_decide.mpr (by lia)] at q'
     exact q'
    ·have c1':¬ (0:Int) ≤ c:=fun y=>c1 (decide_eq_true y)
     rw [show n4 (.int c) 0 (h.i * h.c - 1) = false by
      show (decide (0 ≤ c) && decide (c ≤ h.i * h.c - 1)) = false
      rw [decide_eq_false c1',Bool.false_and]] at q'
     exact ⟨_,rfl,q'⟩
  | @tup e xs eK hp hn =>
   refine ⟨_,(i4 (m8 (PW.pt (E7 (m9 K (i8 (j6 K) rfl T.m_isinstance boot_isinstance (b8 (pv 1) (b8 (n6 (v:=.ty "bool") rfl T.m_bool boot_bool rfl) d9 b9) b9)) (fun _=>rfl)) (D6 (y0 (m9 K (i8 (j6 K) rfl T.m_isinstance boot_isinstance (b8 (pv 1) (b8 (n6 (v:=.ty "int") rfl T.m_int boot_int rfl) d9 b9) b9)) (fun _=>rfl)))))) (i5 (i9 z5)) j1)
  (i4 (m8 (PW.pt (E7 (y0 (m9 K (i8 (F1 K) rfl T.m_isinstance boot_isinstance (b8 (pv 2) (b8 (C7 (b8 (n6 (v:=.ty "list") rfl T.m_list boot_list rfl) (b8 (n6 (v:=.ty "tuple") rfl T.m_tuple boot_tuple rfl) d9 b9) b9)) d9 O4) b9)) (fun _=>rfl))) (D6 (j8 C4 (i8 (o7 K) rfl T.m_len boot_len (b8 (pv 2) d9 b9)) i0 (m7 _))))) (i5 (i9 z5)) j1)
  (i4 (A3 PassesOwn.never rfl (z9 rfl T.m_range (b8 (i8 (o7 K) rfl T.m_len boot_len (b8 (pv 2) d9 b9)) d9 r9)) (o5 (i:=3) A8.nd rfl (Or.inl rfl))
  (i4 (j7 (i:=4) A8.nd rfl (Or.inl rfl) (j3 (j0 K) (pv 2) (pv 3) (fun _ _=>rfl)))
  (i4 (m8 (PW.pt (E7 (m9 K (i8 (j6 K) rfl T.m_isinstance boot_isinstance (b8 (pv 4) (b8 (n6 (v:=.ty "bool") rfl T.m_bool boot_bool rfl) d9 b9) b9)) (fun _=>rfl)) (E7 (y0 (m9 K (i8 (j6 K) rfl T.m_isinstance boot_isinstance (b8 (pv 4) (b8 (n6 (v:=.ty "int") rfl T.m_int boot_int rfl) d9 b9) b9)) (fun _=>rfl))) (D6 (j8 (Y3 K) (pv 4) (M2 a04 (pv 2) Q6 (N6 (pv 3))) (by with_unfolding_all rfl)))))) (i5 (i9 z5)) j1)
  (i5 (m8 (y0 (Z8 W4 S2 i0 (pv 4) (j2 o9 (j3 (j0 K) (pv 0) i0 (fun _ _=>rfl)) (j3 (j0 K) (pv 0) i0 (fun _ _=>rfl))))) (i5 (i9 z5)) j1)))))
  (i5 (i9 (Y4 (U1 W4 S2 i0 (pv 1) (j2 o9 (j3 (j0 K) (pv 0) i0 (fun _ _=>rfl)) (j3 (j0 K) (pv 0) i0 (fun _ _=>rfl)))))))))),?_⟩
   refine ⟨_,rfl,_,_,_,false,rfl,.int c,F4,false,rfl,z6 ?_⟩
   refine ⟨_,rfl,_,_,_,true,rfl,.int c,K1,true,rfl,z6 ?_⟩
   refine ⟨_,rfl,(by show 2 ≤ sizeLine; decide),fun tp htp=>?_⟩
   have s1:=i6 htp (.tup [.ty "list",.ty "tuple"])
   have etp:=i3 (H:=H) (a:=tp) (o:=.tup [.ty "list",.ty "tuple"])
   generalize upd H tp (.tup [.ty "list",.ty "tuple"]) = H1 at s1 etp ⊢
   have eK1:=s1 _ _ eK
   refine ⟨.ref e,tp,_,_,_,false,true,rfl,etp,.tup eK1,aa2,aq9,true,rfl,z6 ?_⟩
   refine ⟨_,rfl,e,_,rfl,.inr (SqT.of eK1),rfl,_,rfl,?_⟩
   refine A7 (fun z=>?_) (fun z=>?_)
   ·have z':xs = []:=by
     have:=V.int.inj (of_decide_eq_true z)
     exact List.eq_nil_of_length_eq_zero (by lia)
    have q':=q _ s1
    rw [z',show B3 h (some []) = false from rfl,Bool.and_false] at q'
    exact q'
   have ne:xs ≠ []:=fun y=>z (decide_eq_true (by rw [y]; rfl))
   refine ⟨_,rfl,e,_,rfl,.inr (SqT.of eK1),_,rfl,by show -(2 ^ 62) ≤ ((xs.length:Nat):Int); lia,by show ((xs.length:Nat):Int) < 2 ^ 62; lia,?_⟩
   refine A4 (fun i σ H'=>j5 H H' ∧ (∃ ns,GoodTo h xs i ns) ∧ ∃ v3 v4,σ = [some (.ref a),some (.int c),some (.ref e),v3,v4])
    ⟨s1,⟨[],rfl,List.nodup_nil,fun e z=>nomatch z⟩,none,none,rfl⟩ ?_ ?_
   ·rintro i σ H' hi ⟨s2,⟨ns,g⟩,v3,v4,rfl⟩
    rw [Int.zero_add]
    have hi':i < xs.length:=by lia
    have ex:xs[i]? = some (xs[i]'hi'):=List.getElem?_eq_getElem hi'
    have pX:=hp _ (List.getElem_mem hi')
    generalize xs[i]'hi' = xv at ex pX
    have eK2:=s2 _ _ eK
    have q0:∀ H',j5 H H' → B3 h (some xs) = false → Q (.bl true) H':=fun H' s z=>by
     have q':=q H' s
     rw [z,Bool.and_false] at q'
     exact q'
    refine ⟨_,rfl,_,rfl,e,_,_,_,rfl,rfl,SqT.of eK2,z8 ex,?_⟩
    cases pX with
    | @odd _ t b1 b2 ni ty k1 k2 hb =>
     have ty2:=TyOf.same s2 ty
     have bad:=q0 H' s2 (GoodTo.bad ex (aC9 ni))
     refine ⟨_,rfl,_,_,_,b2,rfl,ty2,k2,b2,rfl,?_⟩
     cases b2 with
     | true=>exact C3 bad
     | false =>
      have:b1 = false:=hb.elim id fun z=>nomatch z
      subst this
      exact z6 ⟨_,rfl,_,_,_,false,rfl,ty2,k1,false,rfl,C3 bad⟩
    | int en =>
     refine ⟨_,rfl,_,_,_,false,rfl,.int en,F4,false,rfl,z6 ?_⟩
     refine ⟨_,rfl,_,_,_,true,rfl,.int en,K1,true,rfl,z6 ?_⟩
     have last:∀ (cp:Addr) (H3:Hp),j5 H' H3 → (SqL K H3 cp (ns.map V.int) ∨ SqT K H3 cp (ns.map V.int)) → True:=fun _ _ _ _=>True.intro
     refine ⟨_,rfl,_,rfl,_,rfl,_,rfl,e,_,rfl,eK2,fun cp H3 s3 ecp=>?_⟩
     rw [aE0,g.at_] at ecp
     refine ⟨cp,_,rfl,.inr (SqT.of ecp),rfl,O1 ns,_,rfl,?_⟩
     have s23:=s2.trans s3
     rw [Y2]
     refine A7 (fun z=>?_) (fun z=>?_)
     ·exact q0 _ s23 (g.twice ex (by simpa using z))
     ·have no:¬ en ∈ ns:=by simpa using z
      refine ⟨_,rfl,_,_,rfl,rfl,_,rfl,?_⟩
      have o1:=ok.o
      have hH2:=j5.seqT s23 hH
      refine A7 (fun c1=>?_) (fun c1=>?_)
      ·have c1':(0:Int) ≤ en:=of_decide_eq_true c1
       refine ⟨_,rfl,a,_,_,_,rfl,rfl,hH2,rfl,_,rfl,a,_,_,_,rfl,rfl,hH2,rfl,_,_,rfl,rfl,.inl ⟨by lia,by lia⟩,_,_,rfl,rfl,_,rfl,?_⟩
       refine aj5 (fun c2=>?_) (fun c2=>?_)
       ·exact ⟨s23,⟨_,g.snoc ex no ⟨c1',of_decide_eq_true c2⟩⟩,_,_,rfl⟩
       ·refine q0 _ s23 (GoodTo.bad ex ?_)
        show (decide (0 ≤ en) && decide (en ≤ h.o * h.e - 1)) = false
        have:¬ en < h.o * h.e:=fun y=>c2 (decide_eq_true y)
        rw [decide_eq_false (by lia:¬ en ≤ h.o * h.e - 1),Bool.and_false]
      ·have c1':¬ (0:Int) ≤ en:=fun y=>c1 (decide_eq_true y)
       refine ⟨_,rfl,C3 (q0 _ s23 (GoodTo.bad ex ?_))⟩
       show (decide (0 ≤ en) && decide (en ≤ h.o * h.e - 1)) = false
       rw [decide_eq_false c1',Bool.false_and]
   ·rintro σ H' ⟨s2,⟨ns,g⟩,v3,v4,rfl⟩
    have g':GoodTo h xs xs.length ns:=g
    have q':=q H' s2
    rw [g'.done ne,Bool.and_true] at q'
    have i1:=ok.i
    have hH2:=j5.seqT s2 hH
    refine ⟨_,rfl,_,_,rfl,rfl,_,rfl,?_⟩
    refine A7 (fun c1=>?_) (fun c1=>?_)
    ·have c1':(0:Int) ≤ c:=of_decide_eq_true c1
     refine ⟨_,rfl,a,_,_,_,rfl,rfl,hH2,rfl,_,rfl,a,_,_,_,rfl,rfl,hH2,rfl,_,_,rfl,rfl,.inl ⟨by lia,by lia⟩,_,_,rfl,rfl,_,rfl,?_⟩
     rw [show n4 (.int c) 0 (h.i * h.c - 1) = decide (c < h.i * h.c) by
      show (decide (0 ≤ c) && decide (c ≤ h.i * h.c - 1)) = decide (c < h.i * h.c)
      rw [decide_eq_true c1',Bool.true_and]
      exact decide_eq_decide.mpr (by lia)] at q'
     exact q'
    ·have c1':¬ (0:Int) ≤ c:=fun y=>c1 (decide_eq_true y)
     rw [show n4 (.int c) 0 (h.i * h.c - 1) = false by
      show (decide (0 ≤ c) && decide (c ≤ h.i * h.c - 1)) = false
      rw [decide_eq_false c1',Bool.false_and]] at q'
     exact ⟨_,rfl,q'⟩
end
theorem aI0 {K:PySem.W.Frag} {H:Hp} (b:Bool):PartIs K H (.bl b):=.odd (fun _ z=>nomatch z) (.bl b) au0 al1 (.inr rfl)
theorem aB7 {K:PySem.W.Frag} {H:Hp}:PartIs K H .non:=.odd (fun _ z=>nomatch z) .non av4 au3 (.inl rfl)
theorem ay6 {K:PySem.W.Frag} {H:Hp} (x:Str):PartIs K H (.str x):=.odd (fun _ z=>nomatch z) (.str x) ax2 ap7 (.inl rfl)
theorem aA9 {K:PySem.W.Frag} {H:Hp} {a:Addr} {xs:List V} (e:H a = some (.lst xs)):PartIs K H (.ref a):=.odd (fun _ z=>nomatch z) (.lst e) S9 ar2 (.inl rfl)
def al3 (K:PySem.W.Frag):Sp:=fun vs H Q _=>∃ (a l:Addr) (h:Hall) (as:List Addr) (ks:List Call) (n:Int),vs = [.ref a,.ref l,.int n] ∧ SqT K H a (h.row.map V.int) ∧ h.Ok ∧ SqL K H l (as.map V.ref) ∧ m4 H as ks ∧ ∀ (v:V) (H':Hp),j5 H H' → PartIs K H' v → Q v H'
section
variable {P:Program} {w:World} {K:PySem.W.Frag} {mg:Str → Option Value} {base:Heap} {C_Rule C_Round C_HallError C_NoHall C_NoCalls C_NoLine C_NoRule C_Idle C_Busy C_Engaged C_NoMove:Addr}
theorem aW4 {as:List Addr} {n:Int} (hp:as ≠ []):∃ (j:Nat) (p:Addr),as[j]? = some p ∧ atI (as.map V.ref) (n % (((as.map V.ref).length:Nat):Int)) = some (.ref p):=by
 have hpos:0 < as.length:=List.length_pos_iff.mpr hp
 have ln:(as.map V.ref).length = as.length:=List.length_map _
 obtain ⟨ie,hie⟩:∃ ie:Nat,n % (((as.map V.ref).length:Nat):Int) = (ie:Int):=⟨_,(Int.toNat_of_nonneg (Int.emod_nonneg _ (by lia))).symm⟩
 have hie2:ie < as.length:=by
  have:=Int.emod_lt_of_pos n (show (0:Int) < (((as.map V.ref).length:Nat):Int) by lia)
  lia
 refine ⟨ie,as[ie]'hie2,List.getElem?_eq_getElem hie2,?_⟩
 rw [hie]
 exact z8 (by rw [List.getElem?_map,List.getElem?_eq_getElem hie2]; rfl)
theorem O3:FnScope ["_law_hall_here","_law_calls_here","_law_number_here","_law_many","_law_way"] ["_law_hall_here","_law_calls_here","_law_number_here"] (i7 (top 51)):=⟨rfl,rfl,rfl,by decide +kernel,rfl,by decide +kernel,by decide +kernel⟩
theorem aD9 (T:Txt K mg) (D:Def K mg "_law_caller" (top 51) ["_law_hall_here","_law_calls_here","_law_number_here"]):Callee P w K mg base 1 "_law_caller" ["_law_hall_here","_law_calls_here","_law_number_here"] (al3 K):=by
 refine D.ok O3 (fun vs H Q E h=>?_) (fun f cdv A outer s H vs Q E hr h=>?_)
 ·obtain ⟨a,l,h,as,ks,n,rfl,_⟩:=h
  rfl
 obtain ⟨a,l,h,as,ks,n,rfl,hH,ok,hl,hC,q⟩:=h
 have b1:=aG3 ok.i ok.c
 have b2:=ok.i
 refine ⟨_,(i4 (j7 (i:=3) O3.nd rfl (Or.inl rfl) (j2 o9 (j3 (j0 K) (pv 0) i0 (fun _ _=>rfl)) (j3 (j0 K) (pv 0) i0 (fun _ _=>rfl))))
  (i4 (j7 (i:=4) O3.nd rfl (Or.inl rfl) (j2 u6 (j2 u6 (j2 o9 (pv 2) i0) i0) i0))
  (i4 (m8 (j8 C4 (pv 4) i0 (m7 _)) (i5 (i9 (j3 (n9 K) (q9 (b8 (ao7 ab1 i0) (b8 (pv 3) (b8 z5 (b8 y6 (b8 O6 (b8 (q9 (b8 i0 d9 m6)) d9 K4) m6) m6) m6) b9) ax8)) (j2 u6 (j2 u6 (j2 o9 (pv 2) i0) i0) i0) (fun _ _=>rfl)))) j1)
  (i4 (m8 (PW.pt (as9 (j8 S2 (pv 4) i0 (m7 _)) (af0 (j8 (al5 K (Room.units0 hr)) (pv 1) (q9 d9) (m7 _))))) (i5 (i9 (j3 (j0 K) (j3 (n9 K) (pv 1) (j2 u6 (j2 u6 (j2 o9 (pv 2) i0) i0) (i8 (o7 K) rfl T.m_len boot_len (b8 (pv 1) d9 b9))) (fun _ _=>rfl)) i0 (fun _ _=>rfl)))) j1)
  (i5 (i9 (j2 u6 (j2 u6 (j2 o9 (pv 2) i0) i0) (pv 3)))))))),?_⟩
 refine ⟨_,rfl,a,_,_,_,rfl,rfl,hH,rfl,_,rfl,a,_,_,_,rfl,rfl,hH,rfl,_,_,rfl,rfl,.inl ⟨by lia,by lia⟩,?_⟩
 refine ⟨_,rfl,_,_,rfl,rfl,.inr ⟨by decide,by decide⟩,_,_,rfl,rfl,(by show (0:Int) < 999953; decide),_,_,rfl,rfl,(by show (0:Int) < 8; decide),?_⟩
 refine ⟨_,rfl,rfl,_,rfl,?_⟩
 refine A7 (fun _=>?_) (fun _=>?_)
 ·refine ⟨_,rfl,_,rfl,(by show 1 ≤ sizeLine; decide),fun l6 hl6=>?_⟩
  have el6:=i3 (H:=H) (a:=l6) (o:=.lst [.int 0])
  have s6:=i6 hl6 (.lst [.int 0])
  generalize upd H l6 (.lst [.int 0]) = H6 at el6 s6 ⊢
  refine ⟨(by show 6 ≤ sizeLine; decide),fun ld hld=>?_⟩
  have eld:=i3 (H:=H6) (a:=ld) (o:=.lst [.int (-1),.int (h.i * h.c),.bl true,.non,.str "0",.ref l6])
  have s7':=i6 hld (.lst [.int (-1),.int (h.i * h.c),.bl true,.non,.str "0",.ref l6])
  have s7:=s6.trans s7'
  have el7:=s7' _ _ el6
  generalize upd H6 ld (.lst [.int (-1),.int (h.i * h.c),.bl true,.non,.str "0",.ref l6]) = H7 at eld s7 el7 ⊢
  obtain ⟨j,hj,hj6⟩:∃ j:Nat,n * 16807 % 999907 % 6 = (j:Int) ∧ j < 6:=⟨(n * 16807 % 999907 % 6).toNat,by lia,by lia⟩
  obtain ⟨odd,ho1,ho2⟩:∃ odd:V,atI [.int (-1),.int (h.i * h.c),.bl true,.non,.str "0",.ref l6] (n * 16807 % 999907 % 6) = some odd ∧ PartIs K H7 odd:=by
   rw [hj]
   match j,hj6 with
   | 0,_=>exact ⟨_,rfl,.int _⟩
   | 1,_=>exact ⟨_,rfl,.int _⟩
   | 2,_=>exact ⟨_,rfl,aI0 _⟩
   | 3,_=>exact ⟨_,rfl,aB7⟩
   | 4,_=>exact ⟨_,rfl,ay6 _⟩
   | 5,_=>exact ⟨_,rfl,aA9 el7⟩
  exact ⟨_,rfl,_,_,rfl,rfl,.inr ⟨by decide,by decide⟩,_,_,rfl,rfl,(by show (0:Int) < 999907; decide),_,_,rfl,rfl,(by show (0:Int) < 6; decide),ld,_,_,_,rfl,rfl,SqL.of eld,ho1,q odd H7 s7 ho2⟩
 ·have fin:∀ {G:Hp},j5 H G → Q (.int (n * 62089911 % 999931 % (h.i * h.c))) G:=fun s=>q _ _ s (.int _)
  refine ⟨_,rfl,_,_,rfl,rfl,_,rfl,?_⟩
  refine A7 (fun _=>?_) (fun _=>?_)
  ·refine ⟨_,rfl,(by show 0 ≤ sizeLine; decide),fun nl hnl=>?_⟩
   have s3:=i6 hnl (.lst [])
   have enl:=i3 (H:=H) (a:=nl) (o:=.lst [])
   generalize upd H nl (.lst []) = H3 at s3 enl ⊢
   refine ⟨l,nl,_,rfl,rfl,s3.seq hl,SqL.of enl,_,rfl,?_⟩
   refine aj5 (fun c2=>?_) (fun c2=>?_)
   ·exact ⟨_,rfl,_,_,rfl,rfl,.inr ⟨by decide,by decide⟩,_,_,rfl,rfl,(by show (0:Int) < 999931; decide),_,rfl,_,_,rfl,rfl,(by show (0:Int) < h.i * h.c; lia),fin s3⟩
   ·have ne:as ≠ []:=fun z=>c2 (decide_eq_true (by rw [z]; rfl))
    have pos:0 < as.length:=List.length_pos_iff.mpr ne
    obtain ⟨j,p,hj,hat⟩:=aW4 (n:=n * 742938285 % 999959) ne
    obtain ⟨k,hk,ce,e1,e2⟩:=m3 hC j p hj
    exact ⟨_,rfl,_,rfl,_,_,rfl,rfl,.inr ⟨by decide,by decide⟩,_,_,rfl,rfl,(by show (0:Int) < 999959; decide),_,rfl,l,_,rfl,.inl (s3.seq hl),_,_,rfl,rfl,(by show (0:Int) < (((as.map V.ref).length:Nat):Int); rw [List.length_map]; lia),l,_,_,_,rfl,rfl,s3.seq hl,hat,p,_,_,_,rfl,rfl,SqT.of (s3 _ _ e2),rfl,q _ _ s3 (.int _)⟩
  ·exact ⟨_,rfl,_,_,rfl,rfl,.inr ⟨by decide,by decide⟩,_,_,rfl,rfl,(by show (0:Int) < 999931; decide),_,rfl,_,_,rfl,rfl,(by show (0:Int) < h.i * h.c; lia),fin fun b u z=>z⟩
end
def aA5 (K:PySem.W.Frag):Sp:=fun vs H Q _=>∃ (a l:Addr) (h:Hall) (as:List Addr) (ks:List Call) (n:Int),vs = [.ref a,.ref l,.int n] ∧ SqT K H a (h.row.map V.int) ∧ h.Ok ∧ SqL K H l (as.map V.ref) ∧ m4 H as ks ∧ (∀ k ∈ ks,k.In h) ∧ ∀ (v:V) (o:Option (List V)) (H':Hp),j5 H H' → EndTh K H' v o → (∀ xs,o = some xs → xs.length ≤ 13) → ba7 v o → Q v H'
theorem as7 {K:PySem.W.Frag}:PySem.W.kitOne K (.type "NoneType") (.type "list") = some false:=A6 (by decide +kernel)
theorem au4 {K:PySem.W.Frag}:PySem.W.kitOne K (.type "NoneType") (.type "tuple") = some false:=A6 (by decide +kernel)
theorem at5 {K:PySem.W.Frag}:PySem.W.kitOne K (.type "str") (.type "list") = some false:=A6 (by decide +kernel)
theorem ap5 {K:PySem.W.Frag}:PySem.W.kitOne K (.type "str") (.type "tuple") = some false:=A6 (by decide +kernel)
theorem D5 {K:PySem.W.Frag} {H:Hp} (es:List Int):∀ x ∈ es.map V.int,PartIs K H x:=fun x hx=>by
 obtain ⟨i,_,rfl⟩:=List.mem_map.mp hx
 exact .int i
section
variable {P:Program} {w:World} {K:PySem.W.Frag} {mg:Str → Option Value} {base:Heap} {C_Rule C_Round C_HallError C_NoHall C_NoCalls C_NoLine C_NoRule C_Idle C_Busy C_Engaged C_NoMove:Addr}
theorem y8:FnScope ["_law_hall_here","_law_calls_here","_law_number_here","_law_ends_here","_law_many","_law_way","_law_odd","_law_some","_law_end","_law_at"] ["_law_hall_here","_law_calls_here","_law_number_here"] (i7 (top 52)):=⟨rfl,rfl,rfl,by decide +kernel,rfl,by decide +kernel,by decide +kernel⟩
set_option maxHeartbeats 4000000 in
theorem aP7 (T:Txt K mg) (C__law_ends:Callee P w K mg base 1 "_law_ends" ["_law_hall_here","_law_number_here"] (aH5 K)) (D:Def K mg "_law_wanted" (top 52) ["_law_hall_here","_law_calls_here","_law_number_here"]):Callee P w K mg base 2 "_law_wanted" ["_law_hall_here","_law_calls_here","_law_number_here"] (aA5 K):=by
 refine D.ok y8 (fun vs H Q E h=>?_) (fun f cdv A outer s H vs Q E hr h=>?_)
 ·obtain ⟨a,l,h,as,ks,n,rfl,_⟩:=h
  rfl
 obtain ⟨a,l,h,as,ks,n,rfl,hH,ok,hl,hC,hin,q⟩:=h
 have b2:=ok.o
 refine ⟨_,(i4 (j7 (i:=3) y8.nd rfl (Or.inl rfl) (r6 C__law_ends hr rfl (b8 (pv 0) (b8 (j2 K2 (j2 o9 (pv 2) i0) i0) d9 O9) b9)))
  (i4 (j7 (i:=4) y8.nd rfl (Or.inl rfl) (j2 o9 (j3 (j0 K) (pv 0) i0 (fun _ _=>rfl)) (j3 (j0 K) (pv 0) i0 (fun _ _=>rfl))))
  (i4 (j7 (i:=5) y8.nd rfl (Or.inl rfl) (j2 u6 (j2 u6 (j2 o9 (pv 2) i0) i0) i0))
  (i4 (m8 (j8 C4 (pv 5) i0 (m7 _)) (i4 (j7 (i:=6) y8.nd rfl (Or.inl rfl) (q9 (b8 (q9 d9) (b8 (C7 d9) (b8 (q9 (b8 (pv 4) d9 b9)) (b8 (q9 (b8 (ao7 ab1 i0) d9 ax8)) (b8 (q9 (b8 (j3 (n9 K) (pv 3) i0 (fun _ _=>rfl)) (b8 (j3 (n9 K) (pv 3) i0 (fun _ _=>rfl)) d9 x6) x6)) (b8 (q9 (b8 z5 d9 m6)) (b8 y6 (b8 O6 d9 m6) m6) K4) K4) K4) K4) O4) K4)))
  (i4 (j7 (i:=6) y8.nd rfl (Or.inl rfl) (j2 O8 (pv 6) (q9 (b8 (q9 (b8 (j3 (n9 K) (pv 3) i0 (fun _ _=>rfl)) (b8 y6 d9 m6) x6)) (b8 (q9 (b8 (q9 (b8 (j3 (n9 K) (pv 3) i0 (fun _ _=>rfl)) d9 x6)) d9 K4)) (b8 (q9 (b8 (j3 (n9 K) (pv 3) i0 (fun _ _=>rfl)) (b8 O6 d9 m6) x6)) d9 K4) K4) K4))))
  (i5 (i9 (j3 (n9 K) (pv 6) (j2 u6 (j2 u6 (j2 o9 (pv 2) i0) i0) i0) (fun _ _=>rfl)))))) j1)
  (i4 (m8 (PW.pt (as9 (j8 S2 (pv 5) i0 (m7 _)) (af0 (j8 (al5 K (Room.units0 hr)) (pv 1) (q9 d9) (m7 _))))) (i4 (j7 (i:=7) y8.nd rfl (Or.inl rfl) (j3 (j0 K) (j3 (n9 K) (pv 1) (j2 u6 (j2 u6 (j2 o9 (pv 2) i0) i0) (i8 (o7 K) rfl T.m_len boot_len (b8 (pv 1) d9 b9))) (fun _ _=>rfl)) i0 (fun _ _=>rfl)))
  (i4 (j7 (i:=8) y8.nd rfl (Or.inl rfl) (j3 (j0 K) (pv 7) (j2 u6 (pv 2) (i8 (o7 K) rfl T.m_len boot_len (b8 (pv 7) d9 b9))) (fun _ _=>rfl)))
  (i4 (j7 (i:=9) y8.nd rfl (Or.inl rfl) (j2 u6 (j2 u6 (j2 o9 (pv 2) i0) i0) (j2 K2 (i8 (o7 K) rfl T.m_len boot_len (b8 (pv 3) d9 b9)) i0)))
  (i5 (m8 (j8 (al6 K) (pv 8) (pv 3) (by with_unfolding_all rfl)) (i5 (j7 (i:=3) y8.nd rfl (Or.inl rfl) (j2 O8 (j2 O8 (M2 (O0 K) (pv 3) Q6 (N6 (pv 9))) (q9 (b8 (pv 8) d9 b9))) (M2 (O0 K) (pv 3) (N6 (pv 9)) Q6)))) j1))))) j1)
  (i4 (m8 (j8 C4 (j2 u6 (pv 2) i0) i0 (m7 _)) (i5 (i9 (B1 (M1 K) rfl T.m_tuple boot_tuple (b8 (pv 3) d9 b9)))) j1)
  (i5 (i9 (pv 3))))))))),?_⟩
 refine ⟨_,rfl,_,rfl,_,_,rfl,rfl,.inr ⟨by decide,by decide⟩,_,_,rfl,rfl,a,h,_,rfl,hH,ok,fun el es H1 s1 hel0 eel eo=>?_⟩
 have few:=eo.few
 have hpos:0 < es.length:=List.length_pos_iff.mpr eo.some
 have ln:(es.map V.int).length = es.length:=List.length_map _
 have hH1:=j5.seqT s1 hH
 refine ⟨_,rfl,a,_,_,_,rfl,rfl,hH1,rfl,_,rfl,a,_,_,_,rfl,rfl,hH1,rfl,_,_,rfl,rfl,.inl ⟨by lia,by lia⟩,?_⟩
 refine ⟨_,rfl,_,_,rfl,rfl,.inr ⟨by decide,by decide⟩,_,_,rfl,rfl,(by show (0:Int) < 999917; decide),_,_,rfl,rfl,(by show (0:Int) < 8; decide),?_⟩
 refine ⟨_,rfl,rfl,_,rfl,?_⟩
 refine A7 (fun _=>?_) (fun _=>?_)
 ·have at0:atI (es.map V.int) 0 = some (.int (es[0]'hpos)):=z8 (j:=0) (by rw [List.getElem?_map,List.getElem?_eq_getElem hpos]; rfl)
  generalize es[0]'hpos = e0 at at0
  refine ⟨(by show 0 ≤ sizeLine; decide),fun p0 h0=>?_⟩
  have t0:=i6 h0 (.lst [])
  have g0:=i3 (H:=H1) (a:=p0) (o:=.lst [])
  generalize upd H1 p0 (.lst []) = G0 at t0 g0 ⊢
  refine ⟨(by show 0 ≤ sizeLine; decide),fun p1 h1=>?_⟩
  have t1:=i6 h1 (.tup [])
  have g1:=i3 (H:=G0) (a:=p1) (o:=.tup [])
  generalize upd G0 p1 (.tup []) = G1 at t1 g1 ⊢
  refine ⟨_,rfl,(by show 1 ≤ sizeLine; decide),fun p2 h2=>?_⟩
  have t2:=i6 h2 (.lst [.int (h.o * h.e)])
  have g2:=i3 (H:=G1) (a:=p2) (o:=.lst [.int (h.o * h.e)])
  generalize upd G1 p2 (.lst [.int (h.o * h.e)]) = G2 at t2 g2 ⊢
  refine ⟨_,rfl,(by show 1 ≤ sizeLine; decide),fun p3 h3=>?_⟩
  have t3:=i6 h3 (.lst [.int (-1)])
  have g3:=i3 (H:=G2) (a:=p3) (o:=.lst [.int (-1)])
  generalize upd G2 p3 (.lst [.int (-1)]) = G3 at t3 g3 ⊢
  have u3:=t0.trans (t1.trans (t2.trans t3))
  refine ⟨_,rfl,el,_,_,_,rfl,rfl,SqL.of (u3 _ _ eel),at0,_,rfl,el,_,_,_,rfl,rfl,SqL.of (u3 _ _ eel),at0,(by show 2 ≤ sizeLine; decide),fun p4 h4=>?_⟩
  have t4:=i6 h4 (.lst [.int e0,.int e0])
  have g4:=i3 (H:=G3) (a:=p4) (o:=.lst [.int e0,.int e0])
  generalize upd G3 p4 (.lst [.int e0,.int e0]) = G4 at t4 g4 ⊢
  refine ⟨(by show 1 ≤ sizeLine; decide),fun p5 h5=>?_⟩
  have t5:=i6 h5 (.lst [.bl true])
  have g5:=i3 (H:=G4) (a:=p5) (o:=.lst [.bl true])
  generalize upd G4 p5 (.lst [.bl true]) = G5 at t5 g5 ⊢
  refine ⟨(by show 8 ≤ sizeLine; decide),fun pA hA=>?_⟩
  have tA:=i6 hA (.lst [.ref p0,.ref p1,.ref p2,.ref p3,.ref p4,.ref p5,.non,.str "0"])
  have gA:=i3 (H:=G5) (a:=pA) (o:=.lst [.ref p0,.ref p1,.ref p2,.ref p3,.ref p4,.ref p5,.non,.str "0"])
  generalize upd G5 pA (.lst [.ref p0,.ref p1,.ref p2,.ref p3,.ref p4,.ref p5,.non,.str "0"]) = GA at tA gA ⊢
  have uA:=u3.trans (t4.trans (t5.trans tA))
  refine ⟨_,rfl,_,rfl,el,_,_,_,rfl,rfl,SqL.of (uA _ _ eel),at0,(by show 2 ≤ sizeLine; decide),fun p6 h6=>?_⟩
  have t6:=i6 h6 (.lst [.int e0,.non])
  have g6:=i3 (H:=GA) (a:=p6) (o:=.lst [.int e0,.non])
  generalize upd GA p6 (.lst [.int e0,.non]) = G6 at t6 g6 ⊢
  refine ⟨_,rfl,el,_,_,_,rfl,rfl,SqL.of (t6 _ _ (uA _ _ eel)),at0,(by show 1 ≤ sizeLine; decide),fun p7 h7=>?_⟩
  have t7:=i6 h7 (.lst [.int e0])
  have g7:=i3 (H:=G6) (a:=p7) (o:=.lst [.int e0])
  generalize upd G6 p7 (.lst [.int e0]) = G7 at t7 g7 ⊢
  refine ⟨(by show 1 ≤ sizeLine; decide),fun p8 h8=>?_⟩
  have t8:=i6 h8 (.lst [.ref p7])
  have g8:=i3 (H:=G7) (a:=p8) (o:=.lst [.ref p7])
  generalize upd G7 p8 (.lst [.ref p7]) = G8 at t8 g8 ⊢
  have u8:=t6.trans (t7.trans t8)
  refine ⟨_,rfl,el,_,_,_,rfl,rfl,SqL.of (u8 _ _ (uA _ _ eel)),at0,(by show 2 ≤ sizeLine; decide),fun p9 h9=>?_⟩
  have t9:=i6 h9 (.lst [.int e0,.str "0"])
  have g9:=i3 (H:=G8) (a:=p9) (o:=.lst [.int e0,.str "0"])
  generalize upd G8 p9 (.lst [.int e0,.str "0"]) = G9 at t9 g9 ⊢
  refine ⟨(by show 3 ≤ sizeLine; decide),fun pB hB=>?_⟩
  have tB:=i6 hB (.lst [.ref p6,.ref p8,.ref p9])
  have gB:=i3 (H:=G9) (a:=pB) (o:=.lst [.ref p6,.ref p8,.ref p9])
  generalize upd G9 pB (.lst [.ref p6,.ref p8,.ref p9]) = GB at tB gB ⊢
  have uB:=u8.trans (t9.trans tB)
  refine ⟨pA,pB,_,_,rfl,rfl,uB _ _ gA,gB,(by show 11 ≤ sizeLine; decide),fun pC hC'=>?_⟩
  have tC:=i6 hC' (.lst ([.ref p0,.ref p1,.ref p2,.ref p3,.ref p4,.ref p5,.non,.str "0"] ++ [.ref p6,.ref p8,.ref p9]))
  have gC:=i3 (H:=GB) (a:=pC) (o:=.lst ([.ref p0,.ref p1,.ref p2,.ref p3,.ref p4,.ref p5,.non,.str "0"] ++ [.ref p6,.ref p8,.ref p9]))
  generalize upd GB pC (.lst ([.ref p0,.ref p1,.ref p2,.ref p3,.ref p4,.ref p5,.non,.str "0"] ++ [.ref p6,.ref p8,.ref p9])) = GC at tC gC ⊢
  have v9:j5 G9 GC:=tB.trans tC
  have v8:j5 G8 GC:=t9.trans v9
  have v7:j5 G7 GC:=t8.trans v8
  have v6:j5 G6 GC:=t7.trans v7
  have vA:j5 GA GC:=t6.trans v6
  have v5:j5 G5 GC:=tA.trans vA
  have v4:j5 G4 GC:=t5.trans v5
  have v3:j5 G3 GC:=t4.trans v4
  have v2:j5 G2 GC:=t3.trans v3
  have v1:j5 G1 GC:=t2.trans v2
  have v0:j5 G0 GC:=t1.trans v1
  have vH:j5 H GC:=s1.trans (t0.trans v0)
  obtain ⟨j,hj,hj11⟩:∃ j:Nat,n * 48271 % 999883 % 11 = (j:Int) ∧ j < 11:=⟨(n * 48271 % 999883 % 11).toNat,by lia,by lia⟩
  have nil:∀ x ∈ ([]:List V),PartIs K GC x:=fun x hx=>nomatch hx
  have one:∀ {y:V},PartIs K GC y → ∀ x ∈ [y],PartIs K GC x:=fun py x hx=>by rw [List.mem_singleton.mp hx]; exact py
  have two:∀ {y z:V},PartIs K GC y → PartIs K GC z → ∀ x ∈ [y,z],PartIs K GC x:=fun py pz x hx=>by
   rcases List.mem_cons.mp hx with rfl | hx
   ·exact py
   ·rw [List.mem_singleton.mp hx]; exact pz
  obtain ⟨odd,o,ho1,ho2,ho3,ho4⟩:∃ (odd:V) (o:Option (List V)),atI ([.ref p0,.ref p1,.ref p2,.ref p3,.ref p4,.ref p5,.non,.str "0"] ++ [.ref p6,.ref p8,.ref p9]) (n * 48271 % 999883 % 11) = some odd ∧ EndTh K GC odd o ∧ (∀ xs,o = some xs → xs.length ≤ 13) ∧ ba7 odd o:=by
   rw [hj]
   match j,hj11 with
   | 0,_=>exact ⟨_,_,rfl,.lst (v0 _ _ g0) nil (by decide),(fun xs z=>by cases z; decide),⟨fun xs z=>by cases z; rfl,fun z=>nomatch z⟩⟩
   | 1,_=>exact ⟨_,_,rfl,.tup (v1 _ _ g1) nil (by decide),(fun xs z=>by cases z; decide),⟨fun xs z=>by cases z; rfl,fun z=>nomatch z⟩⟩
   | 2,_=>exact ⟨_,_,rfl,.lst (v2 _ _ g2) (one (.int _)) (by show 1 ≤ 64; decide),(fun xs z=>by cases z; show 1 ≤ 13; decide),⟨fun xs z=>by cases z; rfl,fun z=>nomatch z⟩⟩
   | 3,_=>exact ⟨_,_,rfl,.lst (v3 _ _ g3) (one (.int _)) (by show 1 ≤ 64; decide),(fun xs z=>by cases z; show 1 ≤ 13; decide),⟨fun xs z=>by cases z; rfl,fun z=>nomatch z⟩⟩
   | 4,_=>exact ⟨_,_,rfl,.lst (v4 _ _ g4) (two (.int _) (.int _)) (by show 2 ≤ 64; decide),(fun xs z=>by cases z; show 2 ≤ 13; decide),⟨fun xs z=>by cases z; rfl,fun z=>nomatch z⟩⟩
   | 5,_=>exact ⟨_,_,rfl,.lst (v5 _ _ g5) (one (aI0 _)) (by show 1 ≤ 64; decide),(fun xs z=>by cases z; show 1 ≤ 13; decide),⟨fun xs z=>by cases z; rfl,fun z=>nomatch z⟩⟩
   | 6,_=>exact ⟨_,none,rfl,.no .non as7 au4,(fun xs z=>nomatch z),⟨(fun xs z=>nomatch z),fun _=>.inl rfl⟩⟩
   | 7,_=>exact ⟨_,none,rfl,.no (.str _) at5 ap5,(fun xs z=>nomatch z),⟨(fun xs z=>nomatch z),fun _=>.inr ⟨_,rfl⟩⟩⟩
   | 8,_=>exact ⟨_,_,rfl,.lst (v6 _ _ g6) (two (.int _) aB7) (by show 2 ≤ 64; decide),(fun xs z=>by cases z; show 2 ≤ 13; decide),⟨fun xs z=>by cases z; rfl,fun z=>nomatch z⟩⟩
   | 9,_=>exact ⟨_,_,rfl,.lst (v8 _ _ g8) (one (aA9 (v7 _ _ g7))) (by show 1 ≤ 64; decide),(fun xs z=>by cases z; show 1 ≤ 13; decide),⟨fun xs z=>by cases z; rfl,fun z=>nomatch z⟩⟩
   | 10,_=>exact ⟨_,_,rfl,.lst (v9 _ _ g9) (two (.int _) (ay6 _)) (by show 2 ≤ 64; decide),(fun xs z=>by cases z; show 2 ≤ 13; decide),⟨fun xs z=>by cases z; rfl,fun z=>nomatch z⟩⟩
  exact ⟨_,rfl,_,rfl,_,_,rfl,rfl,.inr ⟨by decide,by decide⟩,_,_,rfl,rfl,(by show (0:Int) < 999883; decide),_,_,rfl,rfl,(by show (0:Int) < 11; decide),pC,_,_,_,rfl,rfl,SqL.of gC,ho1,q odd o GC vH ho2 ho3 ho4⟩
 ·refine ⟨_,rfl,_,_,rfl,rfl,_,rfl,?_⟩
  refine A7 (fun _=>?_) (fun _=>?_)
  ·refine ⟨_,rfl,(by show 0 ≤ sizeLine; decide),fun nl hnl=>?_⟩
   have s3':=i6 hnl (.lst [])
   have s3:=s1.trans s3'
   have enl:=i3 (H:=H1) (a:=nl) (o:=.lst [])
   have eel3:=s3' _ _ eel
   generalize upd H1 nl (.lst []) = H3 at s3 enl eel3 ⊢
   refine ⟨l,nl,_,rfl,rfl,s3.seq hl,SqL.of enl,_,rfl,?_⟩
   refine aj5 (fun c2=>?_) (fun c2=>?_)
   ·refine ⟨_,rfl,_,_,rfl,rfl,(by show (0:Int) < 2; decide),rfl,_,rfl,?_⟩
    refine A7 (fun _=>?_) (fun _=>?_)
    ·exact ⟨_,rfl,el,_,rfl,.inl ⟨SqL.of eel3,fun t ht=>q _ _ _ (s3.trans (i6 ht _)) (.tup i3 (D5 es) (by rw [List.length_map]; lia)) (fun xs z=>by cases z; rw [List.length_map]; lia) (M0 ..)⟩⟩
    ·exact ⟨_,rfl,q _ _ _ s3 (.lst eel3 (D5 es) (by rw [List.length_map]; lia)) (fun xs z=>by cases z; rw [List.length_map]; lia) (M0 ..)⟩
   ·have ne:as ≠ []:=fun z=>c2 (decide_eq_true (by rw [z]; rfl))
    obtain ⟨j,p,hj,hat⟩:=aW4 (n:=n * 69621 % 999863) ne
    obtain ⟨k,hk,ce,e1,e2⟩:=m3 hC j p hj
    have kin:=hin k (List.mem_of_getElem? hk)
    have pos:0 < as.length:=List.length_pos_iff.mpr ne
    have kpos:0 < k.es.length:=List.length_pos_iff.mpr kin.some
    refine ⟨_,rfl,_,rfl,_,_,rfl,rfl,.inr ⟨by decide,by decide⟩,_,_,rfl,rfl,(by show (0:Int) < 999863; decide),_,rfl,l,_,rfl,.inl (s3.seq hl),_,_,rfl,rfl,(by show (0:Int) < (((as.map V.ref).length:Nat):Int); rw [List.length_map]; lia),l,_,_,_,rfl,rfl,s3.seq hl,hat,p,_,_,_,rfl,rfl,SqT.of (s3 _ _ e2),rfl,?_⟩
    obtain ⟨ie,hie⟩:∃ ie:Nat,n % (((k.es.map V.int).length:Nat):Int) = (ie:Int):=⟨_,(Int.toNat_of_nonneg (Int.emod_nonneg _ (by rw [List.length_map]; lia))).symm⟩
    have hie2:ie < k.es.length:=by
     have:=Int.emod_lt_of_pos n (show (0:Int) < (((k.es.map V.int).length:Nat):Int) by rw [List.length_map]; lia)
     rw [List.length_map] at this hie
     lia
    have ate:atI (k.es.map V.int) (n % (((k.es.map V.int).length:Nat):Int)) = some (.int (k.es[ie]'hie2)):=by
     rw [hie]
     exact z8 (by rw [List.getElem?_map,List.getElem?_eq_getElem hie2]; rfl)
    generalize k.es[ie]'hie2 = en at ate
    refine ⟨_,rfl,_,rfl,_,rfl,ce,_,rfl,.inr (SqT.of (s3 _ _ e1)),_,_,rfl,rfl,(by show (0:Int) < (((k.es.map V.int).length:Nat):Int); rw [List.length_map]; lia),ce,_,_,_,rfl,rfl,SqT.of (s3 _ _ e1),ate,?_⟩
    refine ⟨_,rfl,_,_,rfl,rfl,.inr ⟨by decide,by decide⟩,_,_,rfl,rfl,(by show (0:Int) < 999853; decide),_,rfl,el,_,rfl,.inl (SqL.of eel3),_,_,rfl,rfl,_,_,rfl,rfl,(by show (0:Int) < (((es.map V.int).length:Nat):Int) + 1; lia),?_⟩
    obtain ⟨at1,hat1⟩:∃ at1:Nat,n * 40692 % 999853 % ((((es.map V.int).length:Nat):Int) + 1) = (at1:Int):=⟨_,(Int.toNat_of_nonneg (Int.emod_nonneg _ (by lia))).symm⟩
    refine ⟨_,rfl,_,rfl,el,_,rfl,.inl (SqL.of eel3),rfl,O1 es,_,rfl,?_⟩
    refine aj5 (fun c3=>?_) (fun c3=>?_)
    ·refine ⟨_,rfl,_,_,rfl,rfl,(by show (0:Int) < 2; decide),rfl,_,rfl,?_⟩
     refine A7 (fun _=>?_) (fun _=>?_)
     ·exact ⟨_,rfl,el,_,rfl,.inl ⟨SqL.of eel3,fun t ht=>q _ _ _ (s3.trans (i6 ht _)) (.tup i3 (D5 es) (by rw [List.length_map]; lia)) (fun xs z=>by cases z; rw [List.length_map]; lia) (M0 ..)⟩⟩
     ·exact ⟨_,rfl,q _ _ _ s3 (.lst eel3 (D5 es) (by rw [List.length_map]; lia)) (fun xs z=>by cases z; rw [List.length_map]; lia) (M0 ..)⟩
    ·refine ⟨_,rfl,_,rfl,_,rfl,el,_,rfl,SqL.of eel3,fun la hla=>?_⟩
     rw [hat1,aE0]
     have ela:=i3 (H:=H3) (a:=la) (o:=.lst ((es.map V.int).take at1))
     have s9:=i6 hla (.lst ((es.map V.int).take at1))
     generalize upd H3 la (.lst ((es.map V.int).take at1)) = H9 at ela s9 ⊢
     refine ⟨_,rfl,(by show 1 ≤ sizeLine; decide),fun lb hlb=>?_⟩
     have elb:=i3 (H:=H9) (a:=lb) (o:=.lst [.int en])
     have s10:=i6 hlb (.lst [.int en])
     generalize upd H9 lb (.lst [.int en]) = H10 at elb s10 ⊢
     refine ⟨la,lb,_,_,rfl,rfl,s10 _ _ ela,elb,Nat.le_of_lt (n5 (by rw [List.length_take,List.length_singleton]; lia)),fun lc hlc=>?_⟩
     have elc:=i3 (H:=H10) (a:=lc) (o:=.lst ((es.map V.int).take at1 ++ [.int en]))
     have s11:=i6 hlc (.lst ((es.map V.int).take at1 ++ [.int en]))
     generalize upd H10 lc (.lst ((es.map V.int).take at1 ++ [.int en])) = H11 at elc s11 ⊢
     have s311:=s9.trans (s10.trans s11)
     refine ⟨_,rfl,_,rfl,_,rfl,el,_,rfl,SqL.of (s311 _ _ eel3),fun le hle=>?_⟩
     rw [hat1,aV6]
     have ele:=i3 (H:=H11) (a:=le) (o:=.lst ((es.map V.int).drop at1))
     have s12:=i6 hle (.lst ((es.map V.int).drop at1))
     generalize upd H11 le (.lst ((es.map V.int).drop at1)) = H12 at ele s12 ⊢
     refine ⟨lc,le,_,_,rfl,rfl,s12 _ _ elc,ele,Nat.le_of_lt (n5 (by rw [List.length_append,List.length_take,List.length_singleton,List.length_drop]; lia)),fun r hr=>?_⟩
     have sAll:=s3.trans ((s311.trans s12).trans (i6 hr (.lst ((es.map V.int).take at1 ++ [.int en] ++ (es.map V.int).drop at1))))
     have er:upd H12 r (.lst ((es.map V.int).take at1 ++ [.int en] ++ (es.map V.int).drop at1)) r = some (.lst ((es.take at1 ++ [en] ++ es.drop at1).map V.int)):=by
      rw [i3,List.map_append,List.map_append,List.map_take,List.map_drop]
      rfl
     have lr:(es.take at1 ++ [en] ++ es.drop at1).length ≤ 13:=by
      rw [List.length_append,List.length_append,List.length_take,List.length_singleton,List.length_drop]
      lia
     generalize upd H12 r (.lst ((es.map V.int).take at1 ++ [.int en] ++ (es.map V.int).drop at1)) = H13 at sAll er ⊢
     generalize es.take at1 ++ [en] ++ es.drop at1 = es' at er lr
     refine ⟨_,rfl,_,_,rfl,rfl,(by show (0:Int) < 2; decide),rfl,_,rfl,?_⟩
     refine A7 (fun _=>?_) (fun _=>?_)
     ·exact ⟨_,rfl,r,_,rfl,.inl ⟨SqL.of er,fun t ht=>q _ _ _ (sAll.trans (i6 ht _)) (.tup i3 (D5 es') (by rw [List.length_map]; lia)) (fun xs z=>by cases z; rw [List.length_map]; lia) (M0 ..)⟩⟩
     ·exact ⟨_,rfl,q _ _ _ sAll (.lst er (D5 es') (by rw [List.length_map]; lia)) (fun xs z=>by cases z; rw [List.length_map]; lia) (M0 ..)⟩
  ·refine ⟨_,rfl,_,_,rfl,rfl,(by show (0:Int) < 2; decide),rfl,_,rfl,?_⟩
   refine A7 (fun _=>?_) (fun _=>?_)
   ·exact ⟨_,rfl,el,_,rfl,.inl ⟨SqL.of eel,fun t ht=>q _ _ _ (s1.trans (i6 ht _)) (.tup i3 (D5 es) (by rw [List.length_map]; lia)) (fun xs z=>by cases z; rw [List.length_map]; lia) (M0 ..)⟩⟩
   ·exact ⟨_,rfl,q _ _ _ s1 (.lst eel (D5 es) (by rw [List.length_map]; lia)) (fun xs z=>by cases z; rw [List.length_map]; lia) (M0 ..)⟩
end
theorem a79 {H:Hp} {rs:List Addr} {h:Hall} {ks:List Call} {c:Int} {es:List Int} (hrows:x5 H rs (C8 h ks c es)) {k:Nat} (hk:k < h.m.toNat):∃ ra,atI (rs.map V.ref) (k:Int) = some (.ref ra) ∧ H ra = some (.lst ((F0 h ks (c / h.c) (o8 h es) k).map V.int)):=by
 have lr:=Paired.length hrows
 unfold C8 at lr
 rw [T0] at lr
 have ea:rs[k]? = some (rs[k]'(by lia)):=List.getElem?_eq_getElem _
 obtain ⟨row,w1,w2⟩:=m3 hrows k _ ea
 have w1':row = F0 h ks (c / h.c) (o8 h es) k:=by
  unfold C8 J3 at w1
  rw [List.getElem?_map,List.getElem?_range hk] at w1
  exact (Option.some.inj w1).symm
 rw [w1'] at w2
 exact ⟨_,z8 (by rw [List.getElem?_map,ea]; rfl),w2⟩
inductive DueAt (h:Hall) (ks:List Call) (x:V) (o:Option (List V)) (sh:Int) (H:Hp) (t:Addr):Prop where
 | wrong (b:(n4 x 0 (h.i * h.c - 1) && B3 h o) = false) (e:H t = some (.tup [.int 0,.non,.non])):DueAt h ks x o sh H t
 | busy (c:Int) (es:List Int) (w:Int) (ex:x = .int c) (eo:o = some (es.map V.int)) (w1:n4 x 0 (h.i * h.c - 1) = true) (w2:B3 h o = true) (b:O2 ks c es w) (e:H t = some (.tup [.int 1,.int w,.non])):DueAt h ks x o sh H t
 | eng (c:Int) (es:List Int) (kf:Addr) (rs:List Addr) (lv:V) (lo:Option (List Int)) (ex:x = .int c) (eo:o = some (es.map V.int)) (w1:n4 x 0 (h.i * h.c - 1) = true) (w2:B3 h o = true) (i:Y8 ks c es) (n:E6 h ks c es sh = []) (e:H t = some (.tup [.int 2,.ref kf,lv])) (ek:H kf = some (.lst (rs.map V.ref))) (er:x5 H rs (C8 h ks c es)) (hl:U0 h ks c es sh lo) (el:match (generalizing:=false) lo with | none=>lv = .non | some ms=>∃ m,lv = .ref m ∧ H m = some (.lst (ms.map V.int))):DueAt h ks x o sh H t
 | way (c:Int) (es:List Int) (fl:Addr) (ex:x = .int c) (eo:o = some (es.map V.int)) (w1:n4 x 0 (h.i * h.c - 1) = true) (w2:B3 h o = true) (i:Y8 ks c es) (n:E6 h ks c es sh ≠ []) (e:H t = some (.tup [.int 9,.ref fl,.non])) (ef:H fl = some (.lst (C2 (E6 h ks c es sh)))):DueAt h ks x o sh H t
def aJ0 (K:PySem.W.Frag):Sp:=fun vs H Q _=>∃ (a l:Addr) (h:Hall) (as:List Addr) (ks:List Call) (x y:V) (o:Option (List V)) (sh:Int),vs = [.ref a,.ref l,x,y,.int sh] ∧ SqT K H a (h.row.map V.int) ∧ h.Ok ∧ SqL K H l (as.map V.ref) ∧ m4 H as ks ∧ (∀ k ∈ ks,k.In h) ∧ ks.length ≤ 63 ∧ PartIs K H x ∧ EndTh K H y o ∧ (∀ xs,o = some xs → xs.length ≤ 13) ∧ ∀ (t:Addr) (H':Hp),j5 H H' → DueAt h ks x o sh H' t → Q (.ref t) H'
def X1 (h:Hall) (ks:List Call) (c:Int) (es:List Int) (sh:Int) (i:Nat):List Nat:=((List.range i).filter (E8 sh)).filter (M9 h ks c es)
theorem T4 (h:Hall) (ks:List Call) (c:Int) (es:List Int) (sh:Int) (i:Nat):X1 h ks c es sh (i + 1) = X1 h ks c es sh i ++ (if (E8 sh i && M9 h ks c es i) = true then [i] else []):=by
 unfold X1
 rw [List.range_succ,List.filter_append,List.filter_append]
 congr 1
 rw [List.filter_cons]
 cases E8 sh i with
 | false=>rfl
 | true =>
  rw [if_pos rfl,List.filter_cons]
  cases M9 h ks c es i <;> rfl
section
variable {P:Program} {w:World} {K:PySem.W.Frag} {mg:Str → Option Value} {base:Heap} {C_Rule C_Round C_HallError C_NoHall C_NoCalls C_NoLine C_NoRule C_Idle C_Busy C_Engaged C_NoMove:Addr}
theorem M6:FnScope ["_law_hall_here","_law_calls_here","_law_caller_here","_law_ends_here","_law_shut","_law_busy_here","_law_kept","_law_free","_law_k"] ["_law_hall_here","_law_calls_here","_law_caller_here","_law_ends_here","_law_shut"] (i7 (top 54)):=⟨rfl,rfl,rfl,by decide +kernel,rfl,by decide +kernel,by decide +kernel⟩
set_option maxHeartbeats 4000000 in
theorem aS7 (T:Txt K mg) (C__law_none:Callee P w K mg base 1 "_law_none" ["_law_hall_here","_law_caller_here","_law_ends_here"] (aW5 K)) (C__law_busy:Callee P w K mg base 1 "_law_busy" ["_law_calls_here","_law_caller_here","_law_ends_here"] (aK0 K)) (C__law_holds:Callee P w K mg base 2 "_law_holds" ["_law_hall_here","_law_calls_here","_law_caller_here","_law_ends_here"] (ay7 K)) (C__law_best:Callee P w K mg base 1 "_law_best" ["_law_hall_here","_law_kept","_law_shut"] (aR1 K)) (D:Def K mg "_law_due" (top 54) ["_law_hall_here","_law_calls_here","_law_caller_here","_law_ends_here","_law_shut"]):Callee P w K mg base 3 "_law_due" ["_law_hall_here","_law_calls_here","_law_caller_here","_law_ends_here","_law_shut"] (aJ0 K):=by
 refine D.ok M6 (fun vs H Q E h=>?_) (fun f cdv A outer s H vs Q E hr h=>?_)
 ·obtain ⟨a,l,h,as,ks,x,y,o,sh,rfl,_⟩:=h
  rfl
 obtain ⟨a,l,h,as,ks,x,y,o,sh,rfl,hH,ok,hl,hC,hin,h63,px,ey,l13,q⟩:=h
 have b3:=ok.m
 refine ⟨_,(i4 (m8 (m9 K (r6 C__law_none hr rfl (b8 (pv 0) (b8 (pv 2) (b8 (pv 3) d9 b9) b9) b9)) (fun _=>rfl)) (i5 (i9 (C7 (b8 i0 (b8 y6 (b8 y6 d9 m6) m6) m6)))) j1)
  (i4 (j7 (i:=5) M6.nd rfl (Or.inl rfl) (r6 C__law_busy hr rfl (b8 (pv 1) (b8 (pv 2) (b8 (pv 3) d9 b9) b9) b9)))
  (i4 (m8 (j8 V4 (pv 5) y6 (m7 _)) (i5 (i9 (C7 (b8 i0 (b8 (pv 5) (b8 y6 d9 m6) b9) m6)))) j1)
  (i4 (j7 (i:=6) M6.nd rfl (Or.inl rfl) (r6 C__law_holds hr rfl (b8 (pv 0) (b8 (pv 1) (b8 (pv 2) (b8 (pv 3) d9 b9) b9) b9) b9)))
  (i4 (j7 (i:=7) M6.nd rfl (Or.inl rfl) (q9 d9))
  (i4 (A3 PassesOwn.never rfl (z9 rfl T.m_range (b8 (j3 (j0 K) (pv 0) i0 (fun _ _=>rfl)) d9 x6)) (o5 (i:=8) M6.nd rfl (Or.inl rfl))
  (i5 (m8 (PW.pt (as9 (j8 (ab3 K (Room.units0 hr)) (j3 (n9 K) (pv 6) (pv 8) (fun _ _=>rfl)) (q9 d9) (m7 _)) (af0 (j8 C4 (j2 aC7 (j2 aC2 (pv 4) (pv 8)) i0) i0 (m7 _))))) (i5 (D2 (K8 K PySem.F.plainAttrs_list PySem.F.slot_list_append PySem.F.type_list_append B2 (pv 7) (b8 (pv 8) d9 b9)))) j1)))
  (i4 (m8 (j8 (ab3 K (Room.units0 hr)) (pv 7) (q9 d9) (m7 _)) (i5 (i9 (C7 (b8 i0 (b8 (pv 6) (b8 (r6 C__law_best hr rfl (b8 (pv 0) (b8 (pv 6) (b8 (pv 4) d9 b9) b9) b9)) d9 r9) b9) m6)))) j1)
  (i5 (i9 (C7 (b8 i0 (b8 (pv 7) (b8 y6 d9 m6) b9) m6))))))))))),?_⟩
 refine ⟨_,rfl,_,rfl,_,rfl,a,h,x,y,o,rfl,hH,ok,px,ey,fun H1 s1=>⟨_,rfl,?_⟩⟩
 cases cb:(n4 x 0 (h.i * h.c - 1) && B3 h o) with
 | false=>exact C3 ⟨(by show 3 ≤ sizeLine; decide),fun t ht=>q t _ (s1.trans (i6 ht _)) (.wrong cb i3)⟩
 | true =>
  rw [Bool.and_eq_true] at cb
  obtain ⟨w1,w2⟩:=cb
  obtain ⟨c,rfl,c0,c1⟩:=U3 w1
  obtain ⟨e,es,rfl,rfl,he⟩:=ar4 ey w2
  have le13:es.length ≤ 13:=by have:=l13 _ rfl; rwa [List.length_map] at this
  have he':∀ {G:Hp},j5 H G → (SqT K G e (es.map V.int) ∨ SqL K G e (es.map V.int)):=fun s=>he.imp (fun z=>j5.seqT s z) fun z=>s.seq z
  have hC':∀ {G:Hp},j5 H G → m4 G as ks:=fun s=>m4.same (fun b xs z=>s _ _ z) hC
  refine z6 ⟨_,rfl,_,rfl,_,rfl,l,e,as,ks,c,es,rfl,s1.seq hl,hC' s1,he' s1,by lia,fun H2 s2 idle=>?_,fun w H2 s2 b=>?_⟩
  rotate_left
  ·refine ⟨_,rfl,rfl,_,rfl,C3 ⟨_,rfl,(by show 3 ≤ sizeLine; decide),fun t ht=>q t _ (s1.trans (s2.trans (i6 ht _))) (.busy c es w rfl rfl w1 w2 b i3)⟩⟩
  have s12:=s1.trans s2
  refine ⟨_,rfl,rfl,_,rfl,z6 ?_⟩
  refine ⟨_,rfl,_,rfl,_,rfl,_,rfl,a,l,e,h,as,ks,c,es,rfl,j5.seqT s12 hH,ok,s12.seq hl,hC' s12,hin,h63,he' s12,le13,fun kf rs H3 s3 ekf hR=>?_⟩
  have s13:=s12.trans s3
  refine ⟨(by show 0 ≤ sizeLine; decide),fun fl hfl=>?_⟩
  have s4:=i6 hfl (.lst [])
  have efl:=i3 (H:=H3) (a:=fl) (o:=.lst [])
  generalize upd H3 fl (.lst []) = H4 at s4 efl ⊢
  have hH4:=j5.seqT (s13.trans s4) hH
  refine ⟨_,rfl,a,_,_,_,rfl,rfl,hH4,rfl,_,rfl,by show -(2 ^ 62) ≤ h.m; lia,by show h.m < 2 ^ 62; lia,?_⟩
  refine A4 (fun i σ G=>j5 H3 G ∧ G fl = some (.lst (C2 (X1 h ks c es sh i))) ∧ ∃ v8,σ = [some (.ref a),some (.ref l),some (.int c),some (.ref e),some (.int sh),some .non,some (.ref kf),some (.ref fl),v8])
   ⟨s4,efl,none,rfl⟩ ?_ ?_
  ·rintro i σ G hi ⟨s5,ef5,v8,rfl⟩
   rw [Int.zero_add]
   obtain ⟨ra,a1,a2⟩:=a79 hR hi
   refine ⟨_,rfl,_,rfl,kf,_,_,_,rfl,rfl,SqL.of (s5 _ _ ekf),a1,(by show 0 ≤ sizeLine; decide),fun nl hnl=>?_⟩
   have s6':=i6 hnl (.lst [])
   have s6:=s5.trans s6'
   have enl:=i3 (H:=G) (a:=nl) (o:=.lst [])
   have ef6:=s6' _ _ ef5
   generalize upd G nl (.lst []) = G6 at s6 enl ef6 ⊢
   refine ⟨ra,nl,_,rfl,rfl,SqL.of (s6 _ _ a2),SqL.of enl,_,rfl,?_⟩
   have fb:M9 h ks c es i = decide ((F0 h ks (c / h.c) (o8 h es) i).map V.int = []):=by
    unfold M9
    exact decide_eq_decide.mpr List.map_eq_nil_iff.symm
   rw [← fb]
   refine A7 (fun z1=>?_) (fun z1=>?_)
   ·refine ⟨_,rfl,_,rfl,_,_,rfl,rfl,by lia,_,_,rfl,rfl,rfl,_,rfl,?_⟩
    refine A7 (fun z2=>?_) (fun z2=>?_)
    ·have ob:E8 sh i = true:=by unfold E8; simpa using z2
     have wl:(C2 (X1 h ks c es sh i)).length ≤ 24:=by
      unfold C2 X1
      rw [List.length_map]
      refine Nat.le_trans (List.length_filter_le ..) (Nat.le_trans (List.length_filter_le ..) ?_)
      rw [List.length_range]
      lia
     refine ⟨_,rfl,.inl ⟨rfl,_,SqL.of ef6⟩,_,rfl,fl,_,_,rfl,rfl,ef6,n5 (by lia),?_⟩
     refine ⟨fun b u zb=>?_,?_,_,rfl⟩
     ·rw [j4 (o4 zb hfl)]
      exact s6 _ _ zb
     ·rw [i3,T4,ob,z1]
      unfold C2
      rw [List.map_append]
      rfl
    ·have ob:E8 sh i = false:=by
      refine Bool.eq_false_iff.mpr fun y=>z2 ?_
      unfold E8 at y
      simpa using y
     refine ⟨s6,?_,_,rfl⟩
     rw [T4,ob,Bool.false_and,if_neg (by decide),List.append_nil]
     exact ef6
   ·have zf:M9 h ks c es i = false:=Bool.eq_false_iff.mpr z1
    refine ⟨s6,?_,_,rfl⟩
    rw [T4,zf,Bool.and_false,if_neg (by decide),List.append_nil]
    exact ef6
  ·rintro σ G ⟨s5,ef5,v8,rfl⟩
   have ew:X1 h ks c es sh h.m.toNat = E6 h ks c es sh:=rfl
   have ef5:G fl = some (.lst (C2 (E6 h ks c es sh))):=ef5
   refine ⟨_,rfl,(by show 0 ≤ sizeLine; decide),fun nl hnl=>?_⟩
   have s6':=i6 hnl (.lst [])
   have s6:=s5.trans s6'
   have enl:=i3 (H:=G) (a:=nl) (o:=.lst [])
   have ef6:=s6' _ _ ef5
   generalize upd G nl (.lst []) = G6 at s6 enl ef6 ⊢
   have sAll:=s13.trans s6
   refine ⟨fl,nl,_,rfl,rfl,SqL.of ef6,SqL.of enl,_,rfl,?_⟩
   refine A7 (fun z=>?_) (fun z=>?_)
   ·have z':E6 h ks c es sh = []:=by
     have:=of_decide_eq_true z
     unfold C2 at this
     exact List.map_eq_nil_iff.mp this
    have hR6:x5 G6 rs (C8 h ks c es):=Paired.mapP hR fun a r z=>s6 _ _ z
    refine ⟨_,rfl,_,rfl,_,rfl,_,rfl,a,kf,rs,h,ks,c,es,sh,rfl,j5.seqT sAll hH,ok,s6 _ _ ekf,hR6,fun hno=>?_,fun k ra lk ea=>?_⟩
    ·refine ⟨(by show 3 ≤ sizeLine; decide),fun t ht=>?_⟩
     have sT:=i6 ht (.tup [.int 2,.ref kf,.non])
     exact q t _ (sAll.trans sT) (.eng c es kf rs .non none rfl rfl w1 w2 idle z' i3 (sT _ _ (s6 _ _ ekf)) (Paired.mapP hR6 fun a r z=>sT _ _ z) hno rfl)
    ·refine ⟨(by show 3 ≤ sizeLine; decide),fun t ht=>?_⟩
     have sT:=i6 ht (.tup [.int 2,.ref kf,.ref ra])
     exact q t _ (sAll.trans sT) (.eng c es kf rs (.ref ra) (some _) rfl rfl w1 w2 idle z' i3 (sT _ _ (s6 _ _ ekf)) (Paired.mapP hR6 fun a r z=>sT _ _ z) ⟨k,lk,rfl⟩ ⟨ra,rfl,sT _ _ ea⟩)
   ·have z':E6 h ks c es sh ≠ []:=fun y=>z (decide_eq_true (by rw [y]; rfl))
    refine ⟨_,rfl,(by show 3 ≤ sizeLine; decide),fun t ht=>?_⟩
    have sT:=i6 ht (.tup [.int 9,.ref fl,.non])
    exact q t _ (sAll.trans sT) (.way c es fl rfl rfl w1 w2 idle z' i3 (sT _ _ ef6))
end
def aE3 (x y:V):Prop:=(x = .non ∧ y = .non) ∨ ∃ i j:Int,x = .int i ∧ y = .int j
def V7 (H:Hp):Nat → V → V → Prop
 | 0,x,y=>aE3 x y
 | n + 1,x,y=>aE3 x y ∨ ∃ (p q:Addr) (xs ys:List V),x = .ref p ∧ y = .ref q ∧ ((H p = some (.lst xs) ∧ H q = some (.lst ys)) ∨ (H p = some (.tup xs) ∧ H q = some (.tup ys))) ∧ Paired (V7 H n) xs ys ∧ xs.length ≤ 1000
def af1 (n:Nat):Sp:=fun vs H Q _=>∃ x y,vs = [x,y] ∧ V7 H n x y ∧ ∀ b,(D0 H n x y → b = true) → Q (.bl b) H
theorem aH1 {H:Hp} {m:Nat} {p r:Addr} {xs ys:List V} (hk:(H p = some (.lst xs) ∧ H r = some (.lst ys)) ∨ (H p = some (.tup xs) ∧ H r = some (.tup ys))) (h:D0 H (m + 1) (.ref p) (.ref r)) {i:Nat} {x y:V} (hx:xs[i]? = some x) (hy:ys[i]? = some y):D0 H m x y:=by
 rcases h with (⟨z,_⟩ | ⟨i,z,_⟩) | ⟨p',r',xs',ys',z1,z2,hk',hp,_⟩
 ·cases z
 ·cases z
 ·cases z1
  cases z2
  have e:xs' = xs ∧ ys' = ys:=by
   rcases hk with ⟨a,b⟩ | ⟨a,b⟩ <;> rcases hk' with ⟨a',b'⟩ | ⟨a',b'⟩ <;> rw [a] at a' <;> rw [b] at b' <;> cases a' <;> cases b' <;> exact ⟨rfl,rfl⟩
  obtain ⟨rfl,rfl⟩:=e
  obtain ⟨y',ey,al⟩:=m3 hp i x hx
  rw [hy] at ey
  cases ey
  exact al
section
variable {P:Program} {w:World} {K:PySem.W.Frag} {mg:Str → Option Value} {base:Heap}
theorem ai6 (T:Txt K mg) (n:Nat) (sp:Sp) (C__law_alike:Callee P w K mg base n "_law_alike" ["_law_found","_law_due_here"] sp) (D:Def K mg "_law_alike" (top 46) ["_law_found","_law_due_here"]) (hsp:∀ m,n = m + 1 → sp = af1 m):Callee P w K mg base (n+1) "_law_alike" ["_law_found","_law_due_here"] (af1 n):=by
 refine D.ok L5 (fun vs H Q E h=>?_) (fun f cdv A outer s H vs Q E hr h=>?_)
 ·obtain ⟨x,y,rfl,_⟩:=h
  rfl
 obtain ⟨x,y,rfl,hA,q⟩:=h
 refine ⟨_,(i4 (m8 (j8 Q7 (pv 1) y6 (m7 _)) (i5 (i9 (J8 Q7 (pv 0) y6 (m7 _)))) j1)
  (i4 (m8 (m9 K (i8 (j6 K) rfl T.m_isinstance boot_isinstance (b8 (pv 1) (b8 (n6 (v:=.ty "int") rfl T.m_int boot_int rfl) d9 b9) b9)) (fun _=>rfl)) (i5 (i9 (P9 (i8 (j6 K) rfl T.m_isinstance boot_isinstance (b8 (pv 0) (b8 (n6 (v:=.ty "int") rfl T.m_int boot_int rfl) d9 b9) b9)) (P9 (Y4 (i8 (j6 K) rfl T.m_isinstance boot_isinstance (b8 (pv 0) (b8 (n6 (v:=.ty "bool") rfl T.m_bool boot_bool rfl) d9 b9) b9))) (X6 (J8 C4 (pv 0) (pv 1) (m7 _))))))) j1)
  (i4 (m8 (m9 K (i8 (j6 K) rfl T.m_isinstance boot_isinstance (b8 (pv 1) (b8 (n6 (v:=.ty "tuple") rfl T.m_tuple boot_tuple rfl) d9 b9) b9)) (fun _=>rfl)) (i5 (m8 (y0 (m9 K (i8 (j6 K) rfl T.m_isinstance boot_isinstance (b8 (pv 0) (b8 (n6 (v:=.ty "tuple") rfl T.m_tuple boot_tuple rfl) d9 b9) b9)) (fun _=>rfl))) (i5 (i9 z5)) j1)) (i5 (m8 (y0 (m9 K (i8 (j6 K) rfl T.m_isinstance boot_isinstance (b8 (pv 0) (b8 (n6 (v:=.ty "list") rfl T.m_list boot_list rfl) d9 b9) b9)) (fun _=>rfl))) (i5 (i9 z5)) j1)))
  (i4 (m8 (j8 al9 (i8 (o7 K) rfl T.m_len boot_len (b8 (pv 0) d9 b9)) (i8 (o7 K) rfl T.m_len boot_len (b8 (pv 1) d9 b9)) (m7 _)) (i5 (i9 z5)) j1)
  (i4 (A3 PassesOwn.never rfl (z9 rfl T.m_range (b8 (i8 (o7 K) rfl T.m_len boot_len (b8 (pv 1) d9 b9)) d9 r9)) (o5 (i:=2) L5.nd rfl (Or.inl rfl))
  (i5 (m8 (y0 (m9 K (r6 C__law_alike hr rfl (b8 (j3 ai9 (pv 0) (pv 2) (fun _ _=>rfl)) (b8 (j3 ai9 (pv 1) (pv 2) (fun _ _=>rfl)) d9 x6) x6) (Nat.le_refl _)) (fun _=>rfl))) (i5 (i9 z5)) j1)))
  (i5 (i9 z5))))))),?_⟩
 have hB:aE3 x y ∨ ∃ m,n = m + 1 ∧ ∃ (p q:Addr) (xs ys:List V),x = .ref p ∧ y = .ref q ∧ ((H p = some (.lst xs) ∧ H q = some (.lst ys)) ∨ (H p = some (.tup xs) ∧ H q = some (.tup ys))) ∧ Paired (V7 H m) xs ys ∧ xs.length ≤ 1000:=by
  cases n with
  | zero=>exact .inl hA
  | succ m=>exact hA.imp id fun z=>⟨m,rfl,z⟩
 rcases hB with (⟨rfl,rfl⟩ | ⟨i,j,rfl,rfl⟩) | ⟨m,rfl,p,r,xs,ys,rfl,rfl,hk,hp,h1000⟩
 ·exact ⟨_,rfl,rfl,_,rfl,C3 ⟨_,rfl,rfl,q _ fun _=>rfl⟩⟩
 ·refine ⟨_,rfl,rfl,_,rfl,z6 ?_⟩
  refine ⟨_,rfl,_,_,_,true,rfl,.int j,M3,true,rfl,C3 ?_⟩
  refine ⟨_,rfl,_,_,_,true,rfl,.int i,M3,_,rfl,C3 ?_⟩
  refine ⟨_,rfl,_,_,_,false,rfl,.int i,Q8,_,rfl,_,rfl,C3 ?_⟩
  refine ⟨_,rfl,_,rfl,rfl,q _ fun al=>?_⟩
  refine decide_eq_true ?_
  have al':P0 (.int i) (.int j):=by
   cases n with
   | zero=>exact al
   | succ m =>
    rcases al with z | ⟨_,_,_,_,z,_⟩
    ·exact z
    ·cases z
  rcases al' with ⟨z,_⟩ | ⟨k,z1,z2⟩
  ·cases z
  ·rw [z1,z2]
 ·obtain rfl:=hsp m rfl
  have ln:=Paired.length hp
  have no:∀ {i:Nat} {x y:V} {b:Bool},xs[i]? = some x → ys[i]? = some y → (D0 H m x y → b = true) → b = false → (D0 H (m + 1) (.ref p) (.ref r) → false = true):=fun hx hy hb e z=>by
   rw [← e]
   exact hb (aH1 hk z hx hy)
  refine ⟨_,rfl,rfl,_,rfl,z6 ?_⟩
  rcases id hk with ⟨k1,k2⟩ | ⟨k1,k2⟩
  ·refine ⟨_,rfl,_,_,_,false,rfl,.lst k2,S9,false,rfl,z6 ?_⟩
   refine ⟨_,rfl,_,_,_,false,rfl,.lst k2,U2,false,rfl,z6 ?_⟩
   refine ⟨_,rfl,_,_,_,true,rfl,.lst k1,P6,true,rfl,z6 ?_⟩
   refine ⟨_,rfl,p,_,rfl,.inl (SqL.of k1),_,rfl,r,_,rfl,.inl (SqL.of k2),rfl,_,rfl,ax3 (by simp [ln]) ?_⟩
   refine ⟨_,rfl,r,_,rfl,.inl (SqL.of k2),_,rfl,by lia,by lia,?_⟩
   rw [Int.toNat_natCast]
   refine A4 (fun i σ H'=>H' = H ∧ ∃ v,σ = [some (.ref p),some (.ref r),v]) ⟨rfl,_,rfl⟩ ?_ ?_
   ·rintro i σ H' hi ⟨rfl,v,rfl⟩
    rw [Int.zero_add]
    have ex:xs[i]? = some (xs[i]'(by lia)):=List.getElem?_eq_getElem (by lia)
    obtain ⟨y,ey,al⟩:=m3 hp i _ ex
    refine ⟨_,rfl,_,rfl,.inl ⟨p,_,_,_,rfl,rfl,SqL.of k1,z8 ex,_,rfl,_,rfl,.inl ⟨r,_,_,_,rfl,rfl,SqL.of k2,z8 ey,_,_,rfl,al,fun b hb=>⟨b,rfl,?_⟩⟩⟩⟩
    cases b with
    | true=>exact z6 ⟨rfl,_,rfl⟩
    | false=>exact C3 (q _ (no ex ey hb rfl))
   ·rintro σ H' ⟨rfl,v,rfl⟩
    exact q _ fun _=>rfl
  ·refine ⟨_,rfl,_,_,_,false,rfl,.tup k2,ad6,false,rfl,z6 ?_⟩
   refine ⟨_,rfl,_,_,_,true,rfl,.tup k2,L9,true,rfl,C3 ?_⟩
   refine ⟨_,rfl,_,_,_,true,rfl,.tup k1,L9,true,rfl,z6 ?_⟩
   refine ⟨_,rfl,p,_,rfl,.inr (SqT.of k1),_,rfl,r,_,rfl,.inr (SqT.of k2),rfl,_,rfl,ax3 (by simp [ln]) ?_⟩
   refine ⟨_,rfl,r,_,rfl,.inr (SqT.of k2),_,rfl,by lia,by lia,?_⟩
   rw [Int.toNat_natCast]
   refine A4 (fun i σ H'=>H' = H ∧ ∃ v,σ = [some (.ref p),some (.ref r),v]) ⟨rfl,_,rfl⟩ ?_ ?_
   ·rintro i σ H' hi ⟨rfl,v,rfl⟩
    rw [Int.zero_add]
    have ex:xs[i]? = some (xs[i]'(by lia)):=List.getElem?_eq_getElem (by lia)
    obtain ⟨y,ey,al⟩:=m3 hp i _ ex
    refine ⟨_,rfl,_,rfl,.inr (.inl ⟨p,_,_,_,rfl,rfl,SqT.of k1,z8 ex,_,rfl,_,rfl,.inr (.inl ⟨r,_,_,_,rfl,rfl,SqT.of k2,z8 ey,_,_,rfl,al,fun b hb=>⟨b,rfl,?_⟩⟩)⟩)⟩
    cases b with
    | true=>exact z6 ⟨rfl,_,rfl⟩
    | false=>exact C3 (q _ (no ex ey hb rfl))
   ·rintro σ H' ⟨rfl,v,rfl⟩
    exact q _ fun _=>rfl
theorem aB6 (T:Txt K mg) (D:Def K mg "_law_alike" (top 46) ["_law_found","_law_due_here"]):∀ n,Callee P w K mg base (n+1) "_law_alike" ["_law_found","_law_due_here"] (af1 n)
 | 0=>ai6 T 0 _ (Z7 D 0) D fun m h=>nomatch h
 | n + 1=>ai6 T (n + 1) _ (aB6 T D n) D fun m h=>by cases h; rfl
end
theorem aS3 {l1 l2:List Int} (p:l1.Perm l2) (s1:l1.Pairwise (· ≤ ·)) (s2:l2.Pairwise (· ≤ ·)):l1 = l2:=p.eq_of_pairwise (fun a b _ _ h1 h2=>Int.le_antisymm h1 h2) s1 s2
theorem al7 {l1 l2:List Call} (p:l1.Perm l2) (s1:l1.Pairwise fun k k'=>k.c < k'.c) (s2:l2.Pairwise fun k k'=>k.c < k'.c):l1 = l2:=p.eq_of_pairwise (fun a b _ _ h1 h2=>absurd h1 (by lia)) s1 s2
def as3 (c k:Int) (κ:Call):Call:=if κ.c = c then { κ with k:=k } else κ
theorem aW1 (c k:Int) (κ:Call):(as3 c k κ).c = κ.c:=by
 unfold as3
 split <;> rfl
theorem aY1 (c k:Int) (κ:Call):(as3 c k κ).es = κ.es:=by
 unfold as3
 split <;> rfl
theorem aT8 {ks ks' ks'':List Call} {c k0 k:Int} {es:List Int} (no:∀ κ ∈ ks,κ.c ≠ c) (p':ks'.Perm (ks ++ [⟨c,es,k0⟩])) (s':ks'.Pairwise fun k k'=>k.c < k'.c) (p'':ks''.Perm (ks ++ [⟨c,es,k⟩])) (s'':ks''.Pairwise fun k k'=>k.c < k'.c):ks'' = ks'.map (as3 c k):=by
 have e:(ks ++ [(⟨c,es,k0⟩:Call)]).map (as3 c k) = ks ++ [(⟨c,es,k⟩:Call)]:=by
  rw [List.map_append]
  congr 1
  ·refine (List.map_congr_left fun κ hκ=>?_).trans (List.map_id _)
   unfold as3
   rw [if_neg (no κ hκ)]
   rfl
  ·rw [List.map_singleton]
   unfold as3
   rw [if_pos rfl]
 refine al7 (p''.trans ?_) s'' ?_
 ·rw [← e]
  exact (p'.map _).symm
 ·rw [List.pairwise_map]
  exact s'.imp fun {a b} h=>by rw [aW1,aW1]; exact h
theorem ag9 {H:Hp} {n:Nat}:∀ ns:List Int,Paired (V7 H n) (ns.map V.int) (ns.map V.int)
 | []=>.nil
 | i :: t=>.cons (by cases n with | zero=>exact .inr ⟨i,i,rfl,rfl⟩ | succ m=>exact .inl (.inr ⟨i,i,rfl,rfl⟩)) (ag9 t)
theorem aH3 {H:Hp} {p p':Addr} {κ κ':Call} (h:B4 H p κ) (h':B4 H p' κ') (e:κ'.es = κ.es) (few:κ.es.length ≤ 1000):V7 H 2 (.ref p) (.ref p'):=by
 obtain ⟨t,t1,t2⟩:=h
 obtain ⟨t',t1',t2'⟩:=h'
 rw [e] at t1'
 exact .inr ⟨p,p',_,_,rfl,rfl,.inr ⟨t2,t2'⟩,.cons (.inl (.inr ⟨_,_,rfl,rfl⟩)) (.cons (.inr ⟨t,t',_,_,rfl,rfl,.inr ⟨t1,t1'⟩,ag9 κ.es,by rw [List.length_map]; exact few⟩) (.cons (.inl (.inr ⟨_,_,rfl,rfl⟩)) .nil)),by show 3 ≤ 1000; decide⟩
theorem aD5 {H:Hp} {p p':Addr} {κ:Call} (h:B4 H p κ) (h':B4 H p' κ) (few:κ.es.length ≤ 1000):D0 H 2 (.ref p) (.ref p'):=by
 obtain ⟨t,t1,t2⟩:=h
 obtain ⟨t',t1',t2'⟩:=h'
 exact .inr ⟨p,p',_,_,rfl,rfl,.inr ⟨t2,t2'⟩,.cons (P0.at (.inr ⟨_,rfl,rfl⟩)) (.cons (.inr ⟨t,t',_,_,rfl,rfl,.inr ⟨t1,t1'⟩,R7 κ.es,by rw [List.length_map]; exact few⟩) (.cons (P0.at (.inr ⟨_,rfl,rfl⟩)) .nil)),by show 3 ≤ 1000; decide⟩
theorem ac9 {H:Hp} {c k:Int}:∀ {bs as':List Addr} {ks:List Call},m4 H bs ks → m4 H as' (ks.map (as3 c k)) → (∀ κ ∈ ks,κ.es.length ≤ 1000) → Paired (V7 H 2) (bs.map V.ref) (as'.map V.ref)
 | _,_,[],.nil,.nil,_=>.nil
 | _,_,κ :: _,.cons h t,.cons h' t',few=>.cons (aH3 h h' (aY1 ..) (few _ (List.mem_cons_self ..))) (ac9 t t' fun κ hκ=>few κ (List.mem_cons_of_mem _ hκ))
theorem ad1 {H:Hp}:∀ {bs as':List Addr} {ks:List Call},m4 H bs ks → m4 H as' ks → (∀ κ ∈ ks,κ.es.length ≤ 1000) → Paired (D0 H 2) (bs.map V.ref) (as'.map V.ref)
 | _,_,[],.nil,.nil,_=>.nil
 | _,_,κ :: _,.cons h t,.cons h' t',few=>.cons (aD5 h h' (few _ (List.mem_cons_self ..))) (ad1 t t' fun κ hκ=>few κ (List.mem_cons_of_mem _ hκ))
def an0 (K:PySem.W.Frag):Sp:=fun vs H Q _=>∃ (r l e fl:Addr) (bs as:List Addr) (ks ks':List Call) (c:Int) (es es':List Int) (ws:List Nat) (k0:Nat),vs = [.ref r,.ref l,.int c,.ref e,.ref fl] ∧ H r = some (.lst (bs.map V.ref)) ∧ m4 H bs ks' ∧ H l = some (.lst (as.map V.ref)) ∧ m4 H as ks ∧ ks.length < 63 ∧ (ks.Pairwise fun k k'=>k.c ≠ k'.c) ∧ (∀ κ ∈ ks,κ.c ≠ c) ∧ (∀ κ ∈ ks,κ.es.length ≤ 12) ∧ (SqT K H e (es.map V.int) ∨ SqL K H e (es.map V.int)) ∧ es.length < 64 ∧ H fl = some (.lst (C2 ws)) ∧ k0 ∈ ws ∧ es'.Perm es ∧ es'.Pairwise (· ≤ ·) ∧ ks'.Perm (ks ++ [⟨c,es',k0⟩]) ∧ (ks'.Pairwise fun k k'=>k.c < k'.c) ∧ ∀ H',j5 H H' → Q (.bl true) H'
section
variable {P:Program} {w:World} {K:PySem.W.Frag} {mg:Str → Option Value} {base:Heap} {C_Rule C_Round C_HallError C_NoHall C_NoCalls C_NoLine C_NoRule C_Idle C_Busy C_Engaged C_NoMove:Addr}
theorem P8:FnScope ["_law_found","_law_calls_here","_law_caller_here","_law_ends_here","_law_free","_law_some","_law_k"] ["_law_found","_law_calls_here","_law_caller_here","_law_ends_here","_law_free"] (i7 (top 56)):=⟨rfl,rfl,rfl,by decide +kernel,rfl,by decide +kernel,by decide +kernel⟩
theorem aD7 (T:Txt K mg) (C__law_alike:Callee P w K mg base 4 "_law_alike" ["_law_found","_law_due_here"] (af1 3)) (D:Def K mg "_law_right" (top 56) ["_law_found","_law_calls_here","_law_caller_here","_law_ends_here","_law_free"]):Callee P w K mg base 5 "_law_right" ["_law_found","_law_calls_here","_law_caller_here","_law_ends_here","_law_free"] (an0 K):=by
 refine D.ok P8 (fun vs H Q E h=>?_) (fun f cdv A outer s H vs Q E hr h=>?_)
 ·obtain ⟨r,l,e,fl,bs,as,ks,ks',c,es,es',ws,k0,rfl,_⟩:=h
  rfl
 obtain ⟨r,l,e,fl,bs,as,ks,ks',c,es,es',ws,k0,rfl,er,hB,el,hC,h63,nc,no,few,he,h64,ef,hk0,pe,se,pk,sk,q⟩:=h
 have ln:as.length = ks.length:=Paired.length hC
 have lb:bs.length = ks'.length:=Paired.length hB
 refine ⟨_,(i4 (m8 (y0 (m9 K (i8 (j6 K) rfl T.m_isinstance boot_isinstance (b8 (pv 0) (b8 (n6 (v:=.ty "list") rfl T.m_list boot_list rfl) d9 b9) b9)) (fun _=>rfl))) (i5 (i9 z5)) j1)
  (i4 (j7 (i:=5) P8.nd rfl (Or.inl rfl) (B1 (M1 K) rfl T.m_tuple boot_tuple (b8 (i8 (N2 K) rfl T.m_sorted boot_sorted (b8 (pv 3) d9 b9)) d9 r9)))
  (i4 (A3 PassesOwn.never rfl (y9 K (pv 4)) (o5 (i:=6) P8.nd rfl (Or.inl rfl))
  (i5 (m8 (m9 K (r6 C__law_alike hr rfl (b8 (pv 0) (b8 (i8 (Q1 K) rfl T.m_sorted boot_sorted (b8 (j2 O8 (pv 1) (q9 (b8 (C7 (b8 (pv 2) (b8 (pv 5) (b8 (pv 6) d9 b9) b9) b9)) d9 O4))) d9 O9)) d9 r9) b9)) (fun _=>rfl)) (i5 (i9 z5)) j1)))
  (i5 (i9 z5))))),?_⟩
 refine ⟨_,rfl,_,_,_,true,rfl,.lst er,P6,true,rfl,z6 ?_⟩
 refine ⟨_,rfl,e,es,rfl,he,h64,fun es2 pm srt sl hsl=>?_⟩
 obtain rfl:es2 = es':=aS3 (pm.trans pe.symm) srt se
 have s1:=i6 hsl (.lst (es2.map V.int))
 have e1:=i3 (H:=H) (a:=sl) (o:=.lst (es2.map V.int))
 generalize upd H sl (.lst (es2.map V.int)) = H1 at s1 e1 ⊢
 refine ⟨sl,_,rfl,.inl ⟨SqL.of e1,fun t ht=>?_⟩⟩
 have s2:=s1.trans (i6 ht (.tup (es2.map V.int)))
 have e2:=i3 (H:=H1) (a:=t) (o:=.tup (es2.map V.int))
 generalize upd H1 t (.tup (es2.map V.int)) = H2 at s2 e2 ⊢
 have f2:=s2 _ _ ef
 refine ⟨_,rfl,fl,rfl,⟨_,SqL.of f2⟩,?_⟩
 refine D8 (xs:=C2 ws) (fun i σ G=>j5 H2 G ∧ (∀ k ∈ ws.take i,k ≠ k0) ∧ ∃ v6,σ = [some (.ref r),some (.ref l),some (.int c),some (.ref e),some (.ref fl),some (.ref t),v6])
  ⟨j5.refl _,(fun k z=>nomatch z),none,rfl⟩ (fun i σ G _ g=>SqL.of (g.1 _ _ f2)) ?_ ?_
 ·rintro i x σ G hx ⟨s3,low,v6,rfl⟩
  unfold C2 at hx
  rw [List.getElem?_map] at hx
  obtain ⟨k,hk,rfl⟩:=Option.map_eq_some_iff.mp hx
  have s23:=s2.trans s3
  refine ⟨_,rfl,_,rfl,_,rfl,_,rfl,_,rfl,(by show 3 ≤ sizeLine; decide),fun p hp=>?_⟩
  have s4':=i6 hp (.tup [.int c,.ref t,.int (k:Nat)])
  have s4:=s23.trans s4'
  have sG4:=s3.trans s4'
  have c4:B4 (upd G p (.tup [.int c,.ref t,.int (k:Nat)])) p ⟨c,es2,(k:Nat)⟩:=⟨t,s4' _ _ (s3 _ _ e2),i3⟩
  generalize upd G p (.tup [.int c,.ref t,.int (k:Nat)]) = G4 at s4 sG4 c4 ⊢
  refine ⟨(by show 1 ≤ sizeLine; decide),fun nl hnl=>?_⟩
  have s5':=i6 hnl (.lst [.ref p])
  have s5:=s4.trans s5'
  have sG5:=sG4.trans s5'
  have e5:=i3 (H:=G4) (a:=nl) (o:=.lst [.ref p])
  have c5:=B4.same (fun b xs z=>s5' _ _ z) c4
  generalize upd G4 nl (.lst [.ref p]) = G5 at s5 sG5 e5 c5 ⊢
  refine ⟨l,nl,_,_,rfl,rfl,s5 _ _ el,e5,Nat.le_of_lt (n5 (by rw [List.length_map]; show as.length + 1 ≤ 1000; lia)),fun cl hcl=>?_⟩
  have s6':=i6 hcl (.lst (as.map V.ref ++ [.ref p]))
  have s6:=s5.trans s6'
  have sG6:=sG5.trans s6'
  have e6:upd G5 cl (.lst (as.map V.ref ++ [.ref p])) cl = some (.lst ((as ++ [p]).map V.ref)):=by rw [i3,List.map_append]; rfl
  have c6:=B4.same (fun b xs z=>s6' _ _ z) c5
  generalize upd G5 cl (.lst (as.map V.ref ++ [.ref p])) = G6 at s6 sG6 e6 c6 ⊢
  have hC6:m4 G6 (as ++ [p]) (ks ++ [⟨c,es2,(k:Nat)⟩]):=Paired.snoc (m4.same (fun b xs z=>s6 _ _ z) hC) c6
  dsimp only [be5]
  refine Y9 e6 hC6 (by rw [List.length_append,List.length_singleton]; lia) (List.pairwise_append.mpr ⟨nc,List.pairwise_singleton ..,fun k1 h1 k2 h2=>?_⟩) fun l2 as' ks'' h1 h2 h3 h4=>?_
  ·rw [List.mem_singleton.mp h2]
   exact no k1 h1
  ·have e':=aT8 no pk sk h3 h4
   have s7':=i6 h1 (.lst (as'.map V.ref))
   have s7:=s6.trans s7'
   have sG7:=sG6.trans s7'
   have hB7:m4 (upd G6 l2 (.lst (as'.map V.ref))) bs ks':=m4.same (fun b xs z=>s7 _ _ z) hB
   have hA7:m4 (upd G6 l2 (.lst (as'.map V.ref))) as' ks'':=m4.same (fun b xs z=>s7' _ _ z) h2
   have e7:=i3 (H:=G6) (a:=l2) (o:=.lst (as'.map V.ref))
   generalize upd G6 l2 (.lst (as'.map V.ref)) = G7 at s7 sG7 hB7 hA7 e7 ⊢
   have few':∀ κ ∈ ks',κ.es.length ≤ 1000:=fun κ hκ=>by
    rcases List.mem_append.mp (pk.mem_iff.mp hκ) with z | z
    ·have:=few κ z
     lia
    ·rw [List.mem_singleton.mp z]
     have:=pe.length_eq
     show es2.length ≤ 1000
     lia
   have kl:bs.length ≤ 1000:=by
    rw [lb,pk.length_eq,List.length_append,List.length_singleton]
    lia
   refine ⟨.ref r,.ref l2,rfl,.inr ⟨r,l2,_,_,rfl,rfl,.inl ⟨s7 _ _ er,e7⟩,ac9 hB7 (e' ▸ hA7) few',by rw [List.length_map]; exact kl⟩,fun b hb=>⟨b,rfl,?_⟩⟩
   cases b with
   | true=>exact C3 (q _ s7)
   | false =>
    refine z6 ⟨sG7,fun k' hk'=>?_,_,rfl⟩
    rw [List.take_add_one,hk] at hk'
    rcases List.mem_append.mp hk' with z | z
    ·exact low k' z
    ·rw [List.mem_singleton.mp z]
     intro y
     subst y
     obtain rfl:ks'' = ks':=al7 (h3.trans pk.symm) h4 sk
     exact absurd (hb (.inr ⟨r,l2,_,_,rfl,rfl,.inl ⟨s7 _ _ er,e7⟩,ad1 hB7 hA7 few',by rw [List.length_map]; exact kl⟩)) (by decide)
 ·rintro σ G ⟨s3,low,v6,rfl⟩
  unfold C2 at low
  rw [List.length_map,List.take_length] at low
  exact absurd rfl (low k0 hk0)
end
theorem aq0 {i j:Int} {A B:Prop} (h:i ≠ j) (b:B):if decide (V.int i = V.int j) = true then A else B:=by
 rw [if_neg fun z=>h (V.int.inj (of_decide_eq_true z))]
 exact b
theorem ah0 {i:Int} {A B:Prop} (a:A):if decide (V.int i = V.int i) = true then A else B:=by
 rw [if_pos (decide_eq_true rfl)]
 exact a
theorem X4 {H:Hp}:∀ {rs1 rs2:List Addr} {rows:List (List Int)},x5 H rs1 rows → x5 H rs2 rows → (∀ row ∈ rows,row.length ≤ 1000) → Paired (D0 H 1) (rs1.map V.ref) (rs2.map V.ref)
 | _,_,_,.nil,.nil,_=>.nil
 | _,_,_,.cons (a:=a) (b:=row) h t,.cons h' t',hl=>.cons (.inr ⟨_,_,_,_,rfl,rfl,.inl ⟨h,h'⟩,R7 row,by rw [List.length_map]; exact hl row (List.mem_cons_self ..)⟩) (X4 t t' fun r hr=>hl r (List.mem_cons_of_mem _ hr))
theorem az6 {b:Bool} {H:Hp} {tt:TS} {D:Ends} {σ:L2.St} (R:Hp → Prop) (hr:∀ G,R G → D.nx σ G) (h1:b = true → (∀ G,R G → D.nx σ G) → tt D σ H) (h2:b = false → R H):(fun (b:Bool) H1=>if b = true then tt D σ H1 else aS0 D σ H1) b H:=by
 cases b
 ·exact hr H (h2 rfl)
 ·exact h1 rfl hr
inductive PaperIs (CN CB CE:Addr) (H:Hp) (ea t:Addr) (N:Addr → Prop):Prop where
 | wrong (e:H ea = some (Q9 ea CN none)) (d:H t = some (.tup [.int 0,.non,.non])):PaperIs CN CB CE H ea t N
 | busy (dx:Addr) (w:Int) (e:H ea = some (Q9 ea CB (some dx))) (x:H dx = some (XdO dx [("who",.int w)])) (d:H t = some (.tup [.int 1,.int w,.non])):PaperIs CN CB CE H ea t N
 | eng (dx nh kf:Addr) (nas rs:List Addr) (nlv lv:V) (rows:List (List Int)) (lo:Option (List Int)) (e:H ea = some (Q9 ea CE (some dx))) (g:EngAt H dx rows lo nh nas nlv) (ne:rows ≠ []) (few:rows.length ≤ 64) (fe:∀ row ∈ rows,row.length ≤ 99) (fl:∀ ms,lo = some ms → ms.length ≤ 99) (d:H t = some (.tup [.int 2,.ref kf,lv])) (ek:H kf = some (.lst (rs.map V.ref))) (er:x5 H rs rows) (el:match (generalizing:=false) lo with | none=>lv = .non | some ms=>∃ m,lv = .ref m ∧ H m = some (.lst (ms.map V.int))) (d1:∀ a ∈ nas,N a ∧ ¬ a ∈ rs ∧ a ≠ kf) (d2:∀ m,nlv = .ref m → N m ∧ ¬ m ∈ rs ∧ m ≠ kf):PaperIs CN CB CE H ea t N
def aJ5 (CN CB CE:Addr):Sp:=fun vs H Q _=>∃ (ea t:Addr) (N:Addr → Prop),vs = [.ref ea,.ref t] ∧ PaperIs CN CB CE H ea t N ∧ ∀ H',(∀ b u,H b = some u → ¬ N b → H' b = some u) → Q (.bl true) H'
section
variable {P:Program} {w:World} {K:PySem.W.Frag} {mg:Str → Option Value} {base:Heap} {C_Rule C_Round C_HallError C_NoHall C_NoCalls C_NoLine C_NoRule C_Idle C_Busy C_Engaged C_NoMove:Addr}
theorem ax9 (Z:TxtC K mg C_Rule C_Round C_HallError C_NoHall C_NoCalls C_NoLine C_NoRule C_Idle C_Busy C_Engaged C_NoMove):KindOk K C_NoLine C_HallError [C_NoLine,C_Busy,C_Engaged,C_Idle,C_NoRule,C_NoMove,C_NoHall,C_NoCalls] [true,false,false,false,false,false,false,false] 0 :=
 ⟨Z.x_NoLine,Z.kx_NoLine_HallError,Z.kv_NoLine,.cons Z.kx_NoLine_NoLine (.cons Z.kx_NoLine_Busy (.cons Z.kx_NoLine_Engaged (.cons Z.kx_NoLine_Idle (.cons Z.kx_NoLine_NoRule (.cons Z.kx_NoLine_NoMove (.cons Z.kx_NoLine_NoHall (.cons Z.kx_NoLine_NoCalls .nil))))))),by decide,rfl,(fun m hm=>absurd hm (Nat.not_lt_zero _)),by decide⟩
theorem aL7 (Z:TxtC K mg C_Rule C_Round C_HallError C_NoHall C_NoCalls C_NoLine C_NoRule C_Idle C_Busy C_Engaged C_NoMove):KindOk K C_Busy C_HallError [C_NoLine,C_Busy,C_Engaged,C_Idle,C_NoRule,C_NoMove,C_NoHall,C_NoCalls] [false,true,false,false,false,false,false,false] 1 :=
 ⟨Z.x_Busy,Z.kx_Busy_HallError,Z.kv_Busy,.cons Z.kx_Busy_NoLine (.cons Z.kx_Busy_Busy (.cons Z.kx_Busy_Engaged (.cons Z.kx_Busy_Idle (.cons Z.kx_Busy_NoRule (.cons Z.kx_Busy_NoMove (.cons Z.kx_Busy_NoHall (.cons Z.kx_Busy_NoCalls .nil))))))),by decide,rfl,(fun m hm=>by match m,hm with | 0,_=>rfl),by decide⟩
theorem as8 (Z:TxtC K mg C_Rule C_Round C_HallError C_NoHall C_NoCalls C_NoLine C_NoRule C_Idle C_Busy C_Engaged C_NoMove):KindOk K C_Engaged C_HallError [C_NoLine,C_Busy,C_Engaged,C_Idle,C_NoRule,C_NoMove,C_NoHall,C_NoCalls] [false,false,true,false,false,false,false,false] 2 :=
 ⟨Z.x_Engaged,Z.kx_Engaged_HallError,Z.kv_Engaged,.cons Z.kx_Engaged_NoLine (.cons Z.kx_Engaged_Busy (.cons Z.kx_Engaged_Engaged (.cons Z.kx_Engaged_Idle (.cons Z.kx_Engaged_NoRule (.cons Z.kx_Engaged_NoMove (.cons Z.kx_Engaged_NoHall (.cons Z.kx_Engaged_NoCalls .nil))))))),by decide,rfl,(fun m hm=>by match m,hm with | 0,_=>rfl | 1,_=>rfl),by decide⟩
theorem ak3:FnScope ["_law_e","_law_due_here"] ["_law_e","_law_due_here"] (i7 (top 55)):=⟨rfl,rfl,rfl,by decide +kernel,rfl,by decide +kernel,by decide +kernel⟩
theorem aU7 (T:Txt K mg) (Z:TxtC K mg C_Rule C_Round C_HallError C_NoHall C_NoCalls C_NoLine C_NoRule C_Idle C_Busy C_Engaged C_NoMove) (C__law_kind:Callee P w K mg base 1 "_law_kind" ["_law_e"] (aV1 K C_HallError [C_NoLine,C_Busy,C_Engaged,C_Idle,C_NoRule,C_NoMove,C_NoHall,C_NoCalls])) (C__law_alike:Callee P w K mg base 3 "_law_alike" ["_law_found","_law_due_here"] (ae8 2)) (D:Def K mg "_law_paper" (top 55) ["_law_e","_law_due_here"]):Callee P w K mg base 4 "_law_paper" ["_law_e","_law_due_here"] (aJ5 C_NoLine C_Busy C_Engaged):=by
 refine D.ok ak3 (fun vs H Q E h=>?_) (fun f cdv A outer s H vs Q E hr h=>?_)
 ·obtain ⟨ea,t,N,rfl,_⟩:=h
  rfl
 obtain ⟨ea,t,N,rfl,pi,q⟩:=h
 refine ⟨_,(i4 (m8 (j8 al9 (r6 C__law_kind hr rfl (b8 (pv 0) d9 b9)) (j3 (j0 K) (pv 1) i0 (fun _ _=>rfl)) (m7 _)) (i5 (i9 z5)) j1)
  (i4 (m8 (j8 C4 (j3 (j0 K) (pv 1) i0 (fun _ _=>rfl)) i0 (m7 _)) (i5 (i9 (r6 C__law_alike hr rfl (b8 (ai2 K (pv 0)) (b8 (j3 (j0 K) (pv 1) i0 (fun _ _=>rfl)) d9 x6) ae7)))) j1)
  (i4 (m8 (j8 C4 (j3 (j0 K) (pv 1) i0 (fun _ _=>rfl)) i0 (m7 _)) (i4 (m8 (PW.pt (E7 (y0 (m9 K (r6 C__law_alike hr rfl (b8 (ai2 K (pv 0)) (b8 (j3 (j0 K) (pv 1) i0 (fun _ _=>rfl)) d9 x6) ae7)) (fun _=>rfl))) (D6 (y0 (m9 K (r6 C__law_alike hr rfl (b8 (ai2 K (pv 0)) (b8 (j3 (j0 K) (pv 1) i0 (fun _ _=>rfl)) d9 x6) ae7)) (fun _=>rfl)))))) (i5 (i9 z5)) j1)
  (i4 (m8 (j8 V4 (ai2 K (pv 0)) y6 (m7 _)) (i5 (D2 (K8 K PySem.F.plainAttrs_list PySem.F.slot_list_append PySem.F.type_list_append B2 (ai2 K (pv 0)) (b8 (ao7 ab1 i0) d9 ax8)))) j1)
  (i4 (D2 (K8 K PySem.F.plainAttrs_list PySem.F.slot_list_append PySem.F.type_list_append B2 (j3 ai9 (ai2 K (pv 0)) i0 (fun _ _=>rfl)) (b8 (ao7 ab1 i0) d9 ax8)))
  (i5 (i9 (r6 C__law_alike hr rfl (b8 (ai2 K (pv 0)) (b8 (j2 O8 (q9 (b8 (j2 O8 (j3 (n9 K) (j3 (j0 K) (pv 1) i0 (fun _ _=>rfl)) i0 (fun _ _=>rfl)) (q9 (b8 (ao7 ab1 i0) d9 ax8))) d9 O9)) (M2 (O0 K) (j3 (j0 K) (pv 1) i0 (fun _ _=>rfl)) (N6 i0) Q6)) d9 O9) ae7))))))) j1)
  (i5 (i9 z5))))),?_⟩
 cases pi with
 | wrong he ht =>
  refine ⟨_,rfl,ea,C_NoLine,none,_,0,rfl,he,ax9 Z,fun H1 s1=>?_⟩
  have ht1:=s1 _ _ ht
  refine ⟨_,rfl,t,_,_,_,rfl,rfl,SqT.of ht1,rfl,rfl,_,rfl,ax3 (by simp) ?_⟩
  refine ⟨_,rfl,t,_,_,_,rfl,rfl,SqT.of ht1,rfl,rfl,_,rfl,aq0 (by decide) ?_⟩
  refine ⟨_,rfl,t,_,_,_,rfl,rfl,SqT.of ht1,rfl,rfl,_,rfl,aq0 (by decide) ?_⟩
  exact q _ fun b u z _=>s1 _ _ z
 | busy dx w he hx ht =>
  refine ⟨_,rfl,ea,C_Busy,some dx,_,1,rfl,he,aL7 Z,fun H1 s1=>?_⟩
  have ht1:=s1 _ _ ht
  refine ⟨_,rfl,t,_,_,_,rfl,rfl,SqT.of ht1,rfl,rfl,_,rfl,ax3 (by simp) ?_⟩
  refine ⟨_,rfl,t,_,_,_,rfl,rfl,SqT.of ht1,rfl,rfl,_,rfl,ah0 ?_⟩
  refine ⟨_,rfl,ea,C_Busy,dx,_,.int w,rfl,s1 _ _ he,s1 _ _ hx,Z.x_Busy,Z.n_Busy,Z.f_Busy_who,rfl,_,rfl,t,_,_,_,rfl,rfl,SqT.of ht1,rfl,_,_,rfl,P0.at (.inr ⟨w,rfl,rfl⟩),q _ fun b u z _=>s1 _ _ z⟩
 | eng dx nh kf nas rs nlv lv rows lo he g ne few fe fl ht ek er el d1 d2 =>
  refine ⟨_,rfl,ea,C_Engaged,some dx,_,2,rfl,he,as8 Z,fun H1 s1=>?_⟩
  have ht1:=s1 _ _ ht
  have he1:=s1 _ _ he
  have gd:=s1 _ _ g.d
  have gh:=s1 _ _ g.h
  have gr:x5 H1 nas rows:=Paired.mapP g.rows fun a r z=>s1 _ _ z
  have ek1:=s1 _ _ ek
  have er1:x5 H1 rs rows:=Paired.mapP er fun a r z=>s1 _ _ z
  have ln:nas.length = rows.length:=Paired.length gr
  have l99:∀ row ∈ rows,row.length ≤ 1000:=fun row hr=>Nat.le_trans (fe row hr) (by decide)
  refine ⟨_,rfl,t,_,_,_,rfl,rfl,SqT.of ht1,rfl,rfl,_,rfl,ax3 (by simp) ?_⟩
  refine ⟨_,rfl,t,_,_,_,rfl,rfl,SqT.of ht1,rfl,rfl,_,rfl,aq0 (by decide) ?_⟩
  refine ⟨_,rfl,t,_,_,_,rfl,rfl,SqT.of ht1,rfl,rfl,_,rfl,ah0 ?_⟩
  refine ⟨_,rfl,ea,C_Engaged,dx,_,.ref nh,rfl,he1,gd,Z.x_Engaged,Z.n_Engaged,Z.f_Engaged_holds,rfl,_,rfl,t,_,_,_,rfl,rfl,SqT.of ht1,rfl,_,_,rfl,.inr ⟨nh,kf,_,_,rfl,rfl,.inl ⟨gh,ek1⟩,X4 gr er1 l99,by rw [List.length_map]; lia⟩,_,rfl,z6 ?_⟩
  have alL:D0 H1 2 nlv lv:=by
   have gl:=g.l
   cases lo with
   | none =>
    have e1:nlv = .non:=gl
    have e2:lv = .non:=el
    rw [e1,e2]
    exact P0.at (.inl ⟨rfl,rfl⟩)
   | some ms =>
    obtain ⟨m,rfl,_,_,em⟩:=gl
    obtain ⟨m',rfl,em'⟩:=el
    exact .inr ⟨m,m',_,_,rfl,rfl,.inl ⟨s1 _ _ em,s1 _ _ em'⟩,R7 ms,by rw [List.length_map]; exact Nat.le_trans (fl ms rfl) (by decide)⟩
  refine ⟨_,rfl,ea,C_Engaged,dx,_,nlv,rfl,he1,gd,Z.x_Engaged,Z.n_Engaged,Z.f_Engaged_least,rfl,_,rfl,t,_,_,_,rfl,rfl,SqT.of ht1,rfl,_,_,rfl,alL,_,rfl,z6 ?_⟩
  refine ⟨_,rfl,ea,C_Engaged,dx,_,nlv,rfl,he1,gd,Z.x_Engaged,Z.n_Engaged,Z.f_Engaged_least,rfl,rfl,_,rfl,?_⟩
  refine az6 (fun G=>G ea = some (Q9 ea C_Engaged (some dx)) ∧ G dx = some (XdO dx [("least",nlv),("holds",.ref nh)]) ∧ G nh = some (.lst (nas.map V.ref)) ∧ x5 G nas rows ∧ G t = some (.tup [.int 2,.ref kf,lv]) ∧ G kf = some (.lst (rs.map V.ref)) ∧ x5 G rs rows ∧ ∀ b u,H b = some u → ¬ N b → G b = some u) ?_ ?_ ?_
  ·rintro G ⟨he2,gd2,gh2,gr2,ht2,ek2,er2,st⟩
   obtain ⟨row0,rows',rfl⟩:=List.exists_cons_of_ne_nil ne
   cases gr2 with
   | cons ea0 gr' =>
   cases er2 with
   | cons er0 er' =>
   rename_i a0 nas' r0 rs'
   have nd0:=(List.nodup_cons.mp g.nd).1
   obtain ⟨x1,x2,x3⟩:=d1 a0 (List.mem_cons_self ..)
   have f0:=fe row0 (List.mem_cons_self ..)
   have at0:∀ (b:Addr) (bs:List Addr),atI ((b :: bs).map V.ref) 0 = some (.ref b):=fun b bs=>(show atI _ ((0:Nat):Int) = _ from z8 rfl)
   refine ⟨_,rfl,ea,C_Engaged,dx,_,.ref nh,rfl,he2,gd2,Z.x_Engaged,Z.n_Engaged,Z.f_Engaged_holds,rfl,.inl ⟨nh,_,_,_,rfl,rfl,SqL.of gh2,at0 _ _,.inl ⟨rfl,_,SqL.of ea0⟩,_,rfl,a0,_,_,rfl,rfl,ea0,n5 (by rw [List.length_map]; lia),?_⟩⟩
   have up:∀ b u,b ≠ a0 → G b = some u → upd G a0 (.lst (row0.map V.int ++ [.int (-2)])) b = some u:=fun b u nb z=>by rw [j4 nb]; exact z
   have nm:∀ {b:Addr} {u:HO},G b = some u → u ≠ .lst (row0.map V.int) → b ≠ a0:=fun z nz y=>by rw [y,ea0] at z; exact nz (Option.some.inj z).symm
   have he3:=up _ _ (nm he2 (fun z=>nomatch z)) he2
   have gd3:=up _ _ (nm gd2 (fun z=>nomatch z)) gd2
   have ht3:=up _ _ (nm ht2 (fun z=>nomatch z)) ht2
   have gh3:=up _ _ (nm gh2 (fun z=>by
    have:=HO.lst.inj z
    cases row0 with
    | nil=>cases this
    | cons _ _=>simp at this)) gh2
   have ek3:=up _ _ (Ne.symm x3) ek2
   have er03:=up _ _ (fun y=>x2 (y ▸ List.mem_cons_self ..)) er0
   have er3:x5 (upd G a0 (.lst (row0.map V.int ++ [.int (-2)]))) rs' rows':=B7 er' fun a r ha z=>up _ _ (fun y=>x2 (y ▸ List.mem_cons_of_mem _ ha)) z
   have gr3:x5 (upd G a0 (.lst (row0.map V.int ++ [.int (-2)]))) nas' rows':=B7 gr' fun a r ha z=>up _ _ (fun y=>nd0 (y ▸ ha)) z
   have ea3:upd G a0 (.lst (row0.map V.int ++ [.int (-2)])) a0 = some (.lst ((row0 ++ [-2]).map V.int)):=by rw [i3,List.map_append]; rfl
   have st3:∀ b u,H b = some u → ¬ N b → upd G a0 (.lst (row0.map V.int ++ [.int (-2)])) b = some u:=fun b u z nb=>up _ _ (fun y=>nb (y ▸ x1)) (st b u z nb)
   generalize upd G a0 (.lst (row0.map V.int ++ [.int (-2)])) = G3 at he3 gd3 ht3 gh3 ek3 er03 er3 gr3 ea3 st3 ⊢
   refine ⟨_,rfl,ea,C_Engaged,dx,_,.ref nh,rfl,he3,gd3,Z.x_Engaged,Z.n_Engaged,Z.f_Engaged_holds,rfl,?_⟩
   refine ⟨_,rfl,t,_,_,_,rfl,rfl,SqT.of ht3,rfl,kf,_,_,_,rfl,rfl,SqL.of ek3,at0 _ _,_,rfl,(by show 1 ≤ sizeLine; decide),fun p1 hp1=>?_⟩
   have u1:=i6 hp1 (.lst [.int (-2)])
   have w1:=i3 (H:=G3) (a:=p1) (o:=.lst [.int (-2)])
   generalize upd G3 p1 (.lst [.int (-2)]) = G4 at u1 w1 ⊢
   refine ⟨r0,p1,_,_,rfl,rfl,u1 _ _ er03,w1,Nat.le_of_lt (n5 (by rw [List.length_map]; show row0.length + 1 ≤ 1000; lia)),fun p2 hp2=>?_⟩
   have u2':=i6 hp2 (.lst (row0.map V.int ++ [.int (-2)]))
   have u2:=u1.trans u2'
   have w2:upd G4 p2 (.lst (row0.map V.int ++ [.int (-2)])) p2 = some (.lst ((row0 ++ [-2]).map V.int)):=by rw [i3,List.map_append]; rfl
   generalize upd G4 p2 (.lst (row0.map V.int ++ [.int (-2)])) = G5 at u2 w2 ⊢
   refine ⟨(by show 1 ≤ sizeLine; decide),fun p3 hp3=>?_⟩
   have u3':=i6 hp3 (.lst [.ref p2])
   have u3:=u2.trans u3'
   have w3:=i3 (H:=G5) (a:=p3) (o:=.lst [.ref p2])
   have w23:=u3' _ _ w2
   generalize upd G5 p3 (.lst [.ref p2]) = G6 at u3 w3 w23 ⊢
   refine ⟨_,rfl,t,_,_,_,rfl,rfl,SqT.of (u3 _ _ ht3),rfl,_,rfl,kf,_,rfl,SqL.of (u3 _ _ ek3),fun p4 hp4=>?_⟩
   have cut:S4 ((r0 :: rs').map V.ref) (some 1) none = rs'.map V.ref:=(aV6 _ 1).trans rfl
   rw [cut]
   have u4':=i6 hp4 (.lst (rs'.map V.ref))
   have u4:=u3.trans u4'
   have w4:=i3 (H:=G6) (a:=p4) (o:=.lst (rs'.map V.ref))
   have w34:=u4' _ _ w3
   have w24:=u4' _ _ w23
   generalize upd G6 p4 (.lst (rs'.map V.ref)) = G7 at u4 w4 w34 w24 ⊢
   have lrs:rs'.length = rows'.length:=Paired.length er'
   have few':rows'.length + 1 ≤ 64:=few
   refine ⟨p3,p4,_,_,rfl,rfl,w34,w4,Nat.le_of_lt (n5 (by rw [List.length_map]; show 1 + rs'.length ≤ 1000; lia)),fun p5 hp5=>?_⟩
   have u5':=i6 hp5 (.lst ([.ref p2] ++ rs'.map V.ref))
   have u5:=u4.trans u5'
   have w5:upd G7 p5 (.lst ([.ref p2] ++ rs'.map V.ref)) p5 = some (.lst ((p2 :: rs').map V.ref)):=i3
   have w25:=u5' _ _ w24
   generalize upd G7 p5 (.lst ([.ref p2] ++ rs'.map V.ref)) = G8 at u5 w5 w25 ⊢
   have R1:x5 G8 (a0 :: nas') ((row0 ++ [-2]) :: rows'):=.cons (u5 _ _ ea3) (Paired.mapP gr3 fun a r z=>u5 _ _ z)
   have R2:x5 G8 (p2 :: rs') ((row0 ++ [-2]) :: rows'):=.cons w25 (Paired.mapP er3 fun a r z=>u5 _ _ z)
   refine ⟨_,_,rfl,.inr ⟨nh,p5,_,_,rfl,rfl,.inl ⟨u5 _ _ gh3,w5⟩,X4 R1 R2 (fun row hr=>?_),?_⟩,q _ fun b u z nb=>u5 _ _ (st3 b u z nb)⟩
   ·rcases List.mem_cons.mp hr with rfl | z
    ·rw [List.length_append,List.length_singleton]
     lia
    ·exact l99 row (List.mem_cons_of_mem _ z)
   ·have:nas'.length = rows'.length:=Paired.length gr'
    rw [List.length_map,List.length_cons]
    lia
  ·intro hb last
   have gl:=g.l
   cases lo with
   | none =>
    have e1:nlv = .non:=gl
    rw [e1] at hb
    cases hb
   | some ms =>
    obtain ⟨m,rfl,mn,mh,em⟩:=gl
    obtain ⟨n1,n2,n3⟩:=d2 m rfl
    have em1:=s1 _ _ em
    have up:∀ b u,b ≠ m → H1 b = some u → upd H1 m (.lst (ms.map V.int ++ [.int (-1)])) b = some u:=fun b u nb z=>by rw [j4 nb]; exact z
    have nm:∀ {b:Addr} {u:HO},H1 b = some u → u ≠ .lst (ms.map V.int) → b ≠ m:=fun z nz y=>by rw [y,em1] at z; exact nz (Option.some.inj z).symm
    refine ⟨_,rfl,ea,C_Engaged,dx,_,.ref m,rfl,he1,gd,Z.x_Engaged,Z.n_Engaged,Z.f_Engaged_least,rfl,.inl ⟨rfl,_,SqL.of em1⟩,_,rfl,m,_,_,rfl,rfl,em1,n5 (by rw [List.length_map]; have:=fl ms rfl; lia),?_⟩
    refine last _ ⟨up _ _ (nm he1 (fun z=>nomatch z)) he1,up _ _ (nm gd (fun z=>nomatch z)) gd,up _ _ (Ne.symm mh) gh,B7 gr fun a r ha z=>up _ _ (fun y=>mn (y ▸ ha)) z,up _ _ (nm ht1 (fun z=>nomatch z)) ht1,up _ _ (Ne.symm n3) ek1,B7 er1 fun a r ha z=>up _ _ (fun y=>n2 (y ▸ ha)) z,fun b u z nb=>up _ _ (fun y=>nb (y ▸ n1)) (s1 _ _ z)⟩
  ·intro hb
   exact ⟨he1,gd,gh,gr,ht1,ek1,er1,fun b u z _=>s1 _ _ z⟩
end
theorem X7.end {h:Hall} {k k':Call} (f:X7 h k k') {e:Int} (h1:e ∈ k.es):¬ e ∈ k'.es:=fun h2=>f (aP0 e) (V6.mpr (.inr (.inr (.inr ⟨e,h1,rfl⟩)))) (V6.mpr (.inr (.inr (.inr ⟨e,h2,rfl⟩))))
theorem aM0 {h:Hall} {ks:List Call} (fr:ks.Pairwise (X7 h)) {k k':Call} {e:Int} (hk:k ∈ ks) (hk':k' ∈ ks) (h1:e ∈ k.es) (h2:e ∈ k'.es):k = k':=by
 obtain ⟨i,hi,ei⟩:=List.getElem_of_mem hk
 obtain ⟨j,hj,ej⟩:=List.getElem_of_mem hk'
 rcases Nat.lt_trichotomy i j with z | z | z
 ·have:=(List.pairwise_iff_getElem.mp fr) i j hi hj z
  rw [ei,ej] at this
  exact absurd h2 (this.end h1)
 ·subst z
  exact ei.symm.trans ej
 ·have:=(List.pairwise_iff_getElem.mp fr) j i hj hi z
  rw [ei,ej] at this
  exact absurd h1 (this.end h2)
theorem O2.one {h:Hall} {ks:List Call} (fr:ks.Pairwise (X7 h)) {c:Int} {es:List Int} {w w':Int} (a:O2 ks c es w) (b:O2 ks c es w'):w = w':=by
 rcases a with ⟨⟨k,hk,ek⟩,rfl⟩ | ⟨no,e,he,⟨k,hk,ek,rfl⟩,low⟩
 ·rcases b with ⟨_,rfl⟩ | ⟨no,_⟩
  ·rfl
  ·exact absurd ek (no k hk)
 ·rcases b with ⟨⟨k',hk',ek'⟩,rfl⟩ | ⟨_,e',he',⟨k',hk',ek',rfl⟩,low'⟩
  ·exact absurd ek' (no k' hk')
  ·have ee:e = e':=by
    rcases Int.lt_trichotomy e e' with z | z | z
    ·exact absurd ek (low' e he z k hk)
    ·exact z
    ·exact absurd ek' (low e' he' z k' hk')
   subst ee
   rw [aM0 fr hk hk' ek ek']
theorem O2.not_idle {ks:List Call} {c:Int} {es:List Int} {w:Int} (a:O2 ks c es w) (i:Y8 ks c es):False:=by
 rcases a with ⟨⟨k,hk,ek⟩,_⟩ | ⟨_,e,he,⟨k,hk,ek,_⟩,_⟩
 ·exact i.1 k hk ek
 ·exact i.2 e he k hk ek
theorem U0.one {h:Hall} {ks:List Call} {c:Int} {es:List Int} {sh:Int} {o o':Option (List Int)} (a:U0 h ks c es sh o) (b:U0 h ks c es sh o'):o = o':=by
 cases o with
 | none =>
  cases o' with
  | none=>rfl
  | some ms =>
   obtain ⟨k,lk,_⟩:=b
   have a':z7 h sh = []:=a
   have:=lk.1
   rw [a'] at this
   cases this
 | some ms =>
  obtain ⟨k,lk,rfl⟩:=a
  cases o' with
  | none =>
   have b':z7 h sh = []:=b
   have:=lk.1
   rw [b'] at this
   cases this
  | some ms' =>
   obtain ⟨k',lk',rfl⟩:=b
   rw [lk.uniq lk']
inductive FlownIs (h:Hall) (ks:List Call) (x:V) (o:Option (List V)) (sh:Int) (CN CB CE:Addr) (G H:Hp):Value → Option Addr → Prop where
 | wrong (b:(n4 x 0 (h.i * h.c - 1) && B3 h o) = false):FlownIs h ks x o sh CN CB CE G H (.ref CN) none
 | busy (c:Int) (es:List Int) (w:Int) (dx:Addr) (ex:x = .int c) (eo:o = some (es.map V.int)) (w1:n4 x 0 (h.i * h.c - 1) = true) (w2:B3 h o = true) (b:O2 ks c es w) (e:H dx = some (XdO dx [("who",.int w)])):FlownIs h ks x o sh CN CB CE G H (.ref CB) (some dx)
 | eng (c:Int) (es:List Int) (dx nh:Addr) (nas:List Addr) (nlv:V) (lo:Option (List Int)) (ex:x = .int c) (eo:o = some (es.map V.int)) (w1:n4 x 0 (h.i * h.c - 1) = true) (w2:B3 h o = true) (i:Y8 ks c es) (n:E6 h ks c es sh = []) (hl:U0 h ks c es sh lo) (g:EngAt H dx (C8 h ks c es) lo nh nas nlv) (f:Y0 G nas nlv):FlownIs h ks x o sh CN CB CE G H (.ref CE) (some dx)
theorem L8 {es es':List Int} {o:Option (List V)} (h:o = some (es.map V.int)) (h':o = some (es'.map V.int)):es = es':=by
 rw [h] at h'
 have:=congrArg aJ2 (Option.some.inj h')
 rwa [N9,N9] at this
theorem av1 {h:Hall} {ks:List Call} {x:V} {o:Option (List V)} {sh:Int} {CN CB CE:Addr} {H3 G H:Hp} {t ea C:Addr} {d:Option Addr} (ok:h.Ok) (few:ks.length ≤ 63) (fr:ks.Pairwise (X7 h)) (due:DueAt h ks x o sh H3 t) (s3:j5 H3 G) (s:j5 G H) (fl:FlownIs h ks x o sh CN CB CE G H (.ref C) d) (hea:H ea = none) :
  ∃ N:Addr → Prop,PaperIs CN CB CE (upd H ea (Q9 ea C d)) ea t N ∧ ∀ b,N b → G b = none:=by
 have sN:=i6 hea (Q9 ea C d)
 have sA:=s3.trans (s.trans sN)
 cases fl with
 | wrong b =>
  cases due with
  | wrong b' e=>exact ⟨fun _=>False,.wrong i3 (sA _ _ e),fun _ z=>z.elim⟩
  | busy c es w ex eo w1 w2=>rw [w1,w2] at b; cases b
  | eng c es kf rs lv lo ex eo w1 w2=>rw [w1,w2] at b; cases b
  | way c es fl ex eo w1 w2=>rw [w1,w2] at b; cases b
 | busy c es w dx ex eo w1 w2 b e =>
  cases due with
  | wrong b' _=>rw [w1,w2] at b'; cases b'
  | busy c' es' w' ex' eo' _ _ b' e' =>
   cases ex.symm.trans ex'
   obtain rfl:=L8 eo eo'
   obtain rfl:=b.one fr b'
   exact ⟨fun _=>False,.busy dx w i3 (sN _ _ e) (sA _ _ e'),fun _ z=>z.elim⟩
  | eng c' es' kf rs lv lo ex' eo' _ _ i =>
   cases ex.symm.trans ex'
   obtain rfl:=L8 eo eo'
   exact (b.not_idle i).elim
  | way c' es' fl ex' eo' _ _ i =>
   cases ex.symm.trans ex'
   obtain rfl:=L8 eo eo'
   exact (b.not_idle i).elim
 | eng c es dx nh nas nlv lo ex eo w1 w2 i n hl g f =>
  cases due with
  | wrong b' _=>rw [w1,w2] at b'; cases b'
  | busy c' es' w' ex' eo' _ _ b' e' =>
   cases ex.symm.trans ex'
   obtain rfl:=L8 eo eo'
   exact (b'.not_idle i).elim
  | way c' es' fl ex' eo' _ _ _ n' =>
   cases ex.symm.trans ex'
   obtain rfl:=L8 eo eo'
   exact absurd n n'
  | eng c' es' kf rs lv lo' ex' eo' _ _ _ _ e' ek er hl' el =>
   cases ex.symm.trans ex'
   obtain rfl:=L8 eo eo'
   obtain rfl:=hl.one hl'
   have lr:∀ row ∈ C8 h ks c es,row.length ≤ 99:=fun row hr=>by
    unfold C8 J3 at hr
    obtain ⟨k,_,rfl⟩:=List.mem_map.mp hr
    have:=aa3 h ks (c / h.c) (o8 h es) k
    lia
   have lh:(C8 h ks c es).length = h.m.toNat:=by
    unfold C8 J3
    rw [List.length_map,List.length_range]
   have m1:=ok.m
   have nn:∀ a,G a = none → ¬ a ∈ rs ∧ a ≠ kf:=fun a ha=>by
    refine ⟨fun z=>?_,fun z=>?_⟩
    ·obtain ⟨j,hj⟩:=List.mem_iff_getElem?.mp z
     obtain ⟨r,_,e⟩:=m3 er j a hj
     have e2:=s3 _ _ e
     rw [ha] at e2
     cases e2
    ·have e2:=s3 _ _ ek
     rw [← z,ha] at e2
     cases e2
   have gl:match (generalizing:=false) lo with | none=>nlv = .non | some ms=>∃ m,nlv = .ref m ∧ ¬ m ∈ nas ∧ m ≠ nh ∧ upd H ea (Q9 ea CE (some dx)) m = some (.lst (ms.map V.int)):=by
    have:=g.l
    cases lo with
    | none=>exact this
    | some ms =>
     obtain ⟨m,y1,y2,y3,y4⟩:=this
     exact ⟨m,y1,y2,y3,sN _ _ y4⟩
   have ll:match (generalizing:=false) lo with | none=>lv = .non | some ms=>∃ m,lv = .ref m ∧ upd H ea (Q9 ea CE (some dx)) m = some (.lst (ms.map V.int)):=by
    cases lo with
    | none=>exact el
    | some ms =>
     obtain ⟨m,y1,y2⟩:=el
     exact ⟨m,y1,sA _ _ y2⟩
   have fl9:∀ ms,lo = some ms → ms.length ≤ 99:=fun ms z=>by
    subst z
    obtain ⟨k,_,rfl⟩:=hl
    have:=aa3 h ks (c / h.c) (o8 h es) k
    lia
   refine ⟨fun b=>b ∈ nas ∨ nlv = .ref b,.eng dx nh kf nas rs nlv lv (C8 h ks c es) lo i3 ⟨sN _ _ g.d,sN _ _ g.h,Paired.mapP g.rows fun a r z=>sN _ _ z,g.nd,gl⟩ (fun z=>?_) (by lia) lr fl9 (sA _ _ e') (sA _ _ ek) (Paired.mapP er fun a r z=>sA _ _ z) ll (fun a ha=>⟨.inl ha,nn a (f.1 a ha)⟩) (fun m hm=>⟨.inr hm,nn m (f.2 m hm)⟩),fun b z=>?_⟩
   ·rw [z] at lh
    have:(0:Nat) = h.m.toNat:=lh
    lia
   ·rcases z with z | z
    ·exact f.1 b z
    ·exact f.2 b z
theorem PaperIs.first {CN CB CE:Addr} {H:Hp} {ea t:Addr} {N:Addr → Prop} (p:PaperIs CN CB CE H ea t N):∃ (i:Int) (u v:V),H t = some (.tup [.int i,u,v]) ∧ i ≠ 9:=by
 cases p with
 | wrong e d=>exact ⟨_,_,_,d,by decide⟩
 | busy dx w e x d=>exact ⟨_,_,_,d,by decide⟩
 | eng dx nh kf nas rs nlv lv rows lo e g ne few fe fl d=>exact ⟨_,_,_,d,by decide⟩
theorem aR2 {h:Hall} {ks:List Call} {x:V} {o:Option (List V)} {sh:Int} {CN CB CE CH:Addr} {K:PySem.W.Frag} {G H:Hp} {c:Value} {d:Option Addr} (k1:PySem.W.exmOne K (.ref CN) (.ref CH) = some true) (k2:PySem.W.exmOne K (.ref CB) (.ref CH) = some true) (k3:PySem.W.exmOne K (.ref CE) (.ref CH) = some true) (fl:FlownIs h ks x o sh CN CB CE G H c d):PySem.W.exmOne K c (.ref CH) = some true:=by
 cases fl with
 | wrong=>exact k1
 | busy=>exact k2
 | eng=>exact k3
theorem ap1 {b:Bool} {H0:Hp} {tt:TS} {D:Ends} {σ:Int → L2.St} {x:Int} (P:Int → Prop) (hx:b = false → P x) (h:∀ W,P W → D.nx (σ W) H0) (h1:b = true → (∀ W,P W → D.nx (σ W) H0) → tt D (σ x) H0):(fun (b:Bool) H1=>if b = true then tt D (σ x) H1 else aS0 D (σ x) H1) b H0:=by
 cases b
 ·exact h x (hx rfl)
 ·exact h1 rfl h
theorem aU5 {b:Bool} {H:Hp} {ta tb:TS} {D:Ends} {σ:L2.St} (R:L2.St → Hp → Prop) (hr:∀ σ' G,R σ' G → D.nx σ' G) (h1:b = true → (∀ σ' G,R σ' G → D.nx σ' G) → ta D σ H) (h2:b = false → (∀ σ' G,R σ' G → D.nx σ' G) → tb D σ H):(fun (b:Bool) H1=>if b = true then ta D σ H1 else tb D σ H1) b H:=by
 cases b
 ·exact h2 rfl hr
 ·exact h1 rfl hr
theorem av9 {K:PySem.W.Frag} {H H':Hp} {x y:V} (st:∀ a xs,SqT K H a xs → SqT K H' a xs) (sl:∀ a xs,SqL K H a xs → SqL K H' a xs) (h:OwnNe K H x y):OwnNe K H' x y:=by
 cases h with
 | non=>exact .non
 | str z=>exact .str z
 | tup e=>exact .tup (st _ _ e)
 | lst ha hb w=>exact .lst (sl _ _ ha) (sl _ _ hb) w
theorem am8 (as:List Addr):(as.map V.ref).all aS1 = true:=by
 rw [List.all_eq_true]
 intro x hx
 obtain ⟨c,_,rfl⟩:=List.mem_map.mp hx
 rfl
theorem a83 {K:PySem.W.Frag} {H H':Hp} {tu C dx:Addr} {fs:List (Str × V)} (s:W3 tu H H') (e:H tu = some (.ins C dx fs)) {a:Addr} {xs:List V} (h:SqL K H a xs):SqL K H' a xs:=by
 rcases h with (h | ⟨o,h⟩) | h
 ·exact .inl (.inl (s _ _ (fun z=>by rw [z,e] at h; cases h) h))
 ·exact .inl (.inr ⟨o,s _ _ (fun z=>by rw [z,e] at h; cases h) h⟩)
 ·exact .inr h
theorem a72 {K:PySem.W.Frag} {H H':Hp} {tu C dx:Addr} {fs:List (Str × V)} (s:W3 tu H H') (e:H tu = some (.ins C dx fs)) {a:Addr} {xs:List V} (h:SqT K H a xs):SqT K H' a xs:=by
 rcases h with (h | ⟨o,h⟩) | h
 ·exact .inl (.inl (s _ _ (fun z=>by rw [z,e] at h; cases h) h))
 ·exact .inl (.inr ⟨o,s _ _ (fun z=>by rw [z,e] at h; cases h) h⟩)
 ·exact .inr h
structure ToldIs (h:Hall) (ks:List Call) (x:V) (o:Option (List V)) (sh:Int) (G H:Hp) (CR tu dx r:Addr) (c:Int) (es es':List Int) (k:Nat) (bs:List Addr) (ks':List Call):Prop where
 ex:x = .int c
 eo:o = some (es.map V.int)
 w1:n4 x 0 (h.i * h.c - 1) = true
 w2:B3 h o = true
 i:Y8 ks c es
 hk:k ∈ E6 h ks c es sh
 s:W3 tu G H
 st:∃ n,H tu = some (.ins CR dx (C0 n))
 er:H r = some (.lst (bs.map V.ref))
 hb:m4 H bs ks'
 pe:es'.Perm es
 se:es'.Pairwise (· ≤ ·)
 pk:ks'.Perm (ks ++ [⟨c,es',k⟩])
 sk:ks'.Pairwise fun k k'=>k.c < k'.c
def ao2 (K:PySem.W.Frag) (CR:Addr):Sp:=fun vs H Q _=>∃ (a l tu dx:Addr) (h:Hall) (as:List Addr) (ks:List Call) (n st:Int),vs = [.ref a,.ref l,.int n,.ref tu] ∧ SqT K H a (h.row.map V.int) ∧ h.Ok ∧ H l = some (.lst (as.map V.ref)) ∧ m4 H as ks ∧ (∀ k ∈ ks,k.In h) ∧ ks.Pairwise (X7 h) ∧ ks.length < 63 ∧ H tu = some (.ins CR dx (C0 st)) ∧
 ∀ (st':Int) (H':Hp),W3 tu H H' → H' tu = some (.ins CR dx (C0 st')) → Q (.bl true) H'
section
variable {P:Program} {w:World} {K:PySem.W.Frag} {mg:Str → Option Value} {base:Heap} {C_Rule C_Round C_HallError C_NoHall C_NoCalls C_NoLine C_NoRule C_Idle C_Busy C_Engaged C_NoMove:Addr}
theorem o6:FnScope ["_law_hall_here","_law_calls_here","_law_number_here","_law_turns","_law_caller_here","_law_ends_here","_law_shut","_law_plain","_law_due_here","_law_handed","_law_start","_law_refused","_law_found","_law_e","_law_free"] ["_law_hall_here","_law_calls_here","_law_number_here","_law_turns"] (i7 (top 57)):=⟨rfl,rfl,rfl,by decide +kernel,rfl,by decide +kernel,by decide +kernel⟩
set_option maxHeartbeats 8000000 in
theorem aF0 (T:Txt K mg) (Z:TxtC K mg C_Rule C_Round C_HallError C_NoHall C_NoCalls C_NoLine C_NoRule C_Idle C_Busy C_Engaged C_NoMove) (C__law_caller:Callee P w K mg base 1 "_law_caller" ["_law_hall_here","_law_calls_here","_law_number_here"] (al3 K)) (C__law_wanted:Callee P w K mg base 2 "_law_wanted" ["_law_hall_here","_law_calls_here","_law_number_here"] (aA5 K)) (C__law_due:Callee P w K mg base 3 "_law_due" ["_law_hall_here","_law_calls_here","_law_caller_here","_law_ends_here","_law_shut"] (aJ0 K)) (C_joined:CalleeF P w K mg base 7 "joined" ["hall","calls","caller","ends","rule","shut"] [.non,.int 0] (aA3 K C_Round C_NoLine C_Busy C_Engaged)) (C__law_right:Callee P w K mg base 5 "_law_right" ["_law_found","_law_calls_here","_law_caller_here","_law_ends_here","_law_free"] (an0 K)) (C__law_paper:Callee P w K mg base 4 "_law_paper" ["_law_e","_law_due_here"] (aJ5 C_NoLine C_Busy C_Engaged)) (D:Def K mg "_law_asked" (top 57) ["_law_hall_here","_law_calls_here","_law_number_here","_law_turns"]):Callee P w K mg base 8 "_law_asked" ["_law_hall_here","_law_calls_here","_law_number_here","_law_turns"] (ao2 K C_Round):=by
 refine D.ok o6 (fun vs H Q E h=>?_) (fun f cdv A outer s H vs Q E hr h=>?_)
 ·obtain ⟨a,l,tu,dx,h,as,ks,n,st,rfl,_⟩:=h
  rfl
 obtain ⟨a,l,tu,dx,h,as,ks,n,st,rfl,hH,ok,el,hC,hin,fr,h63,etu,q⟩:=h
 have om:=ok.m
 have nc:ks.Pairwise fun k k'=>k.c ≠ k'.c:=fr.imp fun z=>z.caller
 have hC':∀ {G:Hp},j5 H G → m4 G as ks:=fun s=>m4.same (fun b xs z=>s _ _ z) hC
 refine ⟨_,(i4 (j7 (i:=4) o6.nd rfl (Or.inl rfl) (r6 C__law_caller hr rfl (b8 (pv 0) (b8 (pv 1) (b8 (pv 2) d9 b9) b9) b9)))
  (i4 (j7 (i:=5) o6.nd rfl (Or.inl rfl) (r6 C__law_wanted hr rfl (b8 (pv 0) (b8 (pv 1) (b8 (pv 2) d9 b9) b9) b9)))
  (i4 (j7 (i:=6) o6.nd rfl (Or.inl rfl) (j2 u6 (j2 u6 (j2 o9 (pv 2) i0) i0) (j2 aU2 i0 (j3 (j0 K) (pv 0) i0 (fun _ _=>rfl)))))
  (i4 (m8 (j8 C4 (j2 u6 (j2 u6 (j2 o9 (pv 2) i0) i0) i0) i0 (m7 _)) (i5 (j7 (i:=6) o6.nd rfl (Or.inl rfl) (j2 ar8 (j2 aU2 i0 (j3 (j0 K) (pv 0) i0 (fun _ _=>rfl))) i0))) j1)
  (i4 (j7 (i:=7) o6.nd rfl (Or.inl rfl) (J8 C4 (j2 u6 (j2 u6 (j2 o9 (pv 2) i0) i0) i0) i0 (m7 _)))
  (i4 (m8 (m9 K (pv 7) (fun _=>rfl)) (i5 (j7 (i:=6) o6.nd rfl (Or.inl rfl) i0)) j1)
  (i4 (j7 (i:=8) o6.nd rfl (Or.inl rfl) (r6 C__law_due hr rfl (b8 (pv 0) (b8 (pv 1) (b8 (pv 4) (b8 (pv 5) (b8 (pv 6) d9 b9) b9) b9) b9) b9)))
  (i4 (j7 (i:=9) o6.nd rfl (Or.inl rfl) (q9 (b8 (B1 (R3 K) rfl T.m_list boot_list (b8 (pv 1) d9 b9)) (b8 (pv 5) d9 b9) r9)))
  (i4 (m8 (m9 K (i8 (j6 K) rfl T.m_isinstance boot_isinstance (b8 (pv 5) (b8 (n6 (v:=.ty "list") rfl T.m_list boot_list rfl) d9 b9) b9)) (fun _=>rfl)) (i5 (bb2 (B1 (R3 K) rfl T.m_list boot_list (b8 (pv 5) d9 b9)) (a96 (pv 9) i0 aR0))) j1)
  (i4 (j7 (i:=10) o6.nd rfl (Or.inl rfl) (ap8 K (pv 3)))
  (i4 (j7 (i:=11) o6.nd rfl (Or.inl rfl) y6)
  (i4 (j7 (i:=12) o6.nd rfl (Or.inl rfl) y6)
  (i4 (aZ9 (c:=.ref C_HallError) (i:=13) rfl Z.mg_HallError o6.nd rfl rfl rfl rfl rfl (fun pn E =>
  (i5 (m8 (m9 K (pv 7) (fun _=>rfl)) (i5 (j7 (i:=12) o6.nd rfl (Or.inl rfl) (ah8 0 C_joined ap3 hr rfl (b8 (pv 0) (b8 (j3 (n9 K) (pv 9) i0 (fun _ _=>rfl)) (b8 (pv 4) (b8 (j3 (n9 K) (pv 9) i0 (fun _ _=>rfl)) d9 x6) b9) x6) b9)))) (i5 (j7 (i:=12) o6.nd rfl (Or.inl rfl) (ah8 2 C_joined ap3 hr rfl (b8 (pv 0) (b8 (j3 (n9 K) (pv 9) i0 (fun _ _=>rfl)) (b8 (pv 4) (b8 (j3 (n9 K) (pv 9) i0 (fun _ _=>rfl)) (b8 (pv 3) (b8 (pv 6) d9 b9) b9) x6) b9) x6) b9))))))) (fun ea =>
  (i5 (j7 (i:=11) o6.nd rfl (Or.inl rfl) (pv 13)))))
  (i4 (m8 (PW.pt (E7 (j8 (aF6 K (Room.units0 hr)) (j3 (n9 K) (pv 9) i0 (fun _ _=>rfl)) (pv 1) (m7 _)) (D6 (j8 (aO3 K (Room.units0 hr)) (j3 (n9 K) (pv 9) i0 (fun _ _=>rfl)) (pv 5) (m7 _))))) (i5 (i9 z5)) j1)
  (i4 (m8 (j8 C4 (j3 (j0 K) (pv 8) i0 (fun _ _=>rfl)) i0 (m7 _)) (i4 (j7 (i:=14) o6.nd rfl (Or.inl rfl) (j3 (j0 K) (pv 8) i0 (fun _ _=>rfl)))
  (i5 (i9 (P9 (J8 Q7 (pv 11) y6 (m7 _)) (X6 (r6 C__law_right hr rfl (b8 (pv 12) (b8 (pv 1) (b8 (pv 4) (b8 (pv 5) (b8 (pv 14) d9 b9) b9) b9) b9) b9))))))) j1)
  (i5 (i9 (P9 (J8 V4 (pv 11) y6 (m7 _)) (P9 (r6 C__law_paper hr rfl (b8 (pv 11) (b8 (pv 8) d9 b9) b9)) (X6 (J8 C4 (ap8 K (pv 3)) (pv 10) (m7 _)))))))))))))))))))))),?_⟩
 refine ⟨_,rfl,_,rfl,_,rfl,a,l,h,as,ks,n,rfl,hH,ok,SqL.of el,hC,fun x H1 s1 px=>?_⟩
 refine ⟨_,rfl,_,rfl,_,rfl,a,l,h,as,ks,n,rfl,j5.seqT s1 hH,ok,SqL.of (s1 _ _ el),hC' s1,hin,fun y o H2 s2' ey l13 own=>?_⟩
 have s2:=s1.trans s2'
 have px2:=px.same s2'
 have hH2:=j5.seqT s2 hH
 refine ⟨_,rfl,_,_,rfl,rfl,.inr ⟨by decide,by decide⟩,_,_,rfl,rfl,(by show (0:Int) < 16777183; decide),_,rfl,a,_,_,_,rfl,rfl,hH2,rfl,_,_,rfl,rfl,⟨by show 0 ≤ h.m; lia,by show h.m ≤ 1000000; lia,by decide⟩,_,_,rfl,rfl,(by show (0:Int) < 1 * 2 ^ h.m.toNat; rw [Int.one_mul]; exact Int.pow_pos (by decide)),?_⟩
 refine ⟨_,rfl,_,_,rfl,rfl,.inr ⟨by decide,by decide⟩,_,_,rfl,rfl,(by show (0:Int) < 999979; decide),_,_,rfl,rfl,(by show (0:Int) < 4; decide),rfl,_,rfl,?_⟩
 refine ap1 (σ:=fun W=>[some (.ref a),some (.ref l),some (.int n),some (.ref tu),some x,some y,some (.int W),none,none,none,none,none,none,none,none]) (fun _=>True) (fun _=>trivial) (fun sh0 _=>?_) (fun _ key=>?_)
 rotate_left
 ·exact ⟨_,rfl,a,_,_,_,rfl,rfl,hH2,rfl,_,_,rfl,rfl,⟨by show 0 ≤ h.m; lia,by show h.m ≤ 1000000; lia,by decide⟩,_,_,rfl,rfl,key _ trivial⟩
 refine ⟨_,rfl,_,_,rfl,rfl,.inr ⟨by decide,by decide⟩,_,_,rfl,rfl,(by show (0:Int) < 999961; decide),_,_,rfl,rfl,(by show (0:Int) < 2; decide),rfl,?_⟩
 dsimp only
 generalize decide (V.int (n * 16807 % 999961 % 2) = V.int 0) = pb
 refine ⟨_,rfl,_,rfl,?_⟩
 refine ap1 (σ:=fun W=>[some (.ref a),some (.ref l),some (.int n),some (.ref tu),some x,some y,some (.int W),some (.bl pb),none,none,none,none,none,none,none]) (fun W=>pb = true → W = 0) (fun z y=>by rw [z] at y; cases y) (fun sh hsh=>?_) (fun _ key=>?_)
 rotate_left
 ·exact key _ fun _=>rfl
 refine ⟨_,rfl,_,rfl,_,rfl,_,rfl,_,rfl,a,l,h,as,ks,x,y,o,sh,rfl,hH2,ok,SqL.of (s2 _ _ el),hC' s2,hin,by lia,px2,ey,l13,fun t H3 s3' due=>?_⟩
 have s3:=s2.trans s3'
 refine ⟨_,rfl,l,_,rfl,.inl (SqL.of (s3 _ _ el)),fun hd hhd=>?_⟩
 have s4':=i6 hhd (.lst (as.map V.ref))
 have ehd:=i3 (H:=H3) (a:=hd) (o:=.lst (as.map V.ref))
 generalize upd H3 hd (.lst (as.map V.ref)) = H4 at s4' ehd ⊢
 refine ⟨_,rfl,(by show 2 ≤ sizeLine; decide),fun hn hhn=>?_⟩
 have s5':=i6 hhn (.lst [.ref hd,y])
 have ehn:=i3 (H:=H4) (a:=hn) (o:=.lst [.ref hd,y])
 generalize upd H4 hn (.lst [.ref hd,y]) = H5 at s5' ehn ⊢
 have s25:j5 H2 H5:=s3'.trans (s4'.trans s5')
 have ey5:=ey.same s25
 obtain ⟨ty,b,hty,hkit,hb1,hb2⟩:∃ (ty:Value) (b:Bool),TyOf K H5 y ty ∧ PySem.W.kitOne K ty (.type "list") = some b ∧ (b = true → ∃ e xs,y = .ref e ∧ o = some xs ∧ H5 e = some (.lst xs) ∧ (∀ x ∈ xs,PartIs K H5 x) ∧ xs.length ≤ 64) ∧ (b = false → OwnNe K H5 y y):=by
  cases ey5 with
  | lst e hp hn=>exact ⟨_,_,.lst e,Z3,fun _=>⟨_,_,rfl,rfl,e,hp,hn⟩,fun z=>nomatch z⟩
  | tup e hp hn=>exact ⟨_,_,.tup e,aa2,(fun z=>nomatch z),fun _=>.tup (SqT.of e)⟩
  | no t1 k1 k2 =>
   refine ⟨_,_,t1,k1,(fun z=>nomatch z),fun _=>?_⟩
   rcases own.2 rfl with rfl | ⟨z,rfl⟩
   ·exact .non
   ·exact .str z
 refine ⟨_,rfl,_,_,ty,b,rfl,hty,hkit,_,rfl,?_⟩
 refine az6 (fun G=>j5 H4 G ∧ ∃ y',G hn = some (.lst [.ref hd,y']) ∧ EndTh K G y' o ∧ OwnNe K G y' y) ?_ ?_ ?_
 rotate_left
 ·intro hb last
  obtain ⟨e,xs,rfl,rfl,ee,hp,h64⟩:=hb1 hb
  refine ⟨_,rfl,e,_,rfl,.inl (SqL.of ee),fun cp hcp=>?_⟩
  have s6':=i6 hcp (.lst xs)
  have ecp:=i3 (H:=H5) (a:=cp) (o:=.lst xs)
  generalize upd H5 cp (.lst xs) = H6 at s6' ecp ⊢
  have ehn6:=s6' _ _ ehn
  have ee6:=s6' _ _ ee
  refine ⟨_,rfl,hn,_,_,1,rfl,rfl,ehn6,rfl,last _ ?_⟩
  have up:∀ b u,b ≠ hn → H6 b = some u → upd H6 hn (.lst ([.ref hd,.ref e].set 1 (.ref cp))) b = some u:=fun b u nb z=>by rw [j4 nb]; exact z
  have ncp:cp ≠ hn:=fun z=>by rw [z,ehn] at hcp; cases hcp
  have s46:j5 H4 (upd H6 hn (.lst ([.ref hd,.ref e].set 1 (.ref cp)))):=fun b u z=>up b u (o4 z hhn) (s6' _ _ (s5' _ _ z))
  have ne:e ≠ hn:=fun z=>by
   cases ey with
   | lst e2 _ _ =>
    have:=s4' _ _ (s3' _ _ e2)
    rw [z,hhn] at this
    cases this
   | tup e2 _ _ =>
    have:=s4' _ _ (s3' _ _ e2)
    rw [z,hhn] at this
    cases this
  refine ⟨s46,.ref cp,i3,.lst (up _ _ ncp ecp) (fun x hx=>?_) h64,.lst (SqL.of (up _ _ ncp ecp)) (SqL.of (up _ _ ne ee6)) (own.1 xs rfl)⟩
  have:PartIs K H2 x:=by
   cases ey with
   | lst e2 hp2 _=>exact hp2 x hx
   | tup e2 hp2 _=>exact hp2 x hx
  exact this.same (s3'.trans (s4'.trans s46))
 ·intro hb
  exact ⟨s5',y,ehn,ey5,hb2 hb⟩
 rintro G ⟨s4G,y',ehnG,ey',ow⟩
 have s24:j5 H2 G:=s3'.trans (s4'.trans s4G)
 have sG:=s2.trans s24
 have sG3:j5 H3 G:=s4'.trans s4G
 have etuG:=sG _ _ etu
 have ehdG:=s4G _ _ ehd
 have elG:=sG _ _ el
 have hHG:=j5.seqT sG hH
 have pxG:=px2.same s24
 have l64:∀ xs,o = some xs → xs.length < 64:=fun xs z=>Nat.lt_of_le_of_lt (l13 xs z) (by decide)
 refine ⟨_,rfl,tu,C_Round,dx,_,_,rfl,etuG,Z.cl_Round,Z.n_Round_start,ac3 st,?_⟩
 refine ⟨fun σ' c0 d H'=>σ' = [some (.ref a),some (.ref l),some (.int n),some (.ref tu),some x,some y,some (.int sh),some (.bl pb),some (.ref t),some (.ref hn),some (.int st),some .non,some .non,none,none] ∧ j5 G H' ∧ FlownIs h ks x o sh C_NoLine C_Busy C_Engaged G H' c0 d,?_,?_⟩
 ·refine ⟨_,rfl,_,rfl,?_⟩
  refine aU5 (fun σ' H'=>∃ r c es es' k bs ks',σ' = [some (.ref a),some (.ref l),some (.int n),some (.ref tu),some x,some y,some (.int sh),some (.bl pb),some (.ref t),some (.ref hn),some (.int st),some .non,some (.ref r),none,none] ∧ ToldIs h ks x o sh G H' C_Round tu dx r c es es' k bs ks') ?_ ?_ ?_
  ·rintro σ' H' ⟨r,c,es,es',k,bs,ks',rfl,t1⟩
   obtain ⟨n',etu'⟩:=t1.st
   have nt:∀ b u,G b = some u → (∀ dx fs,u ≠ .ins C_Round dx fs) → H' b = some u:=fun b u z nu=>t1.s b u (fun y=>by rw [y,etuG] at z; exact nu _ _ (Option.some.inj z).symm) z
   have lt':∀ b xs,G b = some (.lst xs) → H' b = some (.lst xs):=fun b xs z=>nt b _ z (fun _ _ y=>nomatch y)
   have tt':∀ b xs,G b = some (.tup xs) → H' b = some (.tup xs):=fun b xs z=>nt b _ z (fun _ _ y=>nomatch y)
   have ehn':=lt' _ _ ehnG
   refine ⟨_,rfl,hn,_,_,_,rfl,rfl,SqL.of ehn',rfl,_,rfl,hd,l,_,rfl,rfl,SqL.of (lt' _ _ ehdG),SqL.of (lt' _ _ elG),am8 as,_,rfl,z6 ?_⟩
   refine ⟨_,rfl,hn,_,_,_,rfl,rfl,SqL.of ehn',rfl,_,rfl,av9 (fun a xs z=>a72 t1.s etuG z) (fun a xs z=>a83 t1.s etuG z) ow,_,rfl,z6 ?_⟩
   obtain ⟨fl,et,ef⟩:∃ fl,H3 t = some (.tup [.int 9,.ref fl,.non]) ∧ H3 fl = some (.lst (C2 (E6 h ks c es sh))):=by
    cases due with
    | wrong b' _=>rw [t1.w1,t1.w2] at b'; cases b'
    | busy c' es2 w' ex' eo' _ _ b' e' =>
     cases t1.ex.symm.trans ex'
     obtain rfl:=L8 t1.eo eo'
     exact (b'.not_idle t1.i).elim
    | eng c' es2 kf rs lv lo' ex' eo' _ _ _ n' =>
     cases t1.ex.symm.trans ex'
     obtain rfl:=L8 t1.eo eo'
     have:=t1.hk
     rw [n'] at this
     cases this
    | way c' es2 fl ex' eo' _ _ _ _ e' ef' =>
     cases t1.ex.symm.trans ex'
     obtain rfl:=L8 t1.eo eo'
     exact ⟨fl,e',ef'⟩
   have et':=tt' _ _ (sG3 _ _ et)
   refine ⟨_,rfl,t,_,_,_,rfl,rfl,SqT.of et',rfl,rfl,_,rfl,ah0 ?_⟩
   refine ⟨_,rfl,t,_,_,_,rfl,rfl,SqT.of et',rfl,?_⟩
   obtain rfl:=t1.ex
   obtain ⟨e,es2,rfl,eo2,he⟩:=ar4 ey t1.w2
   obtain rfl:=L8 t1.eo eo2
   have he':SqT K H' e (es.map V.int) ∨ SqL K H' e (es.map V.int):=he.imp (fun z=>a72 t1.s etuG (j5.seqT s24 z)) fun z=>a83 t1.s etuG (s24.seq z)
   have le:es.length < 64:=by have:=l64 _ t1.eo; rwa [List.length_map] at this
   refine ⟨_,rfl,rfl,_,rfl,C3 ⟨_,rfl,_,rfl,_,rfl,_,rfl,_,rfl,r,l,e,fl,bs,as,ks,ks',c,es,es',E6 h ks c es sh,k,rfl,t1.er,t1.hb,lt' _ _ elG,m4.same tt' (hC' sG),h63,nc,t1.i.1,fun κ hκ=>(hin κ hκ).few,he',le,lt' _ _ (sG3 _ _ ef),t1.hk,t1.pe,t1.se,t1.pk,t1.sk,fun H7 s7=>?_⟩⟩
   exact q n' H7 (fun b u nb z=>s7 _ _ (t1.s b u nb (sG _ _ z))) (s7 _ _ etu')
  ·intro hpb last
   have sh0:=hsh hpb
   refine ⟨_,rfl,_,rfl,hn,_,_,_,rfl,rfl,SqL.of ehnG,rfl,_,rfl,_,rfl,hn,_,_,_,rfl,rfl,SqL.of ehnG,rfl,a,hd,h,as,ks,x,y',.non,o,0,rfl,hHG,ok,ehdG,hC' sG,hin,nc,h63,pxG,ey',l64,.inl rfl,(fun z=>nomatch z),fun H7 s7 bad=>⟨rfl,s7,.wrong bad⟩,fun c es ex eo w1 w2=>⟨fun w dx' H7 s7 b' e'=>⟨rfl,s7,.busy c es w dx' ex eo w1 w2 b' e'⟩,fun i n' dx' nh nas nlv lo H7 s7 hl g f=>⟨rfl,s7,.eng c es dx' nh nas nlv lo ex eo w1 w2 i (sh0 ▸ n') (sh0 ▸ hl) g f⟩,fun i k hk r bs ks' es' H7 s7 er cs pm srt pk up=>last _ _ ⟨r,c,es,es',k,bs,ks',rfl,ex,eo,w1,w2,i,(sh0 ▸ hk),fun b u nb z=>s7.1 b u (fun y=>nomatch y) z,⟨st,s7.1 _ _ (fun y=>nomatch y) etuG⟩,er,cs,pm,srt,pk,up⟩⟩⟩
  ·intro hpb last
   refine ⟨_,rfl,_,rfl,hn,_,_,_,rfl,rfl,SqL.of ehnG,rfl,_,rfl,_,rfl,hn,_,_,_,rfl,rfl,SqL.of ehnG,rfl,_,rfl,_,rfl,a,hd,h,as,ks,x,y',.ref tu,o,sh,rfl,hHG,ok,ehdG,hC' sG,hin,nc,h63,pxG,ey',l64,.inr ⟨tu,dx,st,rfl,etuG⟩,(fun z=>by cases z; rw [etuG] at ehdG; cases ehdG),fun H7 s7 bad=>⟨rfl,s7,.wrong bad⟩,fun c es ex eo w1 w2=>⟨fun w dx' H7 s7 b' e'=>⟨rfl,s7,.busy c es w dx' ex eo w1 w2 b' e'⟩,fun i n' dx' nh nas nlv lo H7 s7 hl g f=>⟨rfl,s7,.eng c es dx' nh nas nlv lo ex eo w1 w2 i n' hl g f⟩,fun i k hk r bs ks' es' H7 s7 er cs pm srt pk up=>last _ _ ⟨r,c,es,es',k,bs,ks',rfl,ex,eo,w1,w2,i,hk,fun b u nb z=>s7.1 b u (fun y=>nb (V.ref.inj y).symm) z,s7.2 tu dx st rfl etuG,er,cs,pm,srt,pk,up⟩⟩⟩
 ·rintro σ' c0 d H6 ⟨rfl,s6,fl⟩
  refine ⟨rfl,aR2 Z.kh_NoLine Z.kh_Busy Z.kh_Engaged fl,fun ea C hc hea=>?_⟩
  subst hc
  obtain ⟨N,pi,hN⟩:=av1 ok (by lia) fr due sG3 s6 fl hea
  have s7:=s6.trans (i6 hea (Q9 ea C d))
  generalize upd H6 ea (Q9 ea C d) = H7 at pi s7 ⊢
  refine ⟨_,rfl,?_⟩
  have ehn':=s7 _ _ ehnG
  refine ⟨_,rfl,hn,_,_,_,rfl,rfl,SqL.of ehn',rfl,_,rfl,hd,l,_,rfl,rfl,SqL.of (s7 _ _ ehdG),SqL.of (s7 _ _ elG),am8 as,_,rfl,z6 ?_⟩
  refine ⟨_,rfl,hn,_,_,_,rfl,rfl,SqL.of ehn',rfl,_,rfl,av9 (fun a xs z=>j5.seqT s7 z) (fun a xs z=>s7.seq z) ow,_,rfl,z6 ?_⟩
  obtain ⟨i,u,v,et,ni⟩:=pi.first
  refine ⟨_,rfl,t,_,_,_,rfl,rfl,SqT.of et,rfl,rfl,_,rfl,aq0 ni ?_⟩
  refine ⟨_,rfl,rfl,_,rfl,C3 ⟨_,rfl,_,rfl,ea,t,N,rfl,pi,fun H8 s8=>⟨_,rfl,C3 ?_⟩⟩⟩
  have keep:∀ b u,G b = some u → H8 b = some u:=fun b u z=>s8 b u (s7 _ _ z) (fun y=>by have:=hN b y; rw [z] at this; cases this)
  refine ⟨_,rfl,tu,C_Round,dx,_,_,rfl,keep _ _ etuG,Z.cl_Round,Z.n_Round_start,ac3 st,_,rfl,rfl,?_⟩
  rw [decide_eq_true rfl]
  exact q st H8 (fun b u _ z=>keep _ _ (sG _ _ z)) (keep _ _ etuG)
end
theorem aQ2 {H:Hp} {C x dx:Addr} {n:Int} (hx:H x = none) (hdx:H dx = none):j5 H (upd (upd (upd H dx (.own x)) x (.ins C dx [])) x (.ins C dx (C0 n))):=fun b u z=>by
 rw [j4 (o4 z hx),j4 (o4 z hx),j4 (o4 z hdx)]
 exact z
section
variable {P:Program} {w:World} {K:PySem.W.Frag} {mg:Str → Option Value} {base:Heap} {C_Rule C_Round C_HallError C_NoHall C_NoCalls C_NoLine C_NoRule C_Idle C_Busy C_Engaged C_NoMove:Addr}
theorem W8:FnScope ["_law_script","_law_hall_here","_law_cells","_law_calls_here","_law_turns","_law_at","_law_number_here"] ["_law_script"] (i7 (top 58)):=⟨rfl,rfl,rfl,by decide +kernel,rfl,by decide +kernel,by decide +kernel⟩
theorem a78 (T:Txt K mg) (Z:TxtC K mg C_Rule C_Round C_HallError C_NoHall C_NoCalls C_NoLine C_NoRule C_Idle C_Busy C_Engaged C_NoMove) (C__law_hall:Callee P w K mg base 2 "_law_hall" ["_law_script"] (aU1 K)) (C__law_calls:Callee P w K mg base 3 "_law_calls" ["_law_hall_here","_law_cells"] (aI1 K)) (C__law_number:Callee P w K mg base 1 "_law_number" ["_law_cell","_law_at"] aQ3) (C_Round___init__:CalleeM P w K mg base 1 C_Round "__init__" ["self","start"] [.int 0] (aI8 K "start") (aX0 C_Round)) (C__law_asked:Callee P w K mg base 8 "_law_asked" ["_law_hall_here","_law_calls_here","_law_number_here","_law_turns"] (ao2 K C_Round)) {f:Addr} {fd:FuncData} (F:Fun K "law" "law" (top 58) f fd):FnOk P w K mg base CX0 9 f fd ["_law_script"] (aK4 K):=by
 refine F.ok W8 (fun vs H Q E h=>?_) (fun cdv A outer s H vs Q E hr h=>?_)
 ·obtain ⟨a,ns,rfl,_⟩:=h
  rfl
 obtain ⟨a,ns,rfl,hS,h63,q⟩:=h
 refine ⟨_,(i4 (j7 (i:=1) W8.nd rfl (Or.inl rfl) (r6 C__law_hall hr rfl (b8 (pv 0) d9 b9)))
  (i4 (j7 (i:=2) W8.nd rfl (Or.inl rfl) (M2 (O0 K) (pv 0) (N6 i0) (N6 i0)))
  (i4 (j7 (i:=3) W8.nd rfl (Or.inl rfl) (r6 C__law_calls hr rfl (b8 (pv 1) (b8 (pv 2) d9 b9) b9)))
  (i4 (j7 (i:=4) W8.nd rfl (Or.inl rfl) (aY4 C_Round___init__ Z.M_Round hr rfl (b8 i0 d9 m6)))
  (i4 (A3 PassesOwn.never rfl (z9 rfl T.m_range (b8 (i8 (am7 rfl) rfl T.m_min boot_min (b8 (i8 (o7 K) rfl T.m_len boot_len (b8 (pv 2) d9 b9)) (b8 i0 d9 m6) r9)) d9 r9)) (o5 (i:=5) W8.nd rfl (Or.inl rfl))
  (i4 (j7 (i:=6) W8.nd rfl (Or.inl rfl) (j2 K2 (j2 K2 (j2 o9 (r6 C__law_number hr rfl (b8 (j3 (n9 K) (pv 2) (pv 5) (fun _ _=>rfl)) (b8 (pv 5) d9 b9) x6)) i0) (j2 o9 i0 (pv 5))) i0))
  (i5 (m8 (y0 (m9 K (r6 C__law_asked hr rfl (b8 (pv 1) (b8 (pv 3) (b8 (pv 6) (b8 (pv 4) d9 b9) b9) b9) b9)) (fun _=>rfl))) (i5 (i9 z5)) j1))))
  (i5 (i9 (r6 C__law_asked hr rfl (b8 (pv 1) (b8 (q9 d9) (b8 (i8 (o7 K) rfl T.m_len boot_len (b8 (pv 0) d9 b9)) (b8 (pv 4) d9 b9) r9) K4) b9))))))))),?_⟩
 refine ⟨_,rfl,a,ns,rfl,hS,fun p h H1 ok s1 ep=>?_⟩
 refine ⟨_,rfl,_,rfl,_,rfl,a,_,rfl,s1.seq hS,fun l hl=>?_⟩
 obtain ⟨cs,hcs,hc57⟩:∃ cs:List Int,S4 (ns.map V.int) (some 6) (some 70) = cs.map V.int ∧ cs.length ≤ 57:=by
  refine ⟨(ns.drop (HT.sIx (ns.map V.int).length 0 (some 6))).take (HT.sIx (ns.map V.int).length (ns.map V.int).length (some 70) - HT.sIx (ns.map V.int).length 0 (some 6)),?_,?_⟩
  ·unfold S4
   rw [List.map_take,List.map_drop]
  ·rw [List.length_take,List.length_drop,show HT.sIx (ns.map V.int).length 0 (some 6) = min 6 (ns.map V.int).length from HT.sIx_nat _ _ 6,List.length_map]
   lia
 rw [hcs]
 have el:=i3 (H:=H1) (a:=l) (o:=.lst (cs.map V.int))
 have s2:=i6 hl (.lst (cs.map V.int))
 generalize upd H1 l (.lst (cs.map V.int)) = H2 at el s2 ⊢
 refine ⟨_,rfl,_,rfl,p,l,h,cs,rfl,SqT.of (s2 _ _ ep),ok,SqL.of el,by lia,fun lc as ks H3 s3 ec hC hin hlt hfr hkl=>?_⟩
 refine fun tu dx htu hdx hne=>⟨tu,dx,2,rfl,i3,rfl,?_⟩
 have s4':=aQ2 (C:=C_Round) (n:=2) htu hdx
 have etu:=i3 (H:=upd (upd H3 dx (.own tu)) tu (.ins C_Round dx [])) (a:=tu) (o:=.ins C_Round dx (C0 2))
 generalize upd (upd (upd H3 dx (.own tu)) tu (.ins C_Round dx [])) tu (.ins C_Round dx (C0 2)) = H4 at s4' etu ⊢
 have ep4:=s4' _ _ (s3 _ _ (s2 _ _ ep))
 have el4:=s4' _ _ (s3 _ _ el)
 have ec4:=s4' _ _ ec
 have hC4:m4 H4 as ks:=m4.same (fun b xs z=>s4' _ _ z) hC
 have hS4:SqL K H4 a (ns.map V.int):=(s1.trans (s2.trans (s3.trans s4'))).seq hS
 have nu:∀ {G:Hp} {b:Addr} {u:HO},W3 tu H4 G → H4 b = some u → (∀ dx fs,u ≠ .ins C_Round dx fs) → G b = some u:=fun s z nz=>s _ _ (fun y=>by rw [y,etu] at z; exact nz _ _ (Option.some.inj z).symm) z
 refine ⟨_,rfl,l,_,rfl,.inl (SqL.of el4),_,_,rfl,_,rfl,?_,?_,?_⟩
 ·show -(2 ^ 62) ≤ (if (16:Int) < (((cs.map V.int).length:Nat):Int) then 16 else (((cs.map V.int).length:Nat):Int))
  split <;> lia
 ·rw [List.length_map]
  show (if (16:Int) < ((cs.length:Nat):Int) then 16 else ((cs.length:Nat):Int)) < 2 ^ 62
  split <;> lia
 rw [List.length_map]
 have bnd:∀ i:Nat,i < (if (16:Int) < ((cs.length:Nat):Int) then (16:Int) else ((cs.length:Nat):Int)).toNat → i < cs.length ∧ i < 17:=fun i hi=>by
  split at hi <;> lia
 refine A4 (fun i σ H'=>W3 tu H4 H' ∧ (∃ st,H' tu = some (.ins C_Round dx (C0 st))) ∧ ∃ v5 v6,σ = [some (.ref a),some (.ref p),some (.ref l),some (.ref lc),some (.ref tu),v5,v6])
  ⟨fun _ _ _ z=>z,⟨2,etu⟩,_,_,rfl⟩ ?_ ?_
 ·rintro i σ H' hi ⟨s6,⟨st,e6⟩,v5,v6,rfl⟩
  obtain ⟨hi1,hi2⟩:=bnd i hi
  rw [Int.zero_add]
  refine ⟨_,rfl,_,rfl,l,_,_,_,rfl,rfl,SqL.of (nu s6 el4 (fun _ _ y=>nomatch y)),aE2 hi1,_,rfl,_,i,rfl,by lia,fun n0 hn0=>?_⟩
  refine ⟨_,_,rfl,rfl,.inr ⟨by decide,by decide⟩,_,rfl,_,_,rfl,rfl,.inl ⟨by decide,by decide⟩,_,_,rfl,rfl,_,_,rfl,rfl,?_⟩
  refine ⟨_,rfl,_,rfl,_,rfl,_,rfl,p,lc,tu,dx,h,as,ks,_,st,rfl,SqT.of (nu s6 ep4 (fun _ _ y=>nomatch y)),ok,nu s6 ec4 (fun _ _ y=>nomatch y),m4.same (fun b xs z=>nu s6 z (fun _ _ y=>nomatch y)) hC4,hin,hfr,by lia,e6,fun st' H7 s7 e7=>⟨_,rfl,z6 ?_⟩⟩
  exact ⟨fun b u nb z=>s7 b u nb (s6 b u nb z),⟨st',e7⟩,_,_,rfl⟩
 ·rintro σ H' ⟨s6,⟨st,e6⟩,v5,v6,rfl⟩
  refine ⟨_,rfl,(by show 0 ≤ sizeLine; decide),fun l0 hl0=>?_⟩
  have el0:=i3 (H:=H') (a:=l0) (o:=.lst [])
  have s7:=i6 hl0 (.lst [])
  generalize upd H' l0 (.lst []) = H7 at el0 s7 ⊢
  have hS7:SqL K H7 a (ns.map V.int):=s7.seq (a83 s6 etu hS4)
  exact ⟨_,rfl,a,_,rfl,.inl hS7,_,rfl,p,l0,tu,dx,h,[],[],_,st,rfl,SqT.of (s7 _ _ (nu s6 ep4 (fun _ _ y=>nomatch y))),ok,el0,.nil,(fun k hk=>nomatch hk),List.Pairwise.nil,by decide,s7 _ _ e6,fun st' H8 _ _=>q H8⟩
end
section
variable {l:PySem.W.OpenLaw} {w:World} {K:PySem.W.Frag} {h:Heap} {mg:Str → Option Value}
theorem w9 {x:Str} {st:Stmt} {ps:List Str} {f:Addr} {oc:Value} {od an:Option Addr} {sl:Array (Option Value)} {kV dc pm cd ct:Value} (X:K.In h) (G:h.Ns mainGlobals mg) (a:PySem.W.nsIn K mainGlobals x = some (some (.ref f)))
  (l:K.lookup f = some ⟨oc,od,.func (PySem.W.fnOf x x (m5 st) (j9 st) (i7 st) .none kV dc pm an cd ct),sl⟩) (c:PySem.W.codeIn K cd x = true) (k:PySem.W.keepIn K (.ref f) = true)
  (b:∀ us:List Value,us.length = ps.length → bindArgs (PySem.W.fnOf x x (m5 st) (j9 st) (i7 st) .none kV dc pm an cd ct) ⟨us,[]⟩ = pure (ps.zip us)):Def K mg x st ps :=
 ⟨f,_,aS5 l c k,.all b,PySem.W.mg_of X G a⟩
theorem bb1 {fa f1 f2 f3 f4 f5 f6 f7 f8 f9 f10 f11 f12 f13 f14 f15 f16 f17 f18 f19 f20 f21 f22 f23 f24 f25 f26 f27 f28 f29 f30 f31 f32 f33 f34 f35 f36 f37 f38 f39 f40 f41  C_Rule C_Round C_HallError C_NoHall C_NoCalls C_NoLine C_NoRule C_Idle C_Busy C_Engaged C_NoMove fm_Rule_choose fm_Round___init__ fm_Round_choose fm_Busy___init__ fm_Engaged___init__:Addr} (X:K.In h) (G:h.Ns mainGlobals mg) (hfa:mg "law" = some (.ref fa))
  {od1 an1 od2 an2 od3 an3 od4 an4 od5 an5 od6 an6 od7 an7 od8 an8 od9 an9 od10 an10 od11 an11 od12 an12 od13 an13 od14 an14 od15 an15 od16 an16 od17 an17 od18 an18 od19 an19 od20 an20 od21 an21 od22 an22 od23 an23 od24 an24 od25 an25 od26 an26 od27 an27 od28 an28 od29 an29 od30 an30 od31 an31 od32 an32 od33 an33 od34 an34 od35 an35 od36 an36 od37 an37 od38 an38 od39 an39 od40 an40 od41 an41:Option Addr} {sl1 sl2 sl3 sl4 sl5 sl6 sl7 sl8 sl9 sl10 sl11 sl12 sl13 sl14 sl15 sl16 sl17 sl18 sl19 sl20 sl21 sl22 sl23 sl24 sl25 sl26 sl27 sl28 sl29 sl30 sl31 sl32 sl33 sl34 sl35 sl36 sl37 sl38 sl39 sl40 sl41:Array (Option Value)} {oc1 kV1 dc1 pm1 cd1 ct1 oc2 kV2 dc2 pm2 cd2 ct2 oc3 kV3 dc3 pm3 cd3 ct3 oc4 kV4 dc4 pm4 cd4 ct4 oc5 kV5 dc5 pm5 cd5 ct5 oc6 kV6 dc6 pm6 cd6 ct6 oc7 kV7 dc7 pm7 cd7 ct7 oc8 kV8 dc8 pm8 cd8 ct8 oc9 kV9 dc9 pm9 cd9 ct9 oc10 kV10 dc10 pm10 cd10 ct10 oc11 kV11 dc11 pm11 cd11 ct11 oc12 kV12 dc12 pm12 cd12 ct12 oc13 kV13 dc13 pm13 cd13 ct13 oc14 kV14 dc14 pm14 cd14 ct14 oc15 kV15 dc15 pm15 cd15 ct15 oc16 kV16 dc16 pm16 cd16 ct16 oc17 kV17 dc17 pm17 cd17 ct17 oc18 kV18 dc18 pm18 cd18 ct18 oc19 kV19 dc19 pm19 cd19 ct19 oc20 kV20 dc20 pm20 cd20 ct20 oc21 kV21 dc21 pm21 cd21 ct21 oc22 kV22 dc22 pm22 cd22 ct22 oc23 kV23 dc23 pm23 cd23 ct23 oc24 kV24 dc24 pm24 cd24 ct24 oc25 kV25 dc25 pm25 cd25 ct25 oc26 kV26 dc26 pm26 cd26 ct26 oc27 kV27 dc27 pm27 cd27 ct27 oc28 kV28 dc28 pm28 cd28 ct28 oc29 kV29 dc29 pm29 cd29 ct29 oc30 kV30 dc30 pm30 cd30 ct30 oc31 kV31 dc31 pm31 cd31 ct31 oc32 kV32 dc32 pm32 cd32 ct32 oc33 kV33 dc33 pm33 cd33 ct33 oc34 kV34 dc34 pm34 cd34 ct34 oc35 kV35 dc35 pm35 cd35 ct35 oc36 kV36 dc36 pm36 cd36 ct36 oc37 kV37 dc37 pm37 cd37 ct37 oc38 kV38 dc38 pm38 cd38 ct38 oc39 kV39 dc39 pm39 cd39 ct39 oc40 kV40 dc40 pm40 cd40 ct40 oc41 kV41 dc41 pm41 cd41 ct41:Value}
  {dv13:Addr} {odv13:Option Addr} {slv13:Array (Option Value)} {nv13:Nat} {td13_0:Tok}
  {dv14:Addr} {odv14:Option Addr} {slv14:Array (Option Value)} {nv14:Nat} {td14_0:Tok}
  {dv21:Addr} {odv21:Option Addr} {slv21:Array (Option Value)} {nv21:Nat} {td21_1:Tok}
  (a1:PySem.W.nsIn K mainGlobals "is_number" = some (some (.ref f1))) (l1:K.lookup f1 = some ⟨oc1,od1,.func (PySem.W.fnOf "is_number" "is_number" (m5 (top 11)) (j9 (top 11)) (i7 (top 11)) .none kV1 dc1 pm1 an1 cd1 ct1),sl1⟩) (c1:PySem.W.codeIn K cd1 "is_number" = true) (k1:PySem.W.keepIn K (.ref f1) = true)
  (a2:PySem.W.nsIn K mainGlobals "is_whole" = some (some (.ref f2))) (l2:K.lookup f2 = some ⟨oc2,od2,.func (PySem.W.fnOf "is_whole" "is_whole" (m5 (top 12)) (j9 (top 12)) (i7 (top 12)) .none kV2 dc2 pm2 an2 cd2 ct2),sl2⟩) (c2:PySem.W.codeIn K cd2 "is_whole" = true) (k2:PySem.W.keepIn K (.ref f2) = true)
  (a3:PySem.W.nsIn K mainGlobals "place_in" = some (some (.ref f3))) (l3:K.lookup f3 = some ⟨oc3,od3,.func (PySem.W.fnOf "place_in" "place_in" (m5 (top 13)) (j9 (top 13)) (i7 (top 13)) .none kV3 dc3 pm3 an3 cd3 ct3),sl3⟩) (c3:PySem.W.codeIn K cd3 "place_in" = true) (k3:PySem.W.keepIn K (.ref f3) = true)
  (a4:PySem.W.nsIn K mainGlobals "place_out" = some (some (.ref f4))) (l4:K.lookup f4 = some ⟨oc4,od4,.func (PySem.W.fnOf "place_out" "place_out" (m5 (top 14)) (j9 (top 14)) (i7 (top 14)) .none kV4 dc4 pm4 an4 cd4 ct4),sl4⟩) (c4:PySem.W.codeIn K cd4 "place_out" = true) (k4:PySem.W.keepIn K (.ref f4) = true)
  (a5:PySem.W.nsIn K mainGlobals "are_ends" = some (some (.ref f5))) (l5:K.lookup f5 = some ⟨oc5,od5,.func (PySem.W.fnOf "are_ends" "are_ends" (m5 (top 15)) (j9 (top 15)) (i7 (top 15)) .none kV5 dc5 pm5 an5 cd5 ct5),sl5⟩) (c5:PySem.W.codeIn K cd5 "are_ends" = true) (k5:PySem.W.keepIn K (.ref f5) = true)
  (a6:PySem.W.nsIn K mainGlobals "racks_of" = some (some (.ref f6))) (l6:K.lookup f6 = some ⟨oc6,od6,.func (PySem.W.fnOf "racks_of" "racks_of" (m5 (top 16)) (j9 (top 16)) (i7 (top 16)) .none kV6 dc6 pm6 an6 cd6 ct6),sl6⟩) (c6:PySem.W.codeIn K cd6 "racks_of" = true) (k6:PySem.W.keepIn K (.ref f6) = true)
  (a7:PySem.W.nsIn K mainGlobals "left_open" = some (some (.ref f7))) (l7:K.lookup f7 = some ⟨oc7,od7,.func (PySem.W.fnOf "left_open" "left_open" (m5 (top 18)) (j9 (top 18)) (i7 (top 18)) .none kV7 dc7 pm7 an7 cd7 ct7),sl7⟩) (c7:PySem.W.codeIn K cd7 "left_open" = true) (k7:PySem.W.keepIn K (.ref f7) = true)
  (a8:PySem.W.nsIn K mainGlobals "are_unlike" = some (some (.ref f8))) (l8:K.lookup f8 = some ⟨oc8,od8,.func (PySem.W.fnOf "are_unlike" "are_unlike" (m5 (top 19)) (j9 (top 19)) (i7 (top 19)) .none kV8 dc8 pm8 an8 cd8 ct8),sl8⟩) (c8:PySem.W.codeIn K cd8 "are_unlike" = true) (k8:PySem.W.keepIn K (.ref f8) = true)
  (a9:PySem.W.nsIn K mainGlobals "is_caller" = some (some (.ref f9))) (l9:K.lookup f9 = some ⟨oc9,od9,.func (PySem.W.fnOf "is_caller" "is_caller" (m5 (top 24)) (j9 (top 24)) (i7 (top 24)) .none kV9 dc9 pm9 an9 cd9 ct9),sl9⟩) (c9:PySem.W.codeIn K cd9 "is_caller" = true) (k9:PySem.W.keepIn K (.ref f9) = true)
  (a10:PySem.W.nsIn K mainGlobals "is_ends" = some (some (.ref f10))) (l10:K.lookup f10 = some ⟨oc10,od10,.func (PySem.W.fnOf "is_ends" "is_ends" (m5 (top 25)) (j9 (top 25)) (i7 (top 25)) .none kV10 dc10 pm10 an10 cd10 ct10),sl10⟩) (c10:PySem.W.codeIn K cd10 "is_ends" = true) (k10:PySem.W.keepIn K (.ref f10) = true)
  (a11:PySem.W.nsIn K mainGlobals "holds_needed" = some (some (.ref f11))) (l11:K.lookup f11 = some ⟨oc11,od11,.func (PySem.W.fnOf "holds_needed" "holds_needed" (m5 (top 26)) (j9 (top 26)) (i7 (top 26)) .none kV11 dc11 pm11 an11 cd11 ct11),sl11⟩) (c11:PySem.W.codeIn K cd11 "holds_needed" = true) (k11:PySem.W.keepIn K (.ref f11) = true)
  (a12:PySem.W.nsIn K mainGlobals "holders" = some (some (.ref f12))) (l12:K.lookup f12 = some ⟨oc12,od12,.func (PySem.W.fnOf "holders" "holders" (m5 (top 27)) (j9 (top 27)) (i7 (top 27)) .none kV12 dc12 pm12 an12 cd12 ct12),sl12⟩) (c12:PySem.W.codeIn K cd12 "holders" = true) (k12:PySem.W.keepIn K (.ref f12) = true)
  (dl13:K.lookup dv13 = some ⟨.type "tuple",odv13,.seq #[.int 0 td13_0] nv13,slv13⟩)
  (a13:PySem.W.nsIn K mainGlobals "ways" = some (some (.ref f13))) (l13:K.lookup f13 = some ⟨oc13,od13,.func (PySem.W.fnOf "ways" "ways" (m5 (top 28)) (j9 (top 28)) (i7 (top 28)) (.ref dv13) kV13 dc13 pm13 an13 cd13 ct13),sl13⟩) (c13:PySem.W.codeIn K cd13 "ways" = true) (k13:PySem.W.keepIn K (.ref f13) = true)
  (dl14:K.lookup dv14 = some ⟨.type "tuple",odv14,.seq #[.int 0 td14_0] nv14,slv14⟩)
  (a14:PySem.W.nsIn K mainGlobals "least_ended" = some (some (.ref f14))) (l14:K.lookup f14 = some ⟨oc14,od14,.func (PySem.W.fnOf "least_ended" "least_ended" (m5 (top 29)) (j9 (top 29)) (i7 (top 29)) (.ref dv14) kV14 dc14 pm14 an14 cd14 ct14),sl14⟩) (c14:PySem.W.codeIn K cd14 "least_ended" = true) (k14:PySem.W.keepIn K (.ref f14) = true)
  (a15:PySem.W.nsIn K mainGlobals "call_of" = some (some (.ref f15))) (l15:K.lookup f15 = some ⟨oc15,od15,.func (PySem.W.fnOf "call_of" "call_of" (m5 (top 31)) (j9 (top 31)) (i7 (top 31)) .none kV15 dc15 pm15 an15 cd15 ct15),sl15⟩) (c15:PySem.W.codeIn K cd15 "call_of" = true) (k15:PySem.W.keepIn K (.ref f15) = true)
  (a16:PySem.W.nsIn K mainGlobals "holder_of" = some (some (.ref f16))) (l16:K.lookup f16 = some ⟨oc16,od16,.func (PySem.W.fnOf "holder_of" "holder_of" (m5 (top 32)) (j9 (top 32)) (i7 (top 32)) .none kV16 dc16 pm16 an16 cd16 ct16),sl16⟩) (c16:PySem.W.codeIn K cd16 "holder_of" = true) (k16:PySem.W.keepIn K (.ref f16) = true)
  (a17:PySem.W.nsIn K mainGlobals "refuse_wrong" = some (some (.ref f17))) (l17:K.lookup f17 = some ⟨oc17,od17,.func (PySem.W.fnOf "refuse_wrong" "refuse_wrong" (m5 (top 33)) (j9 (top 33)) (i7 (top 33)) .none kV17 dc17 pm17 an17 cd17 ct17),sl17⟩) (c17:PySem.W.codeIn K cd17 "refuse_wrong" = true) (k17:PySem.W.keepIn K (.ref f17) = true)
  (a18:PySem.W.nsIn K mainGlobals "refuse_busy" = some (some (.ref f18))) (l18:K.lookup f18 = some ⟨oc18,od18,.func (PySem.W.fnOf "refuse_busy" "refuse_busy" (m5 (top 34)) (j9 (top 34)) (i7 (top 34)) .none kV18 dc18 pm18 an18 cd18 ct18),sl18⟩) (c18:PySem.W.codeIn K cd18 "refuse_busy" = true) (k18:PySem.W.keepIn K (.ref f18) = true)
  (a19:PySem.W.nsIn K mainGlobals "refuse_engaged" = some (some (.ref f19))) (l19:K.lookup f19 = some ⟨oc19,od19,.func (PySem.W.fnOf "refuse_engaged" "refuse_engaged" (m5 (top 35)) (j9 (top 35)) (i7 (top 35)) .none kV19 dc19 pm19 an19 cd19 ct19),sl19⟩) (c19:PySem.W.codeIn K cd19 "refuse_engaged" = true) (k19:PySem.W.keepIn K (.ref f19) = true)
  (a20:PySem.W.nsIn K mainGlobals "with_call" = some (some (.ref f20))) (l20:K.lookup f20 = some ⟨oc20,od20,.func (PySem.W.fnOf "with_call" "with_call" (m5 (top 36)) (j9 (top 36)) (i7 (top 36)) .none kV20 dc20 pm20 an20 cd20 ct20),sl20⟩) (c20:PySem.W.codeIn K cd20 "with_call" = true) (k20:PySem.W.keepIn K (.ref f20) = true)
  (dl21:K.lookup dv21 = some ⟨.type "tuple",odv21,.seq #[.none,.int 0 td21_1] nv21,slv21⟩)
  (a21:PySem.W.nsIn K mainGlobals "joined" = some (some (.ref f21))) (l21:K.lookup f21 = some ⟨oc21,od21,.func (PySem.W.fnOf "joined" "joined" (m5 (top 37)) (j9 (top 37)) (i7 (top 37)) (.ref dv21) kV21 dc21 pm21 an21 cd21 ct21),sl21⟩) (c21:PySem.W.codeIn K cd21 "joined" = true) (k21:PySem.W.keepIn K (.ref f21) = true)
  (a22:PySem.W.nsIn K mainGlobals "_law_cell_at" = some (some (.ref f22))) (l22:K.lookup f22 = some ⟨oc22,od22,.func (PySem.W.fnOf "_law_cell_at" "_law_cell_at" (m5 (top 39)) (j9 (top 39)) (i7 (top 39)) .none kV22 dc22 pm22 an22 cd22 ct22),sl22⟩) (c22:PySem.W.codeIn K cd22 "_law_cell_at" = true) (k22:PySem.W.keepIn K (.ref f22) = true)
  (a23:PySem.W.nsIn K mainGlobals "_law_hall" = some (some (.ref f23))) (l23:K.lookup f23 = some ⟨oc23,od23,.func (PySem.W.fnOf "_law_hall" "_law_hall" (m5 (top 40)) (j9 (top 40)) (i7 (top 40)) .none kV23 dc23 pm23 an23 cd23 ct23),sl23⟩) (c23:PySem.W.codeIn K cd23 "_law_hall" = true) (k23:PySem.W.keepIn K (.ref f23) = true)
  (a24:PySem.W.nsIn K mainGlobals "_law_ends" = some (some (.ref f24))) (l24:K.lookup f24 = some ⟨oc24,od24,.func (PySem.W.fnOf "_law_ends" "_law_ends" (m5 (top 41)) (j9 (top 41)) (i7 (top 41)) .none kV24 dc24 pm24 an24 cd24 ct24),sl24⟩) (c24:PySem.W.codeIn K cd24 "_law_ends" = true) (k24:PySem.W.keepIn K (.ref f24) = true)
  (a25:PySem.W.nsIn K mainGlobals "_law_lines" = some (some (.ref f25))) (l25:K.lookup f25 = some ⟨oc25,od25,.func (PySem.W.fnOf "_law_lines" "_law_lines" (m5 (top 42)) (j9 (top 42)) (i7 (top 42)) .none kV25 dc25 pm25 an25 cd25 ct25),sl25⟩) (c25:PySem.W.codeIn K cd25 "_law_lines" = true) (k25:PySem.W.keepIn K (.ref f25) = true)
  (a26:PySem.W.nsIn K mainGlobals "_law_number" = some (some (.ref f26))) (l26:K.lookup f26 = some ⟨oc26,od26,.func (PySem.W.fnOf "_law_number" "_law_number" (m5 (top 43)) (j9 (top 43)) (i7 (top 43)) .none kV26 dc26 pm26 an26 cd26 ct26),sl26⟩) (c26:PySem.W.codeIn K cd26 "_law_number" = true) (k26:PySem.W.keepIn K (.ref f26) = true)
  (a27:PySem.W.nsIn K mainGlobals "_law_try" = some (some (.ref f27))) (l27:K.lookup f27 = some ⟨oc27,od27,.func (PySem.W.fnOf "_law_try" "_law_try" (m5 (top 44)) (j9 (top 44)) (i7 (top 44)) .none kV27 dc27 pm27 an27 cd27 ct27),sl27⟩) (c27:PySem.W.codeIn K cd27 "_law_try" = true) (k27:PySem.W.keepIn K (.ref f27) = true)
  (a28:PySem.W.nsIn K mainGlobals "_law_calls" = some (some (.ref f28))) (l28:K.lookup f28 = some ⟨oc28,od28,.func (PySem.W.fnOf "_law_calls" "_law_calls" (m5 (top 45)) (j9 (top 45)) (i7 (top 45)) .none kV28 dc28 pm28 an28 cd28 ct28),sl28⟩) (c28:PySem.W.codeIn K cd28 "_law_calls" = true) (k28:PySem.W.keepIn K (.ref f28) = true)
  (a29:PySem.W.nsIn K mainGlobals "_law_alike" = some (some (.ref f29))) (l29:K.lookup f29 = some ⟨oc29,od29,.func (PySem.W.fnOf "_law_alike" "_law_alike" (m5 (top 46)) (j9 (top 46)) (i7 (top 46)) .none kV29 dc29 pm29 an29 cd29 ct29),sl29⟩) (c29:PySem.W.codeIn K cd29 "_law_alike" = true) (k29:PySem.W.keepIn K (.ref f29) = true)
  (a30:PySem.W.nsIn K mainGlobals "_law_kind" = some (some (.ref f30))) (l30:K.lookup f30 = some ⟨oc30,od30,.func (PySem.W.fnOf "_law_kind" "_law_kind" (m5 (top 47)) (j9 (top 47)) (i7 (top 47)) .none kV30 dc30 pm30 an30 cd30 ct30),sl30⟩) (c30:PySem.W.codeIn K cd30 "_law_kind" = true) (k30:PySem.W.keepIn K (.ref f30) = true)
  (a31:PySem.W.nsIn K mainGlobals "_law_holds" = some (some (.ref f31))) (l31:K.lookup f31 = some ⟨oc31,od31,.func (PySem.W.fnOf "_law_holds" "_law_holds" (m5 (top 48)) (j9 (top 48)) (i7 (top 48)) .none kV31 dc31 pm31 an31 cd31 ct31),sl31⟩) (c31:PySem.W.codeIn K cd31 "_law_holds" = true) (k31:PySem.W.keepIn K (.ref f31) = true)
  (a32:PySem.W.nsIn K mainGlobals "_law_best" = some (some (.ref f32))) (l32:K.lookup f32 = some ⟨oc32,od32,.func (PySem.W.fnOf "_law_best" "_law_best" (m5 (top 49)) (j9 (top 49)) (i7 (top 49)) .none kV32 dc32 pm32 an32 cd32 ct32),sl32⟩) (c32:PySem.W.codeIn K cd32 "_law_best" = true) (k32:PySem.W.keepIn K (.ref f32) = true)
  (a33:PySem.W.nsIn K mainGlobals "_law_busy" = some (some (.ref f33))) (l33:K.lookup f33 = some ⟨oc33,od33,.func (PySem.W.fnOf "_law_busy" "_law_busy" (m5 (top 50)) (j9 (top 50)) (i7 (top 50)) .none kV33 dc33 pm33 an33 cd33 ct33),sl33⟩) (c33:PySem.W.codeIn K cd33 "_law_busy" = true) (k33:PySem.W.keepIn K (.ref f33) = true)
  (a34:PySem.W.nsIn K mainGlobals "_law_caller" = some (some (.ref f34))) (l34:K.lookup f34 = some ⟨oc34,od34,.func (PySem.W.fnOf "_law_caller" "_law_caller" (m5 (top 51)) (j9 (top 51)) (i7 (top 51)) .none kV34 dc34 pm34 an34 cd34 ct34),sl34⟩) (c34:PySem.W.codeIn K cd34 "_law_caller" = true) (k34:PySem.W.keepIn K (.ref f34) = true)
  (a35:PySem.W.nsIn K mainGlobals "_law_wanted" = some (some (.ref f35))) (l35:K.lookup f35 = some ⟨oc35,od35,.func (PySem.W.fnOf "_law_wanted" "_law_wanted" (m5 (top 52)) (j9 (top 52)) (i7 (top 52)) .none kV35 dc35 pm35 an35 cd35 ct35),sl35⟩) (c35:PySem.W.codeIn K cd35 "_law_wanted" = true) (k35:PySem.W.keepIn K (.ref f35) = true)
  (a36:PySem.W.nsIn K mainGlobals "_law_none" = some (some (.ref f36))) (l36:K.lookup f36 = some ⟨oc36,od36,.func (PySem.W.fnOf "_law_none" "_law_none" (m5 (top 53)) (j9 (top 53)) (i7 (top 53)) .none kV36 dc36 pm36 an36 cd36 ct36),sl36⟩) (c36:PySem.W.codeIn K cd36 "_law_none" = true) (k36:PySem.W.keepIn K (.ref f36) = true)
  (a37:PySem.W.nsIn K mainGlobals "_law_due" = some (some (.ref f37))) (l37:K.lookup f37 = some ⟨oc37,od37,.func (PySem.W.fnOf "_law_due" "_law_due" (m5 (top 54)) (j9 (top 54)) (i7 (top 54)) .none kV37 dc37 pm37 an37 cd37 ct37),sl37⟩) (c37:PySem.W.codeIn K cd37 "_law_due" = true) (k37:PySem.W.keepIn K (.ref f37) = true)
  (a38:PySem.W.nsIn K mainGlobals "_law_paper" = some (some (.ref f38))) (l38:K.lookup f38 = some ⟨oc38,od38,.func (PySem.W.fnOf "_law_paper" "_law_paper" (m5 (top 55)) (j9 (top 55)) (i7 (top 55)) .none kV38 dc38 pm38 an38 cd38 ct38),sl38⟩) (c38:PySem.W.codeIn K cd38 "_law_paper" = true) (k38:PySem.W.keepIn K (.ref f38) = true)
  (a39:PySem.W.nsIn K mainGlobals "_law_right" = some (some (.ref f39))) (l39:K.lookup f39 = some ⟨oc39,od39,.func (PySem.W.fnOf "_law_right" "_law_right" (m5 (top 56)) (j9 (top 56)) (i7 (top 56)) .none kV39 dc39 pm39 an39 cd39 ct39),sl39⟩) (c39:PySem.W.codeIn K cd39 "_law_right" = true) (k39:PySem.W.keepIn K (.ref f39) = true)
  (a40:PySem.W.nsIn K mainGlobals "_law_asked" = some (some (.ref f40))) (l40:K.lookup f40 = some ⟨oc40,od40,.func (PySem.W.fnOf "_law_asked" "_law_asked" (m5 (top 57)) (j9 (top 57)) (i7 (top 57)) .none kV40 dc40 pm40 an40 cd40 ct40),sl40⟩) (c40:PySem.W.codeIn K cd40 "_law_asked" = true) (k40:PySem.W.keepIn K (.ref f40) = true)
  (a41:PySem.W.nsIn K mainGlobals "law" = some (some (.ref f41))) (l41:K.lookup f41 = some ⟨oc41,od41,.func (PySem.W.fnOf "law" "law" (m5 (top 58)) (j9 (top 58)) (i7 (top 58)) .none kV41 dc41 pm41 an41 cd41 ct41),sl41⟩) (c41:PySem.W.codeIn K cd41 "law" = true) (k41:PySem.W.keepIn K (.ref f41) = true)
  (q_Rule_at:PySem.W.nsIn K mainGlobals "Rule" = some (some (.ref C_Rule)))
  (q_Rule_pg:PySem.W.plainGet K C_Rule Str.empty = true) (q_Rule_hd:PySem.W.hasDictIn K C_Rule = true) (q_Rule_po:PySem.W.plainOver K C_Rule = true) (q_Rule_sa:PySem.W.findIn K (.ref C_Rule) "__setattr__" = some (some (.builtin "object.__setattr__"))) (q_Rule_mk:PySem.W.makesIn K C_Rule = true) (q_Rule_kc:PySem.W.keepIn K (.ref C_Rule) = true)
  (q_Rule_ha:PySem.W.findIn K (.ref C_Rule) "__class__" = some (some (.builtin "object.__class__"))) (q_Rule_hn:PySem.W.specialIn K (.builtin "object.__class__") "__get__" = some (some (.builtin "getset_descriptor.__get__"))) (q_Rule_ht:PySem.W.takesIn K (.builtin "object.__class__") = some true) (q_Rule_hm:PySem.W.mroIn K C_Rule (.type "object") = some true)
  (q_Rule_pi:PySem.W.findIn K (.ref C_Rule) "__init__" = some (some (.builtin "object.__init__")))
  (q_Round_at:PySem.W.nsIn K mainGlobals "Round" = some (some (.ref C_Round)))
  (q_Round_pg:PySem.W.plainGet K C_Round Str.empty = true) (q_Round_hd:PySem.W.hasDictIn K C_Round = true) (q_Round_po:PySem.W.plainOver K C_Round = true) (q_Round_sa:PySem.W.findIn K (.ref C_Round) "__setattr__" = some (some (.builtin "object.__setattr__"))) (q_Round_mk:PySem.W.makesIn K C_Round = true) (q_Round_kc:PySem.W.keepIn K (.ref C_Round) = true)
  (q_Round_ha:PySem.W.findIn K (.ref C_Round) "__class__" = some (some (.builtin "object.__class__"))) (q_Round_hn:PySem.W.specialIn K (.builtin "object.__class__") "__get__" = some (some (.builtin "getset_descriptor.__get__"))) (q_Round_ht:PySem.W.takesIn K (.builtin "object.__class__") = some true) (q_Round_hm:PySem.W.mroIn K C_Round (.type "object") = some true)
  (q_Round_n_start:PySem.W.findIn K (.ref C_Round) "start" = some none)
  (q_HallError_at:PySem.W.nsIn K mainGlobals "HallError" = some (some (.ref C_HallError)))
  (q_NoHall_at:PySem.W.nsIn K mainGlobals "NoHall" = some (some (.ref C_NoHall)))
  (q_NoCalls_at:PySem.W.nsIn K mainGlobals "NoCalls" = some (some (.ref C_NoCalls)))
  (q_NoLine_at:PySem.W.nsIn K mainGlobals "NoLine" = some (some (.ref C_NoLine)))
  (q_NoRule_at:PySem.W.nsIn K mainGlobals "NoRule" = some (some (.ref C_NoRule)))
  (q_Idle_at:PySem.W.nsIn K mainGlobals "Idle" = some (some (.ref C_Idle)))
  (q_Busy_at:PySem.W.nsIn K mainGlobals "Busy" = some (some (.ref C_Busy)))
  (q_Engaged_at:PySem.W.nsIn K mainGlobals "Engaged" = some (some (.ref C_Engaged)))
  (q_NoMove_at:PySem.W.nsIn K mainGlobals "NoMove" = some (some (.ref C_NoMove)))
  (q_Round_cl:PySem.W.isClsIn K C_Round = true) (q_Round_tt:PySem.W.typeIn K (.ref C_Round) = some (.type "type"))
  (q_Rule_cl:PySem.W.isClsIn K C_Rule = true) (q_Rule_tt:PySem.W.typeIn K (.ref C_Rule) = some (.type "type"))
  (q_kit_Round_Rule:PySem.W.subIn K (.ref C_Round) (.ref C_Rule) = some true)
  (q_kit_Round_Round:PySem.W.subIn K (.ref C_Round) (.ref C_Round) = some true)
  (q_HallError_ic:PySem.W.isClsIn K C_HallError = true) (q_HallError_ty:PySem.W.typeIn K (.ref C_HallError) = some (.type "type"))
  (q_NoHall_ic:PySem.W.isClsIn K C_NoHall = true) (q_NoHall_ty:PySem.W.typeIn K (.ref C_NoHall) = some (.type "type"))
  (q_NoCalls_ic:PySem.W.isClsIn K C_NoCalls = true) (q_NoCalls_ty:PySem.W.typeIn K (.ref C_NoCalls) = some (.type "type"))
  (q_NoLine_ic:PySem.W.isClsIn K C_NoLine = true) (q_NoLine_ty:PySem.W.typeIn K (.ref C_NoLine) = some (.type "type"))
  (q_NoRule_ic:PySem.W.isClsIn K C_NoRule = true) (q_NoRule_ty:PySem.W.typeIn K (.ref C_NoRule) = some (.type "type"))
  (q_Idle_ic:PySem.W.isClsIn K C_Idle = true) (q_Idle_ty:PySem.W.typeIn K (.ref C_Idle) = some (.type "type"))
  (q_Busy_ic:PySem.W.isClsIn K C_Busy = true) (q_Busy_ty:PySem.W.typeIn K (.ref C_Busy) = some (.type "type"))
  (q_Engaged_ic:PySem.W.isClsIn K C_Engaged = true) (q_Engaged_ty:PySem.W.typeIn K (.ref C_Engaged) = some (.type "type"))
  (q_NoMove_ic:PySem.W.isClsIn K C_NoMove = true) (q_NoMove_ty:PySem.W.typeIn K (.ref C_NoMove) = some (.type "type"))
  (q_hb:PySem.W.subIn K (.ref C_HallError) (.type "BaseException") = some true) (q_gt:PySem.W.specialIn K (.builtin "object.__class__") "__get__" = some (some (.builtin "getset_descriptor.__get__"))) (q_tk:PySem.W.takesIn K (.builtin "object.__class__") = some true)
  (q_NoLine_ex:PySem.W.excIn K C_NoLine [.type "ValueError",.type "Exception",.type "BaseException",.type "object"] "ValueError.__new__" = true)
  (q_NoLine_ga:PySem.W.findIn K (.ref C_NoLine) "__getattribute__" = some (some (.builtin "BaseException.__getattribute__"))) (q_NoLine_gn:PySem.W.findIn K (.ref C_NoLine) "__getattr__" = some none) (q_NoLine_cl:PySem.W.findIn K (.ref C_NoLine) "__class__" = some (some (.builtin "object.__class__"))) (q_NoLine_mo:PySem.W.mroIn K C_NoLine (.type "object") = some true) (q_NoLine_mb:PySem.W.mroIn K C_NoLine (.type "BaseException") = some true) (q_NoLine_sv:PySem.W.subIn K (.ref C_NoLine) (.type "ValueError") = some true)
  (q_NoLine_s_HallError:PySem.W.subIn K (.ref C_NoLine) (.ref C_HallError) = some true)
  (q_NoLine_s_NoHall:PySem.W.subIn K (.ref C_NoLine) (.ref C_NoHall) = some false)
  (q_NoLine_s_NoCalls:PySem.W.subIn K (.ref C_NoLine) (.ref C_NoCalls) = some false)
  (q_NoLine_s_NoLine:PySem.W.subIn K (.ref C_NoLine) (.ref C_NoLine) = some true)
  (q_NoLine_s_NoRule:PySem.W.subIn K (.ref C_NoLine) (.ref C_NoRule) = some false)
  (q_NoLine_s_Idle:PySem.W.subIn K (.ref C_NoLine) (.ref C_Idle) = some false)
  (q_NoLine_s_Busy:PySem.W.subIn K (.ref C_NoLine) (.ref C_Busy) = some false)
  (q_NoLine_s_Engaged:PySem.W.subIn K (.ref C_NoLine) (.ref C_Engaged) = some false)
  (q_NoLine_s_NoMove:PySem.W.subIn K (.ref C_NoLine) (.ref C_NoMove) = some false)
  (q_Busy_sa:PySem.W.findIn K (.ref C_Busy) "__setattr__" = some (some (.builtin "object.__setattr__")))
  (q_Busy_f_who:PySem.W.findIn K (.ref C_Busy) "who" = some none)
  (q_Busy_ga:PySem.W.findIn K (.ref C_Busy) "__getattribute__" = some (some (.builtin "BaseException.__getattribute__"))) (q_Busy_gn:PySem.W.findIn K (.ref C_Busy) "__getattr__" = some none) (q_Busy_cl:PySem.W.findIn K (.ref C_Busy) "__class__" = some (some (.builtin "object.__class__"))) (q_Busy_mo:PySem.W.mroIn K C_Busy (.type "object") = some true) (q_Busy_mb:PySem.W.mroIn K C_Busy (.type "BaseException") = some true) (q_Busy_sv:PySem.W.subIn K (.ref C_Busy) (.type "ValueError") = some true)
  (q_Busy_s_HallError:PySem.W.subIn K (.ref C_Busy) (.ref C_HallError) = some true)
  (q_Busy_s_NoHall:PySem.W.subIn K (.ref C_Busy) (.ref C_NoHall) = some false)
  (q_Busy_s_NoCalls:PySem.W.subIn K (.ref C_Busy) (.ref C_NoCalls) = some false)
  (q_Busy_s_NoLine:PySem.W.subIn K (.ref C_Busy) (.ref C_NoLine) = some false)
  (q_Busy_s_NoRule:PySem.W.subIn K (.ref C_Busy) (.ref C_NoRule) = some false)
  (q_Busy_s_Idle:PySem.W.subIn K (.ref C_Busy) (.ref C_Idle) = some false)
  (q_Busy_s_Busy:PySem.W.subIn K (.ref C_Busy) (.ref C_Busy) = some true)
  (q_Busy_s_Engaged:PySem.W.subIn K (.ref C_Busy) (.ref C_Engaged) = some false)
  (q_Busy_s_NoMove:PySem.W.subIn K (.ref C_Busy) (.ref C_NoMove) = some false)
  (q_Engaged_sa:PySem.W.findIn K (.ref C_Engaged) "__setattr__" = some (some (.builtin "object.__setattr__")))
  (q_Engaged_f_holds:PySem.W.findIn K (.ref C_Engaged) "holds" = some none)
  (q_Engaged_f_least:PySem.W.findIn K (.ref C_Engaged) "least" = some none)
  (q_Engaged_ga:PySem.W.findIn K (.ref C_Engaged) "__getattribute__" = some (some (.builtin "BaseException.__getattribute__"))) (q_Engaged_gn:PySem.W.findIn K (.ref C_Engaged) "__getattr__" = some none) (q_Engaged_cl:PySem.W.findIn K (.ref C_Engaged) "__class__" = some (some (.builtin "object.__class__"))) (q_Engaged_mo:PySem.W.mroIn K C_Engaged (.type "object") = some true) (q_Engaged_mb:PySem.W.mroIn K C_Engaged (.type "BaseException") = some true) (q_Engaged_sv:PySem.W.subIn K (.ref C_Engaged) (.type "ValueError") = some true)
  (q_Engaged_s_HallError:PySem.W.subIn K (.ref C_Engaged) (.ref C_HallError) = some true)
  (q_Engaged_s_NoHall:PySem.W.subIn K (.ref C_Engaged) (.ref C_NoHall) = some false)
  (q_Engaged_s_NoCalls:PySem.W.subIn K (.ref C_Engaged) (.ref C_NoCalls) = some false)
  (q_Engaged_s_NoLine:PySem.W.subIn K (.ref C_Engaged) (.ref C_NoLine) = some false)
  (q_Engaged_s_NoRule:PySem.W.subIn K (.ref C_Engaged) (.ref C_NoRule) = some false)
  (q_Engaged_s_Idle:PySem.W.subIn K (.ref C_Engaged) (.ref C_Idle) = some false)
  (q_Engaged_s_Busy:PySem.W.subIn K (.ref C_Engaged) (.ref C_Busy) = some false)
  (q_Engaged_s_Engaged:PySem.W.subIn K (.ref C_Engaged) (.ref C_Engaged) = some true)
  (q_Engaged_s_NoMove:PySem.W.subIn K (.ref C_Engaged) (.ref C_NoMove) = some false)
  {odm_Rule_choose anm_Rule_choose:Option Addr} {slm_Rule_choose:Array (Option Value)} {ocm_Rule_choose kvm_Rule_choose dcm_Rule_choose pmm_Rule_choose cdm_Rule_choose ctm_Rule_choose:Value}
  (q_Rule_choose_a:PySem.W.findIn K (.ref C_Rule) "choose" = some (some (.ref fm_Rule_choose))) (q_Rule_choose_i:PySem.W.isFn K (.ref fm_Rule_choose) = true) (q_Rule_choose_l:K.lookup fm_Rule_choose = some ⟨ocm_Rule_choose,odm_Rule_choose,.func (PySem.W.fnOf "choose" "Rule.choose" (m5 (u7 (top 21) 0)) (j9 (u7 (top 21) 0)) (i7 (u7 (top 21) 0)) .none kvm_Rule_choose dcm_Rule_choose pmm_Rule_choose anm_Rule_choose cdm_Rule_choose ctm_Rule_choose),slm_Rule_choose⟩) (q_Rule_choose_c:PySem.W.codeIn K cdm_Rule_choose "Rule.choose" = true) (q_Rule_choose_k:PySem.W.keepIn K (.ref fm_Rule_choose) = true)
  {odm_Round___init__ anm_Round___init__:Option Addr} {slm_Round___init__:Array (Option Value)} {ocm_Round___init__ kvm_Round___init__ dcm_Round___init__ pmm_Round___init__ cdm_Round___init__ ctm_Round___init__:Value}
  {dvm_Round___init__:Addr} {odd_Round___init__:Option Addr} {sld_Round___init__:Array (Option Value)} {nd_Round___init__:Nat} {tdm_Round___init___0:Tok}
  (q_Round___init___a:PySem.W.findIn K (.ref C_Round) "__init__" = some (some (.ref fm_Round___init__))) (q_Round___init___i:PySem.W.isFn K (.ref fm_Round___init__) = true) (q_Round___init___l:K.lookup fm_Round___init__ = some ⟨ocm_Round___init__,odm_Round___init__,.func (PySem.W.fnOf "__init__" "Round.__init__" (m5 (u7 (top 22) 0)) (j9 (u7 (top 22) 0)) (i7 (u7 (top 22) 0)) (.ref dvm_Round___init__) kvm_Round___init__ dcm_Round___init__ pmm_Round___init__ anm_Round___init__ cdm_Round___init__ ctm_Round___init__),slm_Round___init__⟩) (q_Round___init___c:PySem.W.codeIn K cdm_Round___init__ "Round.__init__" = true) (q_Round___init___k:PySem.W.keepIn K (.ref fm_Round___init__) = true)
  (q_Round___init___d:K.lookup dvm_Round___init__ = some ⟨.type "tuple",odd_Round___init__,.seq #[.int 0 tdm_Round___init___0] nd_Round___init__,sld_Round___init__⟩)
  {odm_Round_choose anm_Round_choose:Option Addr} {slm_Round_choose:Array (Option Value)} {ocm_Round_choose kvm_Round_choose dcm_Round_choose pmm_Round_choose cdm_Round_choose ctm_Round_choose:Value}
  (q_Round_choose_a:PySem.W.findIn K (.ref C_Round) "choose" = some (some (.ref fm_Round_choose))) (q_Round_choose_i:PySem.W.isFn K (.ref fm_Round_choose) = true) (q_Round_choose_l:K.lookup fm_Round_choose = some ⟨ocm_Round_choose,odm_Round_choose,.func (PySem.W.fnOf "choose" "Round.choose" (m5 (u7 (top 22) 1)) (j9 (u7 (top 22) 1)) (i7 (u7 (top 22) 1)) .none kvm_Round_choose dcm_Round_choose pmm_Round_choose anm_Round_choose cdm_Round_choose ctm_Round_choose),slm_Round_choose⟩) (q_Round_choose_c:PySem.W.codeIn K cdm_Round_choose "Round.choose" = true) (q_Round_choose_k:PySem.W.keepIn K (.ref fm_Round_choose) = true)
  {odm_Busy___init__ anm_Busy___init__:Option Addr} {slm_Busy___init__:Array (Option Value)} {ocm_Busy___init__ kvm_Busy___init__ dcm_Busy___init__ pmm_Busy___init__ cdm_Busy___init__ ctm_Busy___init__:Value}
  (q_Busy___init___a:PySem.W.findIn K (.ref C_Busy) "__init__" = some (some (.ref fm_Busy___init__))) (q_Busy___init___i:PySem.W.isFn K (.ref fm_Busy___init__) = true) (q_Busy___init___l:K.lookup fm_Busy___init__ = some ⟨ocm_Busy___init__,odm_Busy___init__,.func (PySem.W.fnOf "__init__" "Busy.__init__" (m5 (u7 (top 7) 0)) (j9 (u7 (top 7) 0)) (i7 (u7 (top 7) 0)) .none kvm_Busy___init__ dcm_Busy___init__ pmm_Busy___init__ anm_Busy___init__ cdm_Busy___init__ ctm_Busy___init__),slm_Busy___init__⟩) (q_Busy___init___c:PySem.W.codeIn K cdm_Busy___init__ "Busy.__init__" = true) (q_Busy___init___k:PySem.W.keepIn K (.ref fm_Busy___init__) = true)
  {odm_Engaged___init__ anm_Engaged___init__:Option Addr} {slm_Engaged___init__:Array (Option Value)} {ocm_Engaged___init__ kvm_Engaged___init__ dcm_Engaged___init__ pmm_Engaged___init__ cdm_Engaged___init__ ctm_Engaged___init__:Value}
  (q_Engaged___init___a:PySem.W.findIn K (.ref C_Engaged) "__init__" = some (some (.ref fm_Engaged___init__))) (q_Engaged___init___i:PySem.W.isFn K (.ref fm_Engaged___init__) = true) (q_Engaged___init___l:K.lookup fm_Engaged___init__ = some ⟨ocm_Engaged___init__,odm_Engaged___init__,.func (PySem.W.fnOf "__init__" "Engaged.__init__" (m5 (u7 (top 8) 0)) (j9 (u7 (top 8) 0)) (i7 (u7 (top 8) 0)) .none kvm_Engaged___init__ dcm_Engaged___init__ pmm_Engaged___init__ anm_Engaged___init__ cdm_Engaged___init__ ctm_Engaged___init__),slm_Engaged___init__⟩) (q_Engaged___init___c:PySem.W.codeIn K cdm_Engaged___init__ "Engaged.__init__" = true) (q_Engaged___init___k:PySem.W.keepIn K (.ref fm_Engaged___init__) = true)
  (q_Busy_xi:X0 K C_Busy fm_Busy___init__ = true)
  (q_Engaged_xi:X0 K C_Engaged fm_Engaged___init__ = true)
  (z_len:PySem.W.nsIn K mainGlobals "len" = some none) (z_isinstance:PySem.W.nsIn K mainGlobals "isinstance" = some none) (z_int:PySem.W.nsIn K mainGlobals "int" = some none) (z_bool:PySem.W.nsIn K mainGlobals "bool" = some none) (z_tuple:PySem.W.nsIn K mainGlobals "tuple" = some none) (z_list:PySem.W.nsIn K mainGlobals "list" = some none) (z_set:PySem.W.nsIn K mainGlobals "set" = some none) (z_sorted:PySem.W.nsIn K mainGlobals "sorted" = some none) (z_divmod:PySem.W.nsIn K mainGlobals "divmod" = some none) (z_range:PySem.W.nsIn K mainGlobals "range" = some none) (z_abs:PySem.W.nsIn K mainGlobals "abs" = some none) (z_min:PySem.W.nsIn K mainGlobals "min" = some none) (z_any:PySem.W.nsIn K mainGlobals "any" = some none) (z_all:PySem.W.nsIn K mainGlobals "all" = some none) (z_str:PySem.W.nsIn K mainGlobals "str" = some none) (z_ValueError:PySem.W.nsIn K mainGlobals "ValueError" = some none) :
  ∃ fd:FuncData,(∀ (s:Shared) (v:Value),BindsTo s fd ⟨[v],[]⟩ [("_law_script",v)]) ∧ ∀ base:Heap,K.In base → base.Ns mainGlobals mg → FnOk l.prog w K mg base CX0 9 fa fd ["_law_script"] (aK4 K):=by
 have e:=hfa.symm.trans (PySem.W.mg_of X G a41)
 cases e
 have T:Txt K mg:=⟨PySem.W.mg_none_of X G z_len,PySem.W.mg_none_of X G z_isinstance,PySem.W.mg_none_of X G z_int,PySem.W.mg_none_of X G z_bool,PySem.W.mg_none_of X G z_tuple,PySem.W.mg_none_of X G z_list,PySem.W.mg_none_of X G z_set,PySem.W.mg_none_of X G z_sorted,PySem.W.mg_none_of X G z_divmod,PySem.W.mg_none_of X G z_range,PySem.W.mg_none_of X G z_abs,PySem.W.mg_none_of X G z_min,PySem.W.mg_none_of X G z_any,PySem.W.mg_none_of X G z_all,PySem.W.mg_none_of X G z_str,PySem.W.mg_none_of X G z_ValueError⟩
 have Z:TxtC K mg C_Rule C_Round C_HallError C_NoHall C_NoCalls C_NoLine C_NoRule C_Idle C_Busy C_Engaged C_NoMove:=⟨PySem.W.mg_of X G q_Rule_at,⟨q_Rule_mk,q_Rule_kc,PySem.W.mg_of X G q_Rule_at⟩,⟨q_Rule_pg,q_Rule_hd,q_Rule_po,q_Rule_sa⟩,q_Rule_pi,fun H a dx fs e=>.ins e ⟨q_Rule_pg,q_Rule_hd,q_Rule_po,q_Rule_sa⟩ q_Rule_ha q_Rule_hn q_Rule_ht q_Rule_hm,PySem.W.mg_of X G q_Round_at,⟨q_Round_mk,q_Round_kc,PySem.W.mg_of X G q_Round_at⟩,⟨q_Round_pg,q_Round_hd,q_Round_po,q_Round_sa⟩,q_Round_n_start,fun H a dx fs e=>.ins e ⟨q_Round_pg,q_Round_hd,q_Round_po,q_Round_sa⟩ q_Round_ha q_Round_hn q_Round_ht q_Round_hm,PySem.W.mg_of X G q_HallError_at,PySem.W.mg_of X G q_NoHall_at,PySem.W.mg_of X G q_NoCalls_at,PySem.W.mg_of X G q_NoLine_at,PySem.W.mg_of X G q_NoRule_at,PySem.W.mg_of X G q_Idle_at,PySem.W.mg_of X G q_Busy_at,PySem.W.mg_of X G q_Engaged_at,PySem.W.mg_of X G q_NoMove_at,P3 q_Rule_cl q_Rule_tt q_kit_Round_Rule,P3 q_Round_cl q_Round_tt q_kit_Round_Round,⟨PySem.W.mg_of X G q_NoLine_at,q_NoLine_ex⟩,⟨q_NoLine_ga,q_NoLine_gn,q_NoLine_cl,q_gt,q_tk,q_NoLine_mo,q_NoLine_mb,q_NoLine_ic⟩,aq8 q_NoLine_sv,aq4 q_HallError_ic q_HallError_ty q_NoLine_s_HallError q_hb,P3 q_HallError_ic q_HallError_ty q_NoLine_s_HallError,A1 q_NoHall_ic q_NoHall_ty q_NoLine_s_NoHall q_NoLine_s_NoLine,A1 q_NoCalls_ic q_NoCalls_ty q_NoLine_s_NoCalls q_NoLine_s_NoLine,P3 q_NoLine_ic q_NoLine_ty q_NoLine_s_NoLine,A1 q_NoRule_ic q_NoRule_ty q_NoLine_s_NoRule q_NoLine_s_NoLine,A1 q_Idle_ic q_Idle_ty q_NoLine_s_Idle q_NoLine_s_NoLine,A1 q_Busy_ic q_Busy_ty q_NoLine_s_Busy q_NoLine_s_NoLine,A1 q_Engaged_ic q_Engaged_ty q_NoLine_s_Engaged q_NoLine_s_NoLine,A1 q_NoMove_ic q_NoMove_ty q_NoLine_s_NoMove q_NoLine_s_NoLine,⟨_,PySem.W.mg_of X G q_Busy_at,q_Busy_xi,q_Busy___init___a⟩,aJ3 q_Busy_xi q_Busy_sa,⟨q_Busy_ga,q_Busy_gn,q_Busy_cl,q_gt,q_tk,q_Busy_mo,q_Busy_mb,q_Busy_ic⟩,aq8 q_Busy_sv,aq4 q_HallError_ic q_HallError_ty q_Busy_s_HallError q_hb,P3 q_HallError_ic q_HallError_ty q_Busy_s_HallError,A1 q_NoHall_ic q_NoHall_ty q_Busy_s_NoHall q_Busy_s_Busy,A1 q_NoCalls_ic q_NoCalls_ty q_Busy_s_NoCalls q_Busy_s_Busy,A1 q_NoLine_ic q_NoLine_ty q_Busy_s_NoLine q_Busy_s_Busy,A1 q_NoRule_ic q_NoRule_ty q_Busy_s_NoRule q_Busy_s_Busy,A1 q_Idle_ic q_Idle_ty q_Busy_s_Idle q_Busy_s_Busy,P3 q_Busy_ic q_Busy_ty q_Busy_s_Busy,A1 q_Engaged_ic q_Engaged_ty q_Busy_s_Engaged q_Busy_s_Busy,A1 q_NoMove_ic q_NoMove_ty q_Busy_s_NoMove q_Busy_s_Busy,q_Busy_f_who,⟨_,PySem.W.mg_of X G q_Engaged_at,q_Engaged_xi,q_Engaged___init___a⟩,aJ3 q_Engaged_xi q_Engaged_sa,⟨q_Engaged_ga,q_Engaged_gn,q_Engaged_cl,q_gt,q_tk,q_Engaged_mo,q_Engaged_mb,q_Engaged_ic⟩,aq8 q_Engaged_sv,aq4 q_HallError_ic q_HallError_ty q_Engaged_s_HallError q_hb,P3 q_HallError_ic q_HallError_ty q_Engaged_s_HallError,A1 q_NoHall_ic q_NoHall_ty q_Engaged_s_NoHall q_Engaged_s_Engaged,A1 q_NoCalls_ic q_NoCalls_ty q_Engaged_s_NoCalls q_Engaged_s_Engaged,A1 q_NoLine_ic q_NoLine_ty q_Engaged_s_NoLine q_Engaged_s_Engaged,A1 q_NoRule_ic q_NoRule_ty q_Engaged_s_NoRule q_Engaged_s_Engaged,A1 q_Idle_ic q_Idle_ty q_Engaged_s_Idle q_Engaged_s_Engaged,A1 q_Busy_ic q_Busy_ty q_Engaged_s_Busy q_Engaged_s_Engaged,P3 q_Engaged_ic q_Engaged_ty q_Engaged_s_Engaged,A1 q_NoMove_ic q_NoMove_ty q_Engaged_s_NoMove q_Engaged_s_Engaged,q_Engaged_f_holds,q_Engaged_f_least⟩
 have D_Rule_choose:DefM K C_Rule "choose" "Rule.choose" (u7 (top 21) 0) ["self","hall","calls","free"] [] noKw:=⟨fm_Rule_choose,_,⟨⟨_,_,_,_,_,_,_,_,_,_,rfl,q_Rule_choose_l,q_Rule_choose_c⟩⟩,⟨q_Rule_choose_a,q_Rule_choose_i,q_Rule_choose_k⟩,trivial,fun m hm=>match m,hm with | 0,_=>⟨[],.nil,.all fun us hl=>match us,hl with | [_,_,_,_],_=>rfl⟩ | _ + 1,h=>absurd h (by simp)⟩
 have D_Round___init__:DefM K C_Round "__init__" "Round.__init__" (u7 (top 22) 0) ["self","start"] [.int 0] (aI8 K "start"):=⟨fm_Round___init__,_,⟨⟨_,_,_,_,_,_,_,_,_,_,rfl,q_Round___init___l,q_Round___init___c⟩⟩,⟨q_Round___init___a,q_Round___init___i,q_Round___init___k⟩,(fun s u v X=>BindsTo.of_defaults rfl (X _ _ q_Round___init___d) rfl rfl rfl),fun m hm=>match m,hm with | 0,_=>⟨[.int 0 tdm_Round___init___0],(.cons ⟨_,rfl⟩ .nil),fun s us X hl=>match us,(show us.length = 1 from by simpa using hl) with | [_],_=>BindsTo.of_defaults rfl (X _ _ q_Round___init___d) rfl rfl rfl⟩ | 1,_=>⟨[],.nil,fun s us X hl=>match us,(show us.length = 2 from by simpa using hl) with | [_,_],_=>BindsTo.of_defaults rfl (X _ _ q_Round___init___d) rfl rfl rfl⟩ | _ + 2,h=>absurd h (by simp)⟩
 have D_Round_choose:DefM K C_Round "choose" "Round.choose" (u7 (top 22) 1) ["self","hall","calls","free"] [] noKw:=⟨fm_Round_choose,_,⟨⟨_,_,_,_,_,_,_,_,_,_,rfl,q_Round_choose_l,q_Round_choose_c⟩⟩,⟨q_Round_choose_a,q_Round_choose_i,q_Round_choose_k⟩,trivial,fun m hm=>match m,hm with | 0,_=>⟨[],.nil,.all fun us hl=>match us,hl with | [_,_,_,_],_=>rfl⟩ | _ + 1,h=>absurd h (by simp)⟩
 have D_Busy___init__:DefM K C_Busy "__init__" "Busy.__init__" (u7 (top 7) 0) ["self","who"] [] noKw:=⟨fm_Busy___init__,_,⟨⟨_,_,_,_,_,_,_,_,_,_,rfl,q_Busy___init___l,q_Busy___init___c⟩⟩,⟨q_Busy___init___a,q_Busy___init___i,q_Busy___init___k⟩,trivial,fun m hm=>match m,hm with | 0,_=>⟨[],.nil,.all fun us hl=>match us,hl with | [_,_],_=>rfl⟩ | _ + 1,h=>absurd h (by simp)⟩
 have D_Engaged___init__:DefM K C_Engaged "__init__" "Engaged.__init__" (u7 (top 8) 0) ["self","holds","least"] [] noKw:=⟨fm_Engaged___init__,_,⟨⟨_,_,_,_,_,_,_,_,_,_,rfl,q_Engaged___init___l,q_Engaged___init___c⟩⟩,⟨q_Engaged___init___a,q_Engaged___init___i,q_Engaged___init___k⟩,trivial,fun m hm=>match m,hm with | 0,_=>⟨[],.nil,.all fun us hl=>match us,hl with | [_,_,_],_=>rfl⟩ | _ + 1,h=>absurd h (by simp)⟩
 have D_is_number:Def K mg "is_number" (top 11) ["thing"]:=w9 X G a1 l1 c1 k1 fun us hl=>match us,hl with | [_],_=>rfl
 have D_is_whole:Def K mg "is_whole" (top 12) ["thing","least","most"]:=w9 X G a2 l2 c2 k2 fun us hl=>match us,hl with | [_,_,_],_=>rfl
 have D_place_in:Def K mg "place_in" (top 13) ["hall","caller"]:=w9 X G a3 l3 c3 k3 fun us hl=>match us,hl with | [_,_],_=>rfl
 have D_place_out:Def K mg "place_out" (top 14) ["hall","end"]:=w9 X G a4 l4 c4 k4 fun us hl=>match us,hl with | [_,_],_=>rfl
 have D_are_ends:Def K mg "are_ends" (top 15) ["hall","things"]:=w9 X G a5 l5 c5 k5 fun us hl=>match us,hl with | [_,_],_=>rfl
 have D_racks_of:Def K mg "racks_of" (top 16) ["hall","ends"]:=w9 X G a6 l6 c6 k6 fun us hl=>match us,hl with | [_,_],_=>rfl
 have D_left_open:Def K mg "left_open" (top 18) ["hall","shut"]:=w9 X G a7 l7 c7 k7 fun us hl=>match us,hl with | [_,_],_=>rfl
 have D_are_unlike:Def K mg "are_unlike" (top 19) ["some"]:=w9 X G a8 l8 c8 k8 fun us hl=>match us,hl with | [_],_=>rfl
 have D_is_caller:Def K mg "is_caller" (top 24) ["hall","thing"]:=w9 X G a9 l9 c9 k9 fun us hl=>match us,hl with | [_,_],_=>rfl
 have D_is_ends:Def K mg "is_ends" (top 25) ["hall","thing"]:=w9 X G a10 l10 c10 k10 fun us hl=>match us,hl with | [_,_],_=>rfl
 have D_holds_needed:Def K mg "holds_needed" (top 26) ["hall","call","start","goals"]:=w9 X G a11 l11 c11 k11 fun us hl=>match us,hl with | [_,_,_,_],_=>rfl
 have D_holders:Def K mg "holders" (top 27) ["hall","calls","caller","ends"]:=w9 X G a12 l12 c12 k12 fun us hl=>match us,hl with | [_,_,_,_],_=>rfl
 have D_ways:DefD K mg "ways" (top 28) ["hall","calls","caller","ends","shut"] [.int 0]:=⟨f13,_,⟨_,_,_,_,_,_,_,_,_,_,rfl,l13,c13⟩,k13,fun m hm=>match m,hm with | 0,_=>⟨[.int 0 td13_0],(.cons ⟨_,rfl⟩ .nil),fun s us X hl=>match us,(show us.length = 4 from by simpa using hl) with | [_,_,_,_],_=>BindsTo.of_defaults rfl (X _ _ dl13) rfl rfl rfl⟩ | 1,_=>⟨[],.nil,fun s us X hl=>match us,(show us.length = 5 from by simpa using hl) with | [_,_,_,_,_],_=>BindsTo.of_defaults rfl (X _ _ dl13) rfl rfl rfl⟩ | _ + 2,h=>absurd h (by simp),PySem.W.mg_of X G a13⟩
 have D_least_ended:DefD K mg "least_ended" (top 29) ["hall","calls","caller","ends","shut"] [.int 0]:=⟨f14,_,⟨_,_,_,_,_,_,_,_,_,_,rfl,l14,c14⟩,k14,fun m hm=>match m,hm with | 0,_=>⟨[.int 0 td14_0],(.cons ⟨_,rfl⟩ .nil),fun s us X hl=>match us,(show us.length = 4 from by simpa using hl) with | [_,_,_,_],_=>BindsTo.of_defaults rfl (X _ _ dl14) rfl rfl rfl⟩ | 1,_=>⟨[],.nil,fun s us X hl=>match us,(show us.length = 5 from by simpa using hl) with | [_,_,_,_,_],_=>BindsTo.of_defaults rfl (X _ _ dl14) rfl rfl rfl⟩ | _ + 2,h=>absurd h (by simp),PySem.W.mg_of X G a14⟩
 have D_call_of:Def K mg "call_of" (top 31) ["calls","caller"]:=w9 X G a15 l15 c15 k15 fun us hl=>match us,hl with | [_,_],_=>rfl
 have D_holder_of:Def K mg "holder_of" (top 32) ["calls","end"]:=w9 X G a16 l16 c16 k16 fun us hl=>match us,hl with | [_,_],_=>rfl
 have D_refuse_wrong:Def K mg "refuse_wrong" (top 33) ["hall","caller","ends"]:=w9 X G a17 l17 c17 k17 fun us hl=>match us,hl with | [_,_,_],_=>rfl
 have D_refuse_busy:Def K mg "refuse_busy" (top 34) ["calls","caller","ends"]:=w9 X G a18 l18 c18 k18 fun us hl=>match us,hl with | [_,_,_],_=>rfl
 have D_refuse_engaged:Def K mg "refuse_engaged" (top 35) ["hall","calls","caller","ends","shut"]:=w9 X G a19 l19 c19 k19 fun us hl=>match us,hl with | [_,_,_,_,_],_=>rfl
 have D_with_call:Def K mg "with_call" (top 36) ["calls","caller","ends","k"]:=w9 X G a20 l20 c20 k20 fun us hl=>match us,hl with | [_,_,_,_],_=>rfl
 have D_joined:DefD K mg "joined" (top 37) ["hall","calls","caller","ends","rule","shut"] [.non,.int 0]:=⟨f21,_,⟨_,_,_,_,_,_,_,_,_,_,rfl,l21,c21⟩,k21,fun m hm=>match m,hm with | 0,_=>⟨[.none,.int 0 td21_1],(.cons rfl (.cons ⟨_,rfl⟩ .nil)),fun s us X hl=>match us,(show us.length = 4 from by simpa using hl) with | [_,_,_,_],_=>BindsTo.of_defaults rfl (X _ _ dl21) rfl rfl rfl⟩ | 1,_=>⟨[.int 0 td21_1],(.cons ⟨_,rfl⟩ .nil),fun s us X hl=>match us,(show us.length = 5 from by simpa using hl) with | [_,_,_,_,_],_=>BindsTo.of_defaults rfl (X _ _ dl21) rfl rfl rfl⟩ | 2,_=>⟨[],.nil,fun s us X hl=>match us,(show us.length = 6 from by simpa using hl) with | [_,_,_,_,_,_],_=>BindsTo.of_defaults rfl (X _ _ dl21) rfl rfl rfl⟩ | _ + 3,h=>absurd h (by simp),PySem.W.mg_of X G a21⟩
 have D__law_cell_at:Def K mg "_law_cell_at" (top 39) ["_law_script","_law_k"]:=w9 X G a22 l22 c22 k22 fun us hl=>match us,hl with | [_,_],_=>rfl
 have D__law_hall:Def K mg "_law_hall" (top 40) ["_law_script"]:=w9 X G a23 l23 c23 k23 fun us hl=>match us,hl with | [_],_=>rfl
 have D__law_ends:Def K mg "_law_ends" (top 41) ["_law_hall_here","_law_number_here"]:=w9 X G a24 l24 c24 k24 fun us hl=>match us,hl with | [_,_],_=>rfl
 have D__law_lines:Def K mg "_law_lines" (top 42) ["_law_hall_here","_law_caller_here","_law_ends_here","_law_k"]:=w9 X G a25 l25 c25 k25 fun us hl=>match us,hl with | [_,_,_,_],_=>rfl
 have D__law_number:Def K mg "_law_number" (top 43) ["_law_cell","_law_at"]:=w9 X G a26 l26 c26 k26 fun us hl=>match us,hl with | [_,_],_=>rfl
 have D__law_try:Def K mg "_law_try" (top 44) ["_law_hall_here","_law_taken","_law_number_here"]:=w9 X G a27 l27 c27 k27 fun us hl=>match us,hl with | [_,_,_],_=>rfl
 have D__law_calls:Def K mg "_law_calls" (top 45) ["_law_hall_here","_law_cells"]:=w9 X G a28 l28 c28 k28 fun us hl=>match us,hl with | [_,_],_=>rfl
 have D__law_alike:Def K mg "_law_alike" (top 46) ["_law_found","_law_due_here"]:=w9 X G a29 l29 c29 k29 fun us hl=>match us,hl with | [_,_],_=>rfl
 have D__law_kind:Def K mg "_law_kind" (top 47) ["_law_e"]:=w9 X G a30 l30 c30 k30 fun us hl=>match us,hl with | [_],_=>rfl
 have D__law_holds:Def K mg "_law_holds" (top 48) ["_law_hall_here","_law_calls_here","_law_caller_here","_law_ends_here"]:=w9 X G a31 l31 c31 k31 fun us hl=>match us,hl with | [_,_,_,_],_=>rfl
 have D__law_best:Def K mg "_law_best" (top 49) ["_law_hall_here","_law_kept","_law_shut"]:=w9 X G a32 l32 c32 k32 fun us hl=>match us,hl with | [_,_,_],_=>rfl
 have D__law_busy:Def K mg "_law_busy" (top 50) ["_law_calls_here","_law_caller_here","_law_ends_here"]:=w9 X G a33 l33 c33 k33 fun us hl=>match us,hl with | [_,_,_],_=>rfl
 have D__law_caller:Def K mg "_law_caller" (top 51) ["_law_hall_here","_law_calls_here","_law_number_here"]:=w9 X G a34 l34 c34 k34 fun us hl=>match us,hl with | [_,_,_],_=>rfl
 have D__law_wanted:Def K mg "_law_wanted" (top 52) ["_law_hall_here","_law_calls_here","_law_number_here"]:=w9 X G a35 l35 c35 k35 fun us hl=>match us,hl with | [_,_,_],_=>rfl
 have D__law_none:Def K mg "_law_none" (top 53) ["_law_hall_here","_law_caller_here","_law_ends_here"]:=w9 X G a36 l36 c36 k36 fun us hl=>match us,hl with | [_,_,_],_=>rfl
 have D__law_due:Def K mg "_law_due" (top 54) ["_law_hall_here","_law_calls_here","_law_caller_here","_law_ends_here","_law_shut"]:=w9 X G a37 l37 c37 k37 fun us hl=>match us,hl with | [_,_,_,_,_],_=>rfl
 have D__law_paper:Def K mg "_law_paper" (top 55) ["_law_e","_law_due_here"]:=w9 X G a38 l38 c38 k38 fun us hl=>match us,hl with | [_,_],_=>rfl
 have D__law_right:Def K mg "_law_right" (top 56) ["_law_found","_law_calls_here","_law_caller_here","_law_ends_here","_law_free"]:=w9 X G a39 l39 c39 k39 fun us hl=>match us,hl with | [_,_,_,_,_],_=>rfl
 have D__law_asked:Def K mg "_law_asked" (top 57) ["_law_hall_here","_law_calls_here","_law_number_here","_law_turns"]:=w9 X G a40 l40 c40 k40 fun us hl=>match us,hl with | [_,_,_,_],_=>rfl
 have F:=aS5 (st:=top 58) l41 c41 k41
 refine ⟨PySem.W.fnOf "law" "law" (m5 (top 58)) (j9 (top 58)) (i7 (top 58)) .none kV41 dc41 pm41 an41 cd41 ct41,fun s v=>.of_eq rfl,fun base _ _=>?_⟩
 have C_cell:=a49 (P:=l.prog) (w:=w) (base:=base) T D__law_cell_at
 have C_lines:=aV4 (P:=l.prog) (w:=w) (base:=base) T D__law_lines
 have C_ends:=aX4 (P:=l.prog) (w:=w) (base:=base) T D__law_ends
 have C_num:=aO5 (P:=l.prog) (w:=w) (base:=base) T D__law_number
 have C_pi:=aA7 (P:=l.prog) (w:=w) (base:=base) T D_place_in
 have C_ra:=aR5 (P:=l.prog) (w:=w) (base:=base) T (aq5 T D_place_out) D_racks_of
 have C_hold:=aD2 T C_pi C_ra (aO2 T C_pi C_ra D_holds_needed) D_holders
 have C_open:=aY8 (P:=l.prog) (w:=w) (base:=base) T D_left_open
 have C_least:=aQ0 T C_hold C_open D_least_ended
 have C_isn:=at9 (P:=l.prog) (w:=w) (base:=base) T D_is_number
 have C_isw:=aA0 T C_isn D_is_whole
 have C_ise:=aE4 T (ay9 T C_isw D_are_ends) (aM5 T D_are_unlike) D_is_ends
 have C_co:=aG8 T C_isn D_call_of
 have C_ho:=au9 T C_isn D_holder_of
 have C_wr:=aU6 T Z (ar1 T C_isw D_is_caller) C_ise D_refuse_wrong
 have C_rb:=aH4 T Z C_co C_ho (aW8 T Z D_Busy___init__) D_refuse_busy
 have C_re:=aM8 T Z C_hold C_least (aZ4 T Z D_Engaged___init__) D_refuse_engaged
 have C_jo:=aL5 T Z C_wr C_rb (a51 T C_hold C_open D_ways) C_re (aN2 T Z D_Rule_choose) (aN4 T Z D_Round_choose) (aZ2 T D_with_call) D_joined
 have C_due:=aS7 T (aX5 T D__law_none) (aT9 T D__law_busy) (aM4 T C_lines D__law_holds) (aZ6 T D__law_best) D__law_due
 have C_pap:=aU7 (P:=l.prog) (w:=w) (base:=base) T Z (aX6 T Z D__law_kind) (aw9 T D__law_alike 2) D__law_paper
 have C_ask:=aF0 T Z (aD9 T D__law_caller) (aP7 T C_ends D__law_wanted) C_due C_jo (aD7 T (aB6 T D__law_alike 3) D__law_right) C_pap D__law_asked
 exact a78 T Z (a48 T C_cell D__law_hall) (aR8 T C_num (a_6 T C_ends C_lines D__law_try) D__law_calls) C_num (a42 T Z D_Round___init__) C_ask F
end
theorem walk {l:PySem.W.OpenLaw} {q:Program} {loose:List Str} {XP:(Str → Option Value) → Heap → Prop} {YP:World → Heap → Prop} {d:DefRec} {K:Params → PySem.W.Frag} (hn:l.most = some 63) (hdf:d.params.defaults = [])
  (hY:∀ (w:World) (h:Heap),YP w h → (K w.params).In h)
  (F:∀ (w:World) (mg:Str → Option Value) (fa:Addr) (h:Heap),(K w.params).In h → h.Ns mainGlobals mg → mg d.name = some (.ref fa) →
   ∃ fd:FuncData,(∀ (s:Shared) (u:Value),BindsTo s fd ⟨[u],[]⟩ [("_law_script",u)]) ∧ ∀ base:Heap,(K w.params).In base → base.Ns mainGlobals mg → FnOk l.prog w (K w.params) mg base CX0 9 fa fd ["_law_script"] (aK4 (K w.params))) :
  PySem.W.WalkO q loose XP YP l.row.toRowW d [] (fun f vs=>PySem.call f vs) :=
 L2.a54 (n:=63) (k:=9) (x:="_law_script") (CX:=fun _=>CX0) (sp:=fun w=>aK4 (K w.params)) hn (by decide) hdf ⟨rfl,by decide,by decide⟩ hY F (fun _ _ a ns hl _ hS=>⟨a,ns,rfl,hS,hl,fun _=>rfl⟩) fun _ _ _ _ _ z=>z
end My
open PySem PySem.W PyProof.Rows
set_option maxRecDepth 100000 in
set_option maxHeartbeats 0 in
theorem PySem.Challenge.cw_crossracks_k23_what_is_refused_holds : PySem.Challenge.rw_crossracks_k23_what_is_refused.Holds := by
 w_on; o_law; k_head; (case hw=>w_witness2)
 k_fill
 refine My.walk (l:=PySem.Challenge.rw_crossracks_k23_what_is_refused) rfl rfl (fun w h Y=>PySem.W.kIn_of Y) ?F
 case F =>
  intro w mg fa h KX G hmg
  refine' My.bb1 KX G hmg ?a1 ?l1 ?c1 ?k1 ?a2 ?l2 ?c2 ?k2 ?a3 ?l3 ?c3 ?k3 ?a4 ?l4 ?c4 ?k4 ?a5 ?l5 ?c5 ?k5 ?a6 ?l6 ?c6 ?k6 ?a7 ?l7 ?c7 ?k7 ?a8 ?l8 ?c8 ?k8 ?a9 ?l9 ?c9 ?k9 ?a10 ?l10 ?c10 ?k10 ?a11 ?l11 ?c11 ?k11 ?a12 ?l12 ?c12 ?k12 ?dl13 ?a13 ?l13 ?c13 ?k13 ?dl14 ?a14 ?l14 ?c14 ?k14 ?a15 ?l15 ?c15 ?k15 ?a16 ?l16 ?c16 ?k16 ?a17 ?l17 ?c17 ?k17 ?a18 ?l18 ?c18 ?k18 ?a19 ?l19 ?c19 ?k19 ?a20 ?l20 ?c20 ?k20 ?dl21 ?a21 ?l21 ?c21 ?k21 ?a22 ?l22 ?c22 ?k22 ?a23 ?l23 ?c23 ?k23 ?a24 ?l24 ?c24 ?k24 ?a25 ?l25 ?c25 ?k25 ?a26 ?l26 ?c26 ?k26 ?a27 ?l27 ?c27 ?k27 ?a28 ?l28 ?c28 ?k28 ?a29 ?l29 ?c29 ?k29 ?a30 ?l30 ?c30 ?k30 ?a31 ?l31 ?c31 ?k31 ?a32 ?l32 ?c32 ?k32 ?a33 ?l33 ?c33 ?k33 ?a34 ?l34 ?c34 ?k34 ?a35 ?l35 ?c35 ?k35 ?a36 ?l36 ?c36 ?k36 ?a37 ?l37 ?c37 ?k37 ?a38 ?l38 ?c38 ?k38 ?a39 ?l39 ?c39 ?k39 ?a40 ?l40 ?c40 ?k40 ?a41 ?l41 ?c41 ?k41   ?q_Rule_at ?q_Rule_pg ?q_Rule_hd ?q_Rule_po ?q_Rule_sa ?q_Rule_mk ?q_Rule_kc ?q_Rule_ha ?q_Rule_hn ?q_Rule_ht ?q_Rule_hm ?q_Rule_pi ?q_Round_at ?q_Round_pg ?q_Round_hd ?q_Round_po ?q_Round_sa ?q_Round_mk ?q_Round_kc ?q_Round_ha ?q_Round_hn ?q_Round_ht ?q_Round_hm ?q_Round_n_start ?q_HallError_at ?q_NoHall_at ?q_NoCalls_at ?q_NoLine_at ?q_NoRule_at ?q_Idle_at ?q_Busy_at ?q_Engaged_at ?q_NoMove_at ?q_Round_cl ?q_Round_tt ?q_Rule_cl ?q_Rule_tt ?q_kit_Round_Rule ?q_kit_Round_Round ?q_HallError_ic ?q_HallError_ty ?q_NoHall_ic ?q_NoHall_ty ?q_NoCalls_ic ?q_NoCalls_ty ?q_NoLine_ic ?q_NoLine_ty ?q_NoRule_ic ?q_NoRule_ty ?q_Idle_ic ?q_Idle_ty ?q_Busy_ic ?q_Busy_ty ?q_Engaged_ic ?q_Engaged_ty ?q_NoMove_ic ?q_NoMove_ty ?q_hb ?q_gt ?q_tk ?q_NoLine_ex ?q_NoLine_ga ?q_NoLine_gn ?q_NoLine_cl ?q_NoLine_mo ?q_NoLine_mb ?q_NoLine_sv ?q_NoLine_s_HallError ?q_NoLine_s_NoHall ?q_NoLine_s_NoCalls ?q_NoLine_s_NoLine ?q_NoLine_s_NoRule ?q_NoLine_s_Idle ?q_NoLine_s_Busy ?q_NoLine_s_Engaged ?q_NoLine_s_NoMove ?q_Busy_sa ?q_Busy_f_who ?q_Busy_ga ?q_Busy_gn ?q_Busy_cl ?q_Busy_mo ?q_Busy_mb ?q_Busy_sv ?q_Busy_s_HallError ?q_Busy_s_NoHall ?q_Busy_s_NoCalls ?q_Busy_s_NoLine ?q_Busy_s_NoRule ?q_Busy_s_Idle ?q_Busy_s_Busy ?q_Busy_s_Engaged ?q_Busy_s_NoMove ?q_Engaged_sa ?q_Engaged_f_holds ?q_Engaged_f_least ?q_Engaged_ga ?q_Engaged_gn ?q_Engaged_cl ?q_Engaged_mo ?q_Engaged_mb ?q_Engaged_sv ?q_Engaged_s_HallError ?q_Engaged_s_NoHall ?q_Engaged_s_NoCalls ?q_Engaged_s_NoLine ?q_Engaged_s_NoRule ?q_Engaged_s_Idle ?q_Engaged_s_Busy ?q_Engaged_s_Engaged ?q_Engaged_s_NoMove ?q_Rule_choose_a ?q_Rule_choose_i ?q_Rule_choose_l ?q_Rule_choose_c ?q_Rule_choose_k ?q_Round___init___a ?q_Round___init___i ?q_Round___init___l ?q_Round___init___c ?q_Round___init___k ?q_Round___init___d ?q_Round_choose_a ?q_Round_choose_i ?q_Round_choose_l ?q_Round_choose_c ?q_Round_choose_k ?q_Busy___init___a ?q_Busy___init___i ?q_Busy___init___l ?q_Busy___init___c ?q_Busy___init___k ?q_Engaged___init___a ?q_Engaged___init___i ?q_Engaged___init___l ?q_Engaged___init___c ?q_Engaged___init___k ?q_Busy_xi ?q_Engaged_xi ?z_len ?z_isinstance ?z_int ?z_bool ?z_tuple ?z_list ?z_set ?z_sorted ?z_divmod ?z_range ?z_abs ?z_min ?z_any ?z_all ?z_str ?z_ValueError
  (case a1=>k_is); (case l1=>k_is); (case c1=>k_is); (case k1=>k_is)
  (case a2=>k_is); (case l2=>k_is); (case c2=>k_is); (case k2=>k_is)
  (case a3=>k_is); (case l3=>k_is); (case c3=>k_is); (case k3=>k_is)
  (case a4=>k_is); (case l4=>k_is); (case c4=>k_is); (case k4=>k_is)
  (case a5=>k_is); (case l5=>k_is); (case c5=>k_is); (case k5=>k_is)
  (case a6=>k_is); (case l6=>k_is); (case c6=>k_is); (case k6=>k_is)
  (case a7=>k_is); (case l7=>k_is); (case c7=>k_is); (case k7=>k_is)
  (case a8=>k_is); (case l8=>k_is); (case c8=>k_is); (case k8=>k_is)
  (case a9=>k_is); (case l9=>k_is); (case c9=>k_is); (case k9=>k_is)
  (case a10=>k_is); (case l10=>k_is); (case c10=>k_is); (case k10=>k_is)
  (case a11=>k_is); (case l11=>k_is); (case c11=>k_is); (case k11=>k_is)
  (case a12=>k_is); (case l12=>k_is); (case c12=>k_is); (case k12=>k_is)
  (case a13=>k_is); (case l13=>k_is); (case dl13=>k_is); (case c13=>k_is); (case k13=>k_is)
  (case a14=>k_is); (case l14=>k_is); (case dl14=>k_is); (case c14=>k_is); (case k14=>k_is)
  (case a15=>k_is); (case l15=>k_is); (case c15=>k_is); (case k15=>k_is)
  (case a16=>k_is); (case l16=>k_is); (case c16=>k_is); (case k16=>k_is)
  (case a17=>k_is); (case l17=>k_is); (case c17=>k_is); (case k17=>k_is)
  (case a18=>k_is); (case l18=>k_is); (case c18=>k_is); (case k18=>k_is)
  (case a19=>k_is); (case l19=>k_is); (case c19=>k_is); (case k19=>k_is)
  (case a20=>k_is); (case l20=>k_is); (case c20=>k_is); (case k20=>k_is)
  (case a21=>k_is); (case l21=>k_is); (case dl21=>k_is); (case c21=>k_is); (case k21=>k_is)
  (case a22=>k_is); (case l22=>k_is); (case c22=>k_is); (case k22=>k_is)
  (case a23=>k_is); (case l23=>k_is); (case c23=>k_is); (case k23=>k_is)
  (case a24=>k_is); (case l24=>k_is); (case c24=>k_is); (case k24=>k_is)
  (case a25=>k_is); (case l25=>k_is); (case c25=>k_is); (case k25=>k_is)
  (case a26=>k_is); (case l26=>k_is); (case c26=>k_is); (case k26=>k_is)
  (case a27=>k_is); (case l27=>k_is); (case c27=>k_is); (case k27=>k_is)
  (case a28=>k_is); (case l28=>k_is); (case c28=>k_is); (case k28=>k_is)
  (case a29=>k_is); (case l29=>k_is); (case c29=>k_is); (case k29=>k_is)
  (case a30=>k_is); (case l30=>k_is); (case c30=>k_is); (case k30=>k_is)
  (case a31=>k_is); (case l31=>k_is); (case c31=>k_is); (case k31=>k_is)
  (case a32=>k_is); (case l32=>k_is); (case c32=>k_is); (case k32=>k_is)
  (case a33=>k_is); (case l33=>k_is); (case c33=>k_is); (case k33=>k_is)
  (case a34=>k_is); (case l34=>k_is); (case c34=>k_is); (case k34=>k_is)
  (case a35=>k_is); (case l35=>k_is); (case c35=>k_is); (case k35=>k_is)
  (case a36=>k_is); (case l36=>k_is); (case c36=>k_is); (case k36=>k_is)
  (case a37=>k_is); (case l37=>k_is); (case c37=>k_is); (case k37=>k_is)
  (case a38=>k_is); (case l38=>k_is); (case c38=>k_is); (case k38=>k_is)
  (case a39=>k_is); (case l39=>k_is); (case c39=>k_is); (case k39=>k_is)
  (case a40=>k_is); (case l40=>k_is); (case c40=>k_is); (case k40=>k_is)
  (case a41=>k_is); (case l41=>k_is); (case c41=>k_is); (case k41=>k_is)
  (case q_Rule_at=>k_is)
  (case q_Rule_pg=>k_is)
  (case q_Rule_hd=>k_is)
  (case q_Rule_po=>k_is)
  (case q_Rule_sa=>k_is)
  (case q_Rule_mk=>k_is)
  (case q_Rule_kc=>k_is)
  (case q_Rule_ha=>k_is)
  (case q_Rule_hn=>k_is)
  (case q_Rule_ht=>k_is)
  (case q_Rule_hm=>k_is)
  (case q_Rule_pi=>k_is)
  (case q_Round_at=>k_is)
  (case q_Round_pg=>k_is)
  (case q_Round_hd=>k_is)
  (case q_Round_po=>k_is)
  (case q_Round_sa=>k_is)
  (case q_Round_mk=>k_is)
  (case q_Round_kc=>k_is)
  (case q_Round_ha=>k_is)
  (case q_Round_hn=>k_is)
  (case q_Round_ht=>k_is)
  (case q_Round_hm=>k_is)
  (case q_Round_n_start=>k_is)
  (case q_HallError_at=>k_is)
  (case q_NoHall_at=>k_is)
  (case q_NoCalls_at=>k_is)
  (case q_NoLine_at=>k_is)
  (case q_NoRule_at=>k_is)
  (case q_Idle_at=>k_is)
  (case q_Busy_at=>k_is)
  (case q_Engaged_at=>k_is)
  (case q_NoMove_at=>k_is)
  (case q_Round_cl=>k_is)
  (case q_Round_tt=>k_is)
  (case q_Rule_cl=>k_is)
  (case q_Rule_tt=>k_is)
  (case q_kit_Round_Rule=>k_is)
  (case q_kit_Round_Round=>k_is)
  (case q_HallError_ic=>k_is)
  (case q_HallError_ty=>k_is)
  (case q_NoHall_ic=>k_is)
  (case q_NoHall_ty=>k_is)
  (case q_NoCalls_ic=>k_is)
  (case q_NoCalls_ty=>k_is)
  (case q_NoLine_ic=>k_is)
  (case q_NoLine_ty=>k_is)
  (case q_NoRule_ic=>k_is)
  (case q_NoRule_ty=>k_is)
  (case q_Idle_ic=>k_is)
  (case q_Idle_ty=>k_is)
  (case q_Busy_ic=>k_is)
  (case q_Busy_ty=>k_is)
  (case q_Engaged_ic=>k_is)
  (case q_Engaged_ty=>k_is)
  (case q_NoMove_ic=>k_is)
  (case q_NoMove_ty=>k_is)
  (case q_hb=>k_is)
  (case q_gt=>k_is)
  (case q_tk=>k_is)
  (case q_NoLine_ex=>k_exc)
  (case q_NoLine_ga=>k_is)
  (case q_NoLine_gn=>k_is)
  (case q_NoLine_cl=>k_is)
  (case q_NoLine_mo=>k_is)
  (case q_NoLine_mb=>k_is)
  (case q_NoLine_sv=>k_is)
  (case q_NoLine_s_HallError=>k_is)
  (case q_NoLine_s_NoHall=>k_is)
  (case q_NoLine_s_NoCalls=>k_is)
  (case q_NoLine_s_NoLine=>k_is)
  (case q_NoLine_s_NoRule=>k_is)
  (case q_NoLine_s_Idle=>k_is)
  (case q_NoLine_s_Busy=>k_is)
  (case q_NoLine_s_Engaged=>k_is)
  (case q_NoLine_s_NoMove=>k_is)
  (case q_Busy_sa=>k_is)
  (case q_Busy_f_who=>k_is)
  (case q_Busy_ga=>k_is)
  (case q_Busy_gn=>k_is)
  (case q_Busy_cl=>k_is)
  (case q_Busy_mo=>k_is)
  (case q_Busy_mb=>k_is)
  (case q_Busy_sv=>k_is)
  (case q_Busy_s_HallError=>k_is)
  (case q_Busy_s_NoHall=>k_is)
  (case q_Busy_s_NoCalls=>k_is)
  (case q_Busy_s_NoLine=>k_is)
  (case q_Busy_s_NoRule=>k_is)
  (case q_Busy_s_Idle=>k_is)
  (case q_Busy_s_Busy=>k_is)
  (case q_Busy_s_Engaged=>k_is)
  (case q_Busy_s_NoMove=>k_is)
  (case q_Engaged_sa=>k_is)
  (case q_Engaged_f_holds=>k_is)
  (case q_Engaged_f_least=>k_is)
  (case q_Engaged_ga=>k_is)
  (case q_Engaged_gn=>k_is)
  (case q_Engaged_cl=>k_is)
  (case q_Engaged_mo=>k_is)
  (case q_Engaged_mb=>k_is)
  (case q_Engaged_sv=>k_is)
  (case q_Engaged_s_HallError=>k_is)
  (case q_Engaged_s_NoHall=>k_is)
  (case q_Engaged_s_NoCalls=>k_is)
  (case q_Engaged_s_NoLine=>k_is)
  (case q_Engaged_s_NoRule=>k_is)
  (case q_Engaged_s_Idle=>k_is)
  (case q_Engaged_s_Busy=>k_is)
  (case q_Engaged_s_Engaged=>k_is)
  (case q_Engaged_s_NoMove=>k_is)
  (case q_Rule_choose_a=>k_is)
  (case q_Rule_choose_i=>k_is)
  (case q_Rule_choose_l=>k_is)
  (case q_Rule_choose_c=>k_is)
  (case q_Rule_choose_k=>k_is)
  (case q_Round___init___a=>k_is)
  (case q_Round___init___i=>k_is)
  (case q_Round___init___l=>k_is)
  (case q_Round___init___c=>k_is)
  (case q_Round___init___k=>k_is)
  (case q_Round___init___d=>k_is)
  (case q_Round_choose_a=>k_is)
  (case q_Round_choose_i=>k_is)
  (case q_Round_choose_l=>k_is)
  (case q_Round_choose_c=>k_is)
  (case q_Round_choose_k=>k_is)
  (case q_Busy___init___a=>k_is)
  (case q_Busy___init___i=>k_is)
  (case q_Busy___init___l=>k_is)
  (case q_Busy___init___c=>k_is)
  (case q_Busy___init___k=>k_is)
  (case q_Engaged___init___a=>k_is)
  (case q_Engaged___init___i=>k_is)
  (case q_Engaged___init___l=>k_is)
  (case q_Engaged___init___c=>k_is)
  (case q_Engaged___init___k=>k_is)
  (case q_Busy_xi=>kernel_rfl)
  (case q_Engaged_xi=>kernel_rfl)
  (case z_len=>k_is)
  (case z_isinstance=>k_is)
  (case z_int=>k_is)
  (case z_bool=>k_is)
  (case z_tuple=>k_is)
  (case z_list=>k_is)
  (case z_set=>k_is)
  (case z_sorted=>k_is)
  (case z_divmod=>k_is)
  (case z_range=>k_is)
  (case z_abs=>k_is)
  (case z_min=>k_is)
  (case z_any=>k_is)
  (case z_all=>k_is)
  (case z_str=>k_is)
  (case z_ValueError=>k_is)
